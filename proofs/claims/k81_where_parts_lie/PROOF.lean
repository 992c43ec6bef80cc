import PyProof.Rows.All
import Wide.All
import OpenK.AllK
import Wide.FinOn
import Lean
import PyProof.EqAt
import PyProof.EqKinds
import PyProof.TupleCall
import PyProof.StationsW
import PyProof.NsDelKeeps
import PyProof.PassesOwn
import PyProof.ZipIter
import PyProof.NeKinds
import PyProof.CompFree
import OpenK.KMake
import PyProof.EnumFor
import PyProof.EnumMake
import PyProof.EnumStmt
import KE.KDictList
import PyProof.ConsumeWalk
import PyProof.WalkInts
import PyProof.WalksMore
import PyProof.SumAny
import PyProof.Rows.MinMaxN
import PyProof.Rows.SortWalk
import PyProof.ListRange
import KE.KTupSum
import PyProof.FitsBits
import PyProof.CompUse
import KE.KLam
import KE.KNestM
import PyProof.DictWalks
import PyProof.DictItems
import KE.KSortTup
import KE.KItemsList
import KE.KEqDict
import PyProof.MinMaxWalk
import PyProof.SeqI3
import KE.KDictSum
import PyProof.ExcClass3
import PyProof.Rows.SetFrom
import KE.KRangeStep
import PyProof.StrWalks
import PyProof.FString5
import Wide.Seal
import PySem.Challenge.RW_wornpages_k81_where_parts_lie
set_option Elab.async false
set_option linter.all false
set_option maxRecDepth 100000
set_option maxHeartbeats 0
noncomputable abbrev hG:=@decide_eq_false
noncomputable abbrev hI:=@decide_eq_true
noncomputable abbrev kC:=@if_neg
noncomputable abbrev kG:=@if_pos
noncomputable abbrev kQ:=@decide_eq_true_eq
noncomputable abbrev m6:=@of_decide_eq_true
noncomputable abbrev g9:=@beq_eq_false_iff_ne
noncomputable abbrev dB:=@congrArg
noncomputable abbrev dU:=@beq_iff_eq
noncomputable abbrev wF:=@of_decide_eq_false
noncomputable abbrev wS:=@decide_eq_decide
open List renaming getElem?_eq_some_iff→hU, length_map→hV, getElem?_eq_getElem→hZ, mem_cons_of_mem→kD, mem_singleton→kF, mem_cons→kL, getD_eq_getElem?_getD→kM, size_toArray→kN, mem_cons_self→kO, mem_append_right→kP, getElem?_map→kW, map_append→kX, mem_range→k7, take_append_getElem→mB, mem_map→mD, length_range→mG, mem_of_getElem?→mJ, cons_append→mM, mem_filter→mO, mem_append_left→mP, getElem?_append_right→mQ, length_take→mR, map_cons→mS, length_filter_le→mT, length_append→mU, nil_append→mV, length_cons→mY, take_length→mZ, length_replicate→m7, mem_append→gA, nodup_cons→gC, length_set→gD, filter_cons→gF, all_eq_true→gK, getElem?_append_left→gM, pairwise_cons→gQ, filter_append→gR, replicate_succ→gW, not_mem_nil→gY, lookup_cons→gZ, getElem?_replicate→g5, find?_cons→g7, range_succ→g8, getElem?_eq_none→dJ, map_map→dQ, nodup_append→dR, filterMap_cons→dW, getElem_mem→dY, any_cons→d9, flatten_cons→rD, append_assoc→rE, getElem?_set_ne→rG, any_eq_true→rN, ext_getElem→rO, pairwise_iff_getElem→rQ, filter_sublist→rS, getElem?_range→rT, append_nil→r6, mem_filterMap→wA, find?_eq_none→wD, map_replicate→wE, getElem?_set_self→wI, pairwise_map→wM, length_singleton→wO, mem_iff_getElem→wX, foldl_cons→wY, filter_eq_self→cA, map_congr_left→cB, nodup_nil→cK, mem_of_find?_eq_some→cL, filter_congr→cR, length_drop→cX, getElem?_cons_succ→c7, getElem_map→c9, take_of_length_le→pK, pairwise_lt_range→pL, of_mem_zip→pN, length_nil→pP, take_eq_take_min→pU, countP_mono_left→pV, mem_of_mem_drop→sF, mem_of_mem_take→sG, getElem_of_mem→sK, toList_toArray→sN, getElem_range→sX, getElem?_take→sY, getElem?_drop→sZ, map_nil→nK, foldl_append→nN, find?_append→nO, countP_cons→nS, nodup_range→nX, forIn_cons→lB, find?_some→lE, perm_cons→lP, all_cons→xB, nil_perm→xD, map_set→xE, all_map→xF
open PySem.Heap renaming get?_push_of_some→hX, lt_size→kI, get?_push_size→kR, get?_update_other→mC, get?_update_self→rA, size_push→rH, get?_none_of_le→wT, size_update→nU
open PySem renaming wpAny_bind→kA, wpAny_pure→kU, boot_len→mW, mem_of_lookup→m8, wpAny_truthy_bool→gI, sizeLine_eq→gO, wpAny_mono→gU, wpAny_Call_Name_kw→gX, wpAny_holding→g0, codeAny_mono→dP, tupleKind_room_in1→d4, wpAny_passesOwn→rZ, wpAny_call→wB, call_meetsIn→cF, wpAny_pyIter_list→cN, wpAny_Call_method→cP, wpAny_field→cQ, wpAny_standAt→cU, seqIndex_neg→pE, wpAny_getItem_list_neg→pG, wpAny_execs_nil→pM, codeAny_builtin→pR, wpAny_isTrue_Compare1→pS, wpAny_loadName_local→pX, seqIndex_of→p7, wpAny_setField→p8, codeAny_call_builtin→p9, wpAny_newFunctionEnv→sD, wpAny_loadName_cell→sJ, wpAny_attempt→sQ, call_meets→sU, wpAny_assign_Name→nE, slot_list_getitem→nJ, wpAny_newObj_type→nL, wpAny_Name→lI, typeIs_str→lK, typeIs_int→lL
open Nat renaming le_refl→kB, lt_of_lt_of_le→kY, ne_of_lt→kZ, le_trans→mE, zero_le→mI, le_of_ble_eq_true→gH, lt_irrefl→gT, le_succ→dF, ne_of_gt→dZ, lt_succ_of_lt→rF, mul_le_mul_right→rL, lt_succ_self→rM, mul_comm→wK, div_lt_of_lt_mul→wW, le_of_lt→cC, le_of_eq→cE, lt_of_le_of_lt→cJ, add_mul→cS, one_mul→cT, not_lt→pJ, lt_trichotomy→nQ
open Bool renaming false_ne_true→kH, and_eq_true→mH, eq_iff_iff→d6, or_eq_true→d7, not_eq_true'→wL, true_and→cV, false_and→pZ, decide_and→lF, and_false→lQ, or_false→xA, false_or→xC
open Option.some renaming inj→kJ
open Option renaming map_eq_some_iff→mF, isSome_iff_exists→rV, bind_some→wR, isSome_map→cO, getD_none→nR, map_some→lD
open Int renaming toNat_natCast→mL, eq_ofNat_of_zero_le→gJ, toNat_of_nonneg→gN, emod_nonneg→gP, emod_lt_of_pos→gS, zero_add→g4, natCast_mul→r9, le_refl→wV, le_of_lt→cH, le_trans→nM, natCast_ediv→nV, natCast_add→lG, mul_nonneg→lM
open PySem.W renaming mg_of→m9, kia_one→gB, mg_none_of→gL, callWith_K→dH, methodCall_KW→wN, any_some→wQ, looks_findIn→wU, plainGet_of→wZ, cellsFrom_some→pD, kitx_list→nG, kitx_dict→nH, codeHd_of_K→nY
open PySem.PassesOwn renaming never→gE, leaving→nP
open Array renaming length_toList→gG, getElem?_eq_some_iff→rK, getD_eq_getD_getElem?→cG, getElem?_toList→pW, append_assoc→sT
open PySem.F renaming plainAttrs_list→g6, plainAttrs_dict→dX, called_set→d5, slot_dict_pop→rB, slot_dict_itemiterator_iter→rW, slot_list_append→rX, type_list_append→rY, slot_dict_get→wP, args_dict_pop_3→cY, args_dict_get_2→cZ, slot_dict_items→c8, slot_list_clear→pB, type_list_clear→pC, entry_dict_pop→pH, entry_dict_get→pI, type_dict_pop→pT, slot_int_rmul→nZ
open PySem.BindsTo renaming of_defaults→dC
open PySem.Calls renaming callWith_builtin→dE, spliced_cons→d0, evalArgs_plain→rJ, spliced_nil→wJ, Name_function_global→cI
open List.cons renaming inj→dG
open PySem.Obj renaming isFreed_of_fields→dL, data_mapFields→wC
open Ne renaming symm→dO
open List.Pairwise renaming map→dS
open Classical renaming byContradiction→rR, axiomOfChoice→wH
open PyProof.Rows.F renaming plain_set_update_loop→wG, entry_set_update_loop→pA
open PyProof.Rows renaming callWith_type1→cD, listUpdate_at→cW, subscriptTail_builtinR→pF, get?_update_seq→pQ, getElem?_mirror_all→sL, Subscript_→lJ
open Sum.inl renaming inj→cM
open PySem.SeqAt.EqAt renaming same→pO, int_str→sR, str_int→sS, of_refs→sV
open PySem.Around renaming frames_deeper→p6, under_plainId→sE
open PySem.Value renaming isStrOf_shape→sI, isInt_shape→nB
open PySem.Paired renaming length→sO
open PySem.SeqAt renaming eq_listAt→lA
open PySem.Walks renaming list→lN
open List.Perm renaming refl→lO
open PySem.EqMixed renaming eq_bool_str→lR, eq_str_bool→lT, ne_bool_str→lU, ne_str_bool→lW, eq_int_str→lY, eq_str_int→lZ, ne_int_str→l7, ne_str_int→l9
open Sum.inr renaming inj→xG
open PySem.W.Looks renaming here→xH, ld→xJ
open PySem.Heap.IsSliceOf renaming new→xI
set_option genSizeOf false
namespace L2
open PySem PySem.Spec PyProof.Rows
noncomputable abbrev Key:=Sum Int Str
noncomputable def q53:Key→Value→Bool
| .inl k,v=>Value.isInt k v
| .inr x,v=>Value.isStrOf x v
noncomputable def keyH(w:World):Key→Int
| .inl k=>hashInt k
| .inr x=>hashStr w x
theorem yL:∀{k:Key} {v:Value},q53 k v=true→(∃i t,k=Sum.inl i∧v=Value.int i t)∨(∃x t,k=Sum.inr x∧v=Value.str x t)
| .inl i,v,h=>by obtain⟨t,e⟩:=nB (k:=i) (v:=v) h;exact .inl ⟨i,t,rfl,e⟩
| .inr x,v,h=>by obtain⟨t,e⟩:=sI (x:=x) (v:=v) h;exact .inr ⟨x,t,rfl,e⟩
theorem q6W(i:Int)(t:Tok):q53 (.inl i) (.int i t)=true:=by simp[q53,Value.isInt]
theorem q6X(x:Str)(t:Tok):q53 (.inr x) (.str x t)=true:=by simp[q53,Value.isStrOf]
theorem qGA(a b:Int):decide ((Sum.inl a:Key)=Sum.inl b)=(a==b):=by(
by_cases e:a=b
·subst e;simp
have h:¬(Sum.inl a:Key)=Sum.inl b:=λq=>e (cM q)
rw[hG h]
exact(g9.mpr e).symm)
theorem qGB(a b:Str):decide ((Sum.inr a:Key)=Sum.inr b)=decide (a=b):=by(
by_cases e:a=b
·subst e;simp
have h:¬(Sum.inr a:Key)=Sum.inr b:=λq=>e (xG q)
rw[hG h,hG e])
theorem qGC(a:Int)(b:Str):decide ((Sum.inl a:Key)=Sum.inr b)=false:=hG (λq=>nomatch q)
theorem qGD(a:Str)(b:Int):decide ((Sum.inr a:Key)=Sum.inl b)=false:=hG (λq=>nomatch q)
noncomputable def jB(prog:Program)(w:World):PySem.KeyKind prog w Key where
is:=q53
hash:=keyH w
inj:=λv a b ha hb=>by
 rcases yL ha with⟨i,t,rfl,rfl⟩|⟨x,t,rfl,rfl⟩
 ·rcases yL hb with⟨j,u,rfl,e⟩|⟨y,u,rfl,e⟩
  ·injection e with e1 _;rw[e1]
  exact nomatch e
 rcases yL hb with⟨j,u,rfl,e⟩|⟨y,u,rfl,e⟩
 ·exact nomatch e
 injection e with e1 _;rw[e1]
byValue:=λk v h=>by rcases yL h with⟨i,t,rfl,rfl⟩|⟨x,t,rfl,rfl⟩<;>rfl
pyHash:=λhv h=>by
 rcases yL hv with⟨i,t,rfl,rfl⟩|⟨x,t,rfl,rfl⟩
 ·exact wpAny_pyHash_int h
 exact wpAny_pyHash_str h
eqBool:=λhu hv h=>by
 rcases yL hu with⟨i,t,rfl,rfl⟩|⟨x,t,rfl,rfl⟩
 ·rcases yL hv with⟨j,u,rfl,rfl⟩|⟨y,u,rfl,rfl⟩
  ·rw[qGA]at h;exact wpAny_eqBool_int h
  rw[qGC]at h;exact sR i t y u _ _ _ _ h
 rcases yL hv with⟨j,u,rfl,rfl⟩|⟨y,u,rfl,rfl⟩
 ·rw[qGD]at h;exact sS x t j u _ _ _ _ h
 rw[qGB]at h;exact wpAny_eqBool_str h
«strs»:=λk x t v h=>by
 rcases yL h with⟨i,u,rfl,e⟩|⟨y,u,rfl,e⟩
 ·exact nomatch e
 injection e with e1 _
 subst e1;cases v<;>rfl
theorem q8V(prog:Program)(w:World)(i:Int)(t:Tok):(jB prog w).is (.inl i) (.int i t)=true:=q6W i t
theorem q8W(prog:Program)(w:World)(x:Str)(t:Tok):(jB prog w).is (.inr x) (.str x t)=true:=q6X x t
inductive V where
|non|bl (b:Bool)|int (i:Int)|str (x:Str)|byt (b:Array UInt8)|flt (b:UInt64)|ref (a:Addr)|ty (n:String)
deriving DecidableEq
noncomputable def RelV:V→Value→Prop
| .non,u=>u=Value.none
| .bl b,u=>u=Value.bool b
| .int i,u=>∃t,u=Value.int i t
| .str x,u=>∃t,u=Value.str x t
| .byt b,u=>∃t,u=Value.bytes b t
| .flt b,u=>∃t,u=Value.float b t
| .ref a,u=>u=Value.ref a
| .ty n,u=>u=Value.type n
noncomputable abbrev Vals:List V→List Value→Prop:=Paired RelV
theorem Vals.length{xs:List V}{us:List Value}(r:Vals xs us):xs.length=us.length:=sO r
theorem Vals.get:∀{xs:List V} {us:List Value} {i:Nat} {x:V},Vals xs us→xs[i]?=some x→∃u,us[i]?=some u∧RelV x u
|_,_,_,_,.nil,e=>by simp at e
|_,_,0,_,.cons r _,e=>by simp at e;subst e;exact⟨_,rfl,r⟩
|_,_,i+1,x,.cons _ t,e=>by obtain⟨u,h1,h2⟩:=Vals.get (i:=i) (x:=x) t (by simpa using e);exact⟨u,by simpa using h1,h2⟩
theorem Vals.set{x:V}{u:Value}(r:RelV x u):∀{xs:List V} {us:List Value} (i:Nat),Vals xs us→Vals (xs.set i x) (us.set i u)
|_,_,_,.nil=>.nil
|_,_,0,.cons _ t=>.cons r t
|_,_,i+1,.cons q t=>.cons q (Vals.set r i t)
theorem Vals.append:∀{xs ys:List V} {us ws:List Value},Vals xs us→Vals ys ws→Vals (xs++ys) (us++ws)
|_,_,_,_,.nil,s=>s
|_,_,_,_,.cons r t,s=>.cons r (Vals.append t s)
theorem Vals.take:∀{xs:List V} {us:List Value} (n:Nat),Vals xs us→Vals (xs.take n) (us.take n)
|_,_,0,_=>.nil
|_,_,_ +1,.nil=>.nil
|_,_,n+1,.cons r t=>.cons r (Vals.take n t)
theorem Vals.drop:∀{xs:List V} {us:List Value} (n:Nat),Vals xs us→Vals (xs.drop n) (us.drop n)
|_,_,0,r=>r
|_,_,_ +1,.nil=>.nil
|_,_,n+1,.cons _ t=>Vals.drop n t
noncomputable def RelO:Option V→Option Value→Prop
|some v,some u=>RelV v u
|none,none=>True
|_,_=>False
noncomputable def KV{κ:Type}:List (κ×V)→List (κ×Value)→Prop:=Paired λ(p:κ×V) (q:κ×Value)=>p.1=q.1∧RelV p.2 q.2
noncomputable def kV:Key→V
| .inl i=>.int i
| .inr x=>.str x
inductive HO where
|lst (xs:List V)
|tup (xs:List V)
|dK (kvs:List (Key×V))|dT (kvs:List (List Key×V))
|set (S:Int→Bool) (n:Nat)
|ins (C dx:Addr) (fs:List (Str×V))
|own (x:Addr)
|xd (fs:List (Str×V))
|met (f x:Addr)
|rng (lo hi:Int)
|frz (o:Obj) (u:HO)
|tbl (ps:Array Value)
|ext (φ:Heap→Prop)
noncomputable abbrev Hp:=Addr→Option HO
noncomputable def upd(H:Hp)(a:Addr)(o:HO):Hp:=λb=>if b=a then some o else H b
theorem qG{H:Hp}{a:Addr}{o:HO}:upd H a o a=some o:=by unfold upd;rw[kG rfl]
theorem qE{H:Hp}{a b:Addr}{o:HO}(h:b≠a):upd H a o b=H b:=by unfold upd;rw[kC h]
theorem q7Q{H:Hp}{a:Addr}{o u:HO}:upd (upd H a o) a u=upd H a u:=by funext b;unfold upd;split<;>rfl
theorem jP{H:Hp}{a b:Addr}{o u:HO}(h:H a=some o)(h':H b=some u)(d:o≠u):a≠b:=by intro e;subst e;rw[h]at h';exact d (kJ h')
theorem qF{H:Hp}{a b:Addr}{o:HO}(h:H a=some o)(h':H b=none):a≠b:=by intro e;subst e;rw[h]at h';cases h'
section
variable(P:Program)(w:World)
noncomputable def jR(H:Hp)(h:Heap)(a:Addr):HO→Prop
| .lst xs=>xs.length≤sizeLine∧∃(its:List Value) (n:Nat),Vals xs its∧h.get? a=some { cls:=.type "list",data:=.seq its.toArray n }
| .tup xs=>xs.length≤sizeLine∧∃its:List Value,Vals xs its∧IsTup h a its.toArray
| .dK kvs=>kvs.length≤sizeLine∧(a==sysModules)=false∧∃vs,KV kvs vs∧h.DictOf (jB P w) a vs
| .dT kvs=>kvs.length≤sizeLine∧(a==sysModules)=false∧∃xs:List (List Key×Addr×Value),Paired (λ(p:List Key×V) (q:List Key×Addr×Value)=>p.1=q.1∧H q.2.1=some (.tup (p.1.map kV))∧RelV p.2 q.2.2) kvs xs∧∃o es ep,h.get? a=some o∧o.ExactDict∧o.data=.dict es ep∧es.toList=xs.map (entryOfKey (tupleKind (jB P w)))∧(xs.map (·.1)).Nodup
| .set S n=>h.SetOf (intKind P w) a S n
| .ins C dx fs=>H dx=some (.own a)∧fs.length≤1000∧dx≠a∧h.get? a=some (PySem.W.instObj C dx)∧∃mA,h.Ns1 dx mA∧(∀f,RelO (fs.lookup f) (mA f))∧PySem.Within mA (fs.map (·.1))
| .own _=>∃o,h.get? a=some o
| .xd fs=>∃mA,h.Ns1 a mA∧∀f,RelO (fs.lookup f) (mA f)
| .rng lo hi=>∃t u v,h.get? a=some { cls:=.type "range",data:=.fields #[.int lo t,.int hi u,.int 1 v] }
| .frz o u=>h.get? a=some o∧jR H h a u
| .tbl ps=>h.get? a=some { cls:=.none,data:=.fields ps }
| .met f x=>h.get? a=some (PySem.W.methodObj (.ref f) (.ref x))
| .ext φ=>φ h∧(∃o,h.get? a=some o)∧∀h1 h2:Heap,φ h1→(∀o,h1.get? a=some o→h2.get? a=some o)→φ h2
noncomputable def HOk(H:Hp)(h:Heap):Prop:=∀a o,H a=some o→jR P w H h a o
end
section
variable{P:Program}{w:World}{H H':Hp}{h h':Heap}{a:Addr}{o:HO}
theorem jR.lt(x:jR P w H h a o):a<h.objs.size:=by(
cases o with
|lst xs=>obtain⟨_,_,_,_,e⟩:=x;exact kI e
|tup xs=>obtain⟨_,_,_,p⟩:=x;exact p.lt
|dK kvs=>obtain⟨_,_,_,_,o,_,_,e,_⟩:=x;exact kI e
|dT kvs=>obtain⟨_,_,_,_,o,_,_,e,_⟩:=x;exact kI e
|set S n=>obtain⟨o,_,_,_,e,_⟩:=x;exact kI e
|ins C dx fs=>obtain⟨_,_,_,e,_⟩:=x;exact kI e
|own y=>obtain⟨_,e⟩:=x;exact kI e
|xd fs=>obtain⟨_,⟨_,_,_,e,_⟩,_⟩:=x;exact kI e
|rng lo hi=>obtain⟨_,_,_,e⟩:=x;exact kI e
|frz ob u=>obtain⟨e,_⟩:=x;exact kI e
|tbl ps=>exact kI (show h.get? a=some _ from x)
|met f y=>exact kI (show h.get? a=some _ from x)
|ext φ=>obtain⟨_,⟨_,e⟩,_⟩:=x;exact kI e)
theorem Paired.mapP{α β:Type}{F G:α→β→Prop}:∀{l₁:List α} {l₂:List β},Paired F l₁ l₂→(∀a b,F a b→G a b)→Paired G l₁ l₂
|_,_,.nil,_=>.nil
|_,_,.cons r t,f=>.cons (f _ _ r) (Paired.mapP t f)
theorem jR.stay(x:jR P w H h a o)(k:∀b u,(b=a∨H b=some (.own a))→h.get? b=some u→h'.get? b=some u)
 (ho:∀b,H b=some (.own a)→H' b=some (.own a)) (ht:∀b xs,H b=some (.tup xs)→H' b=some (.tup xs)):jR P w H' h' a o:=by(
induction o with
|lst xs=>obtain⟨z,its,n,r,e⟩:=x;exact⟨z,its,n,r,k _ _ (.inl rfl) e⟩
|tup xs=>obtain⟨z,its,r,ob,e,c⟩:=x;exact⟨z,its,r,ob,k _ _ (.inl rfl) e,c⟩
|dK kvs=>obtain⟨z,y,vs,r,ob,es,ep,e,c⟩:=x;exact⟨z,y,vs,r,ob,es,ep,k _ _ (.inl rfl) e,c⟩
|dT kvs=>obtain⟨z,y,xs,r,ob,es,ep,e,c⟩:=x;exact⟨z,y,xs,Paired.mapP r λp q z=>⟨z.1,ht _ _ z.2.1,z.2.2⟩,ob,es,ep,k _ _ (.inl rfl) e,c⟩
|set S n=>obtain⟨ob,es,ep,t,e,c⟩:=x;exact⟨ob,es,ep,t,k _ _ (.inl rfl) e,c⟩
|ins C dx fs=>obtain⟨d,z,ne,e,mA,⟨od,es,ep,e2,c⟩,r⟩:=x;exact⟨ho _ d,z,ne,k _ _ (.inl rfl) e,mA,⟨od,es,ep,k _ _ (.inr d) e2,c⟩,r⟩
|own y=>obtain⟨ob,e⟩:=x;exact⟨ob,k _ _ (.inl rfl) e⟩
|xd fs=>obtain⟨mA,⟨od,es,ep,e,c⟩,r⟩:=x;exact⟨mA,⟨od,es,ep,k _ _ (.inl rfl) e,c⟩,r⟩
|rng lo hi=>obtain⟨t,u,v,e⟩:=x;exact⟨t,u,v,k _ _ (.inl rfl) e⟩
|frz ob u ih=>obtain⟨e,q⟩:=x;exact⟨k _ _ (.inl rfl) e,ih q⟩
|tbl ps=>have e:h.get? a=some { cls:=.none,data:=.fields ps }:=x;show h'.get? a=some { cls:=.none,data:=.fields ps };exact k a _ (.inl rfl) e
|met f y=>have e:h.get? a=some (PySem.W.methodObj (.ref f) (.ref y)):=x;show h'.get? a=some (PySem.W.methodObj (.ref f) (.ref y));exact k a _ (.inl rfl) e
|ext φ=>obtain⟨p,⟨o,e⟩,st⟩:=x;exact⟨st _ _ p λo q=>k _ _ (.inl rfl) q,⟨o,k _ _ (.inl rfl) e⟩,st⟩)
theorem HOk.lt(x:HOk P w H h)(e:H a=some o):a<h.objs.size:=(x a o e).lt
theorem HOk.fresh(x:HOk P w H h)(e:h.objs.size≤a):H a=none:=by(
cases q:H a with
|none=>rfl
|some u=>exact absurd (kY (x.lt q) e) (gT _))
theorem HOk.kept(x:HOk P w H h)(k:∀b u,h.get? b=some u→h'.get? b=some u):HOk P w H h':=λa o e=>(x a o e).stay (λb u _ q=>k b u q) (λ_ q=>q) λ_ _ q=>q
theorem HOk.laid(x:HOk P w H h)(k:∀b u,h.get? b=some u→h'.get? b=some u)(hp:h.objs.size≤a)(new:jR P w (upd H a o) h' a o):HOk P w (upd H a o) h':=λb u e=>by(
have hn:=x.fresh hp
by_cases hb:b=a
·subst hb;rw[qG]at e;cases e;exact new
rw[qE hb]at e
exact(x b u e).stay (λc v _ q=>k c v q) (λc q=>by rw[qE (qF q hn)];exact q) λc xs q=>by rw[qE (qF q hn)];exact q)
end
noncomputable def Rd(H:Hp)(a:Addr)(u:HO):Prop:=H a=some u∨∃o,H a=some (.frz o u)
theorem Rd.ok{P:Program}{w:World}{H:Hp}{h:Heap}{a:Addr}{u:HO}(r:Rd H a u)(x:HOk P w H h):jR P w H h a u:=by(
rcases r with r|⟨o,r⟩
·exact x a u r
obtain⟨_,q⟩:=x a _ r
exact q)
noncomputable def Mut:Option HO→Prop
|some (.lst _)=>True
|some (.dK _)=>True
|some (.dT _)=>True
|some (.set _ _)=>True
|some (.ins _ _ _)=>True
|some (.ext _)=>True
|_=>False
section
variable{P:Program}{w:World}{H:Hp}{h h':Heap}{x e:Addr}{o':HO}
theorem HOk.write(ok:HOk P w H h)(mu:Mut (H x))(he:e=x∨H e=some (.own x))(k:∀b u,b≠e→h.get? b=some u→h'.get? b=some u)(heo:∃u,h'.get? e=some u)
 (new:jR P w (upd H x o') h' x o'):HOk P w (upd H x o') h':=λb u q=>by(
have nown:∀c y,H c=some (.own y)→c≠x:=λc y r z=>by subst z;rw[r]at mu;exact mu
have ntup:∀c xs,H c=some (.tup xs)→c≠x:=λc xs r z=>by subst z;rw[r]at mu;exact mu
by_cases hb:b=x
·subst hb;rw[qG]at q;cases q;exact new
rw[qE hb]at q
by_cases hbe:b=e
·have q':H b=some (.own x):=by
  rcases he with z|z
  ·exact absurd (hbe.trans z) hb
  rw[hbe];exact z
 rw[q]at q';cases q';obtain⟨v,hv⟩:=heo;exact⟨v,by rw[hbe];exact hv⟩
refine(ok b u q).stay (λc v hc r=>k c v ?_ r) (λc r=>by rw[qE (nown c b r)];exact r) λc xs r=>by rw[qE (ntup c xs r)];exact r
rcases hc with rfl|hc
·exact hbe
rintro rfl
rcases he with z|z
·exact nown c b hc z
rw[hc]at z;cases z;exact hb rfl)
end
structure Un(fs ex:List Addr)(H H':Hp)(h h':Heap):Prop where
keep:∀b o,h.get? b=some o→H b=none→b∉fs→b∉ex→h'.get? b=some o
slot:∀b o,h.get? b=some o→H b=none→b∈fs→b∉ex→∃sl,h'.get? b=some { o with slots:=sl }
free:∀b o,h.get? b=some o→H b=none→b∉ex→H' b=none
there:∀b o,h.get? b=some o→b∉ex→∃o',h'.get? b=some o'
tups:∀b xs,H b=some (.tup xs)→H' b=some (.tup xs)
frzs:∀b o u,H b=some (.frz o u)→H' b=some (.frz o u)
tbls:∀b ps,H b=some (.tbl ps)→∃more,H' b=some (.tbl (ps++more))
section
variable{fs fs' ex ex':List Addr}{H H1 H2:Hp}{h h1 h2 h':Heap}{a x e:Addr}{o:HO}
theorem Un.any(u:Un fs ex H H1 h h1){b:Addr}{ob:Obj}(q:h.get? b=some ob)(n:H b=none)(hx:b∉ex):∃sl,h1.get? b=some { ob with slots:=sl }:=by(
by_cases hb:b∈fs
·exact u.slot b ob q n hb hx
exact⟨ob.slots,u.keep b ob q n hb hx⟩)
theorem Un.trans(a:Un fs ex H H1 h h1)(b:Un fs ex H1 H2 h1 h2):Un fs ex H H2 h h2 where
keep:=λc ob q n hc hx=>b.keep c ob (a.keep c ob q n hc hx) (a.free c ob q n hx) hc hx
slot:=λc ob q n hc hx=>by obtain⟨sl,e1⟩:=a.slot c ob q n hc hx;obtain⟨sl',e2⟩:=b.slot c _ e1 (a.free c ob q n hx) hc hx;exact⟨sl',e2⟩
free:=λc ob q n hx=>by obtain⟨o',e1⟩:=a.there c ob q hx;exact b.free c o' e1 (a.free c ob q n hx) hx
there:=λc ob q hx=>by obtain⟨o',e1⟩:=a.there c ob q hx;exact b.there c o' e1 hx
tups:=λc xs q=>b.tups c xs (a.tups c xs q)
frzs:=λc ob xs q=>b.frzs c ob xs (a.frzs c ob xs q)
tbls:=λc ps q=>by obtain⟨m1,e1⟩:=a.tbls c ps q;obtain⟨m2,e2⟩:=b.tbls c _ e1;exact⟨m1++m2,by rw[e2,sT]⟩
theorem Un.kept(k:∀b u,h.get? b=some u→h'.get? b=some u):Un fs ex H H h h':=⟨λb ob q _ _ _=>k b ob q,λb ob q _ _ _=>⟨ob.slots,k b ob q⟩,λ_ _ _ n _=>n,λb ob q _=>⟨ob,k b ob q⟩,λ_ _ q=>q,λ_ _ _ q=>q,λ_ ps q=>⟨#[],by rw[q];simp⟩⟩
theorem Un.refl:Un fs ex H H h h:=Un.kept λ_ _ q=>q
theorem Un.laid(k:∀b u,h.get? b=some u→h'.get? b=some u)(hp:h.objs.size≤a)(hn:H a=none):Un fs ex H (upd H a o) h h' where
keep:=λb u q _ _ _=>k b u q
slot:=λb u q _ _ _=>⟨u.slots,k b u q⟩
free:=λb u q n _=>by rw[qE (kZ (kY (kI q) hp))];exact n
there:=λb u q _=>⟨u,k b u q⟩
tups:=λb xs q=>by rw[qE (qF q hn)];exact q
frzs:=λb u xs q=>by rw[qE (qF q hn)];exact q
tbls:=λb ps q=>⟨#[],by rw[qE (qF q hn),q];simp⟩
theorem Un.write(mu:Mut (H x))(he:e=x∨H e=some (.own x))(k:∀b u,b≠e→h.get? b=some u→h'.get? b=some u)(heo:∃u,h'.get? e=some u):Un fs ex H (upd H x o) h h':=by(
have hx:∀b,H b=none→b≠x:=λb n z=>by subst z;rw[n]at mu;exact mu
have hb:∀b,H b=none→b≠e:=λb n z=>by
 subst z;rcases he with r|r
 ·exact hx b n r
 rw[n]at r;cases r
have hm:∀b u,H b=some u→¬Mut (some u)→b≠x:=λb u q nm z=>by subst z;rw[q]at mu;exact nm mu
refine⟨λb u q n _ _=>k b u (hb b n) q,λb u q n _ _=>⟨u.slots,k b u (hb b n) q⟩,λb u q n _=>by rw[qE (hx b n)];exact n,λb u q _=>?_,λb xs q=>by rw[qE (hm b _ q λz=>z)];exact q,λb u xs q=>by rw[qE (hm b _ q λz=>z)];exact q,λb ps q=>⟨#[],by rw[qE (hm b _ q λz=>z),q];simp⟩⟩
by_cases hbe:b=e
·subst hbe;exact heo
exact⟨u,k b u hbe q⟩)
end
noncomputable def trk(h:Heap)(H:Hp):List Addr:=(List.range h.objs.size).filter λa=>(H a).isSome
noncomputable def hidT(h:Heap)(H:Hp):Heap:=PySem.W.hideAll h (trk h H)
theorem q6Y(h:Heap)(H:Hp):(hidT h H).objs.size=h.objs.size:=PySem.W.hideAll_size _ _
theorem q54{h:Heap}{H:Hp}{b:Addr}{o:Obj}(e:h.get? b=some o)(n:H b=none):(hidT h H).get? b=some o:=PySem.W.hideAll_get _ e λhm=>by  have q:(H b).isSome=true:=(mO.mp hm).2;rw[n]at q;simp at q
theorem qAS{h:Heap}{H:Hp}{b:Addr}{o:Obj}(e:(hidT h H).get? b=some o):h.get? b=some o∧H b=none:=by(
have e':h.get? b=some o:=PySem.W.of_hideAll (trk h H) e
refine⟨e',?_⟩
cases q:H b with
|none=>rfl
|some x=>have hm:b∈trk h H:=mO.mpr ⟨k7.mpr (kI e'),by simp[q]⟩;have z:(hidT h H).get? b=none:=PySem.W.hideAll_none (trk h H) hm;rw[z]at e;cases e)
structure Mod(K:PySem.W.Frag)(mg:Str→Option Value)(base:Heap):Prop where
kin:K.In base
glob:base.Ns mainGlobals mg
blt:∃mb,base.Ns builtinsNs mb∧∀x:Str,x≠"__name__"→mb x=bootBuiltins x
nolimit:base.NoLimit
structure Cx where
prog:Program
w:World
K:PySem.W.Frag
mg:Str→Option Value
base:Heap
A:Around
N:List Str
s₀:Shared
H₀:Hp
env:Env
outer:List Env
stack:List Env
ex:List Addr
fn:Str→Bool
calm:Bool
pn:List (Addr×Obj)
xe:Value→Shared→Prop
noncomputable def frs(l:List Env):List Addr:=l.filterMap (·.frame)
noncomputable abbrev Cx.fs(X:Cx):List Addr:=frs X.outer
noncomputable def Vis(sc:Scope)(x:Str):Prop:=sc.names.lookup x=some .local∨sc.names.lookup x=some .cell∨sc.names.lookup x=some .free
noncomputable def Loc(sc:Scope)(x:Str):Prop:=sc.names.lookup x=some .local∨sc.names.lookup x=some .cell
noncomputable def Look(env:Env)(h:Heap)(m:Str→Option Value)(x:Str)(u:Value):Prop:=(env.kindOf x=some .local∧m x=some u)∨((env.kindOf x=some .cell∨env.kindOf x=some .free)∧∃c,env.cells.lookup x=some c∧h.IsCell c (some u))
structure Cx.Ok(X:Cx):Prop where
mod:Mod X.K X.mg X.base
kind:X.env.scope.kind=.function
glob:X.env.globals=mainGlobals
blt:X.env.builtins=builtinsNs
above:X.s₀.heap.objs.size≤X.env.locals
inj:∀x y c,X.env.cells.lookup x=some c→X.env.cells.lookup y=some c→x=y
has:∀x,(X.env.kindOf x=some .cell∨X.env.kindOf x=some .free)→∃c,X.env.cells.lookup x=some c
cab:∀x c,X.fn x=true→X.env.cells.lookup x=some c→X.s₀.heap.objs.size≤c
hd:X.calm=true→X.A.handled=none
frames:X.A.frames=some X.stack
stk:X.stack=X.outer∨(X.stack=X.env::X.outer∧X.env.frame=some X.env.locals)
exf:∀b∈X.ex,b≠X.env.locals∧∀x c,X.env.cells.lookup x=some c→c≠b
bs:∀b o,X.base.get? b=some o→X.s₀.heap.get? b=some o∧X.H₀ b=none
bsz:X.base.objs.size≤X.s₀.heap.objs.size
noex:∀b o,X.base.get? b=some o→b∉X.ex
exfs:∀b∈X.ex,b∉X.fs
funs:X.s₀.heap.FunFrames X.base X.outer
frf:∀b∈X.fs,X.H₀ b=none
structure Inv(X:Cx)(pins:List (Addr×Obj))(σ:List (Option V))(H:Hp)(s:Shared):Prop where
ok:X.Ok
os:s.os=X.s₀.os
bare:AllBare s.gens
base:Un X.fs X.ex X.H₀ H X.s₀.heap s.heap
loc:∃m,s.heap.Ns X.env.locals m∧∀(i:Nat) (x:Str) (v:V),X.N[i]?=some x→σ[i]?=some (some v)→Vis X.env.scope x→∃u,RelV v u∧Look X.env s.heap m x u
cell:∀x c,X.env.cells.lookup x=some c→∃v,s.heap.IsCell c v
free:H X.env.locals=none
freeC:∀x c,X.env.cells.lookup x=some c→H c=none
pin:∀p∈X.pn++pins,s.heap.get? p.1=some p.2∧H p.1=none∧p.1≠X.env.locals∧p.1∉X.fs∧∀v,p.2.data≠ .cell v
hok:HOk X.prog X.w H s.heap
len:σ.length=X.N.length
section
variable{X:Cx}{pins:List (Addr×Obj)}{σ:List (Option V)}{H H':Hp}{s:Shared}{h':Heap}
theorem Cx.Ok.nofr(ok:X.Ok){b:Addr}{o:Obj}(e:X.base.get? b=some o):b∉X.fs:=λhb=>by have:=(ok.funs.mem hb).1;rw[e]at this;cases this
theorem Inv.bs(I:Inv X pins σ H s):∀b o,X.base.get? b=some o→s.heap.get? b=some o∧H b=none:=λb o e=>⟨I.base.keep b o (I.ok.bs b o e).1 (I.ok.bs b o e).2 (I.ok.nofr e) (I.ok.noex b o e),I.base.free b o (I.ok.bs b o e).1 (I.ok.bs b o e).2 (I.ok.noex b o e)⟩
theorem Inv.bk(I:Inv X pins σ H s):∀b o,X.base.get? b=some o→s.heap.get? b=some o:=λb o e=>(I.bs b o e).1
theorem Inv.mod(I:Inv X pins σ H s):Mod X.K X.mg X.base:=I.ok.mod
theorem Inv.kIn(I:Inv X pins σ H s):X.K.In s.heap:=I.ok.mod.kin.keeps I.bk
theorem Inv.fr(I:Inv X pins σ H s):∃m,Fr X.base X.env.locals s.heap m:=let⟨m,hn,_⟩:=I.loc
 ⟨m,hn,I.bk,mE I.ok.bsz I.ok.above⟩
theorem Inv.lt(I:Inv X pins σ H s):X.env.locals<s.heap.objs.size:=let⟨_,hn,_⟩:=I.loc;hn.lt
theorem Inv.sz(I:Inv X pins σ H s):X.s₀.heap.objs.size≤s.heap.objs.size:=mE I.ok.above (cC I.lt)
theorem Inv.nofs(I:Inv X pins σ H s){a:Addr}(h:s.heap.objs.size≤a):a∉X.fs:=λhb=>by obtain⟨_,o,ho,_⟩:=I.ok.funs.mem hb;exact absurd (kY (kI ho) (mE I.sz h)) (gT _)
theorem Inv.cne(I:Inv X pins σ H s):∀x c,X.env.cells.lookup x=some c→c≠X.env.locals:=λx c e z=>by obtain⟨v,o,ho,hd⟩:=I.cell x c e;obtain⟨m,⟨o',es,ep,ho',hd',_⟩,_⟩:=I.loc;rw[z,ho']at ho;cases ho;rw[hd']at hd;cases hd
theorem Inv.funs(I:Inv X pins σ H s):s.heap.FunFrames X.base X.outer:=by(
have all:∀(l:List Env),(∀b∈frs l,b∈X.fs)→X.s₀.heap.FunFrames X.base l→s.heap.FunFrames X.base l:=by
 intro l;induction l with
 |nil=>intro _ _;trivial
 |cons env r ih=>intro hs hl;obtain⟨hk,⟨L,o,hf,hn,ho,hd⟩,hr⟩:=hl;have hL:L∈X.fs:=hs L (by unfold frs;rw[dW,hf];exact kO);obtain⟨sl,e⟩:=I.base.slot L o ho (I.ok.frf L hL) hL λz=>I.ok.exfs L z hL;exact⟨hk,⟨L,_,hf,hn,e,hd⟩,ih (λb hb=>hs b (by unfold frs;rw[dW,hf];exact kD _ hb)) hr⟩
exact all X.outer (λ_ hb=>hb) I.ok.funs)
theorem Inv.stack(I:Inv X pins σ H s):s.heap.FunFrames X.base X.stack:=by(
rcases I.ok.stk with e|⟨e,hf⟩
·rw[e];exact I.funs
rw[e]
obtain⟨m,hn,_⟩:=I.loc
refine .cons (by rw[I.ok.kind];decide) hf hn ?_ I.funs
exact wT (mE I.ok.bsz I.ok.above))
theorem Inv.stkSub(I:Inv X pins σ H s):∀b∈frs X.stack,b∈X.env.locals::X.fs:=λb hb=>by(
rcases I.ok.stk with e|⟨e,hf⟩
·rw[e]at hb;exact kD _ hb
rw[e]at hb
unfold frs at hb
rw[dW,hf]at hb
exact hb)
theorem Inv.stkFree(I:Inv X pins σ H s):∀b∈frs X.stack,H b=none:=λb hb=>by(
rcases kL.mp (I.stkSub b hb)with e|hb
·rw[e];exact I.free
obtain⟨_,o,ho,_⟩:=I.ok.funs.mem hb
exact I.base.free b o ho (I.ok.frf b hb) λz=>I.ok.exfs b z hb)
theorem Inv.step{g':Array GenState}{t':Nat}{d':Drawn}{ch:List Addr}(I:Inv X pins σ H s)
 (hch:∀b∈ch,(b∈X.ex∨X.s₀.heap.objs.size≤b)∧b≠X.env.locals∧(∀x c,X.env.cells.lookup x=some c→c≠b)∧∀p∈X.pn++pins,p.1≠b)
 (keep:∀b o,b≠X.env.locals→b∉X.fs→b∉ch→s.heap.get? b=some o→H b=none→h'.get? b=some o)
 (slot:∀b o,b≠X.env.locals→b∈X.fs→b∉ch→s.heap.get? b=some o→H b=none→∃sl,h'.get? b=some { o with slots:=sl }) (free:∀b o,b∉ch→s.heap.get? b=some o→H b=none→H' b=none)
 (there:∀b o,b∉ch→s.heap.get? b=some o→∃o',h'.get? b=some o')
 (tups:∀b xs,H b=some (.tup xs)→H' b=some (.tup xs)) (frzs:∀b o u,H b=some (.frz o u)→H' b=some (.frz o u)) (tbls:∀b ps,H b=some (.tbl ps)→∃more,H' b=some (.tbl (ps++more)))
 (ns:∀m,s.heap.Ns X.env.locals m→h'.Ns X.env.locals m) (hok:HOk X.prog X.w H' h') (hg:AllBare g'):
 Inv X pins σ H' { s with heap:=h',gens:=g',drawn:=d',toks:=t' }:=by(
have neL:∀b o,X.s₀.heap.get? b=some o→b≠X.env.locals:=λb o e=>kZ (kY (kI e) I.ok.above)
have neC:∀b o,X.s₀.heap.get? b=some o→b∉X.ex→b∉ch:=λb o e hx hb=>by
 rcases(hch b hb).1 with z|z
 ·exact hx z
 exact absurd (kY (kI e) z) (gT _)
have cellK:∀x c,X.env.cells.lookup x=some c→∀v,s.heap.IsCell c v→h'.IsCell c v:=λx c e v ⟨o,ho,hd⟩=>by
 have nch:c∉ch:=λz=>(hch c z).2.2.1 x c e rfl;by_cases hc:c∈X.fs
 ·obtain⟨sl,q⟩:=slot c o (I.cne x c e) hc nch ho (I.freeC x c e);exact⟨_,q,hd⟩
 exact⟨o,keep c o (I.cne x c e) hc nch ho (I.freeC x c e),hd⟩
refine⟨I.ok,I.os,hg,⟨λb o e n hb hx=>?_,λb o e n hb hx=>?_,λb o e n hx=>?_,λb o e hx=>?_,λb xs e=>tups b xs (I.base.tups b xs e),λb o xs e=>frzs b o xs (I.base.frzs b o xs e),λb ps e=>?_⟩,?_,λx c e=>?_,?_,λx c e=>?_,λp hp=>?_,hok,I.len⟩
·exact keep b o (neL b o e) hb (neC b o e hx) (I.base.keep b o e n hb hx) (I.base.free b o e n hx)
·obtain⟨sl,e1⟩:=I.base.slot b o e n hb hx;obtain⟨sl',e2⟩:=slot b _ (neL b o e) hb (neC b o e hx) e1 (I.base.free b o e n hx);exact⟨sl',e2⟩
·obtain⟨o',e1⟩:=I.base.there b o e hx;exact free b o' (neC b o e hx) e1 (I.base.free b o e n hx)
·obtain⟨o',e1⟩:=I.base.there b o e hx;exact there b o' (neC b o e hx) e1
·obtain⟨m1,e1⟩:=I.base.tbls b ps e;obtain⟨m2,e2⟩:=tbls b _ e1;exact⟨m1++m2,by rw[e2,sT]⟩
·obtain⟨m,hn,hl⟩:=I.loc;refine⟨m,ns m hn,λi x v e1 e2 e3=>?_⟩;obtain⟨u,r,l⟩:=hl i x v e1 e2 e3;refine⟨u,r,?_⟩;rcases l with l|⟨k,c,e,z⟩
 ·exact .inl l
 exact .inr ⟨k,c,e,cellK x c e _ z⟩
·obtain⟨v,z⟩:=I.cell x c e;exact⟨v,cellK x c e v z⟩
·obtain⟨m,⟨o,_,_,ho,_⟩,_⟩:=I.loc;exact free _ o (λz=>(hch _ z).2.1 rfl) ho I.free
·obtain⟨v,o,ho,hd⟩:=I.cell x c e;exact free c o (λz=>(hch c z).2.2.1 x c e rfl) ho (I.freeC x c e)
obtain⟨e,n,ne,nf,d⟩:=I.pin p hp
have nch:p.1∉ch:=λz=>(hch p.1 z).2.2.2 p hp rfl
exact⟨keep p.1 p.2 ne nf nch e n,free p.1 p.2 nch e n,ne,nf,d⟩)
theorem Inv.un{t':Nat}(I:Inv X pins σ H s)(u:Un X.fs [] H H' s.heap h')(hok:HOk X.prog X.w H' h'):Inv X pins σ H' { s with heap:=h',toks:=t' }:=by obtain⟨m,⟨o,es,ep,ho,r⟩,_⟩:=id I.loc;obtain⟨sl,hL⟩:=u.any ho I.free (by simp);exact I.step (g':=s.gens) (d':=s.drawn) (ch:=[]) (λ_ z=>nomatch z) (λb o _ hb _ e n=>u.keep b o e n hb (by simp)) (λb o _ hb _ e n=>u.slot b o e n hb (by simp)) (λb o _ e n=>u.free b o e n (by simp)) (λb o _ e=>u.there b o e (by simp)) u.tups u.frzs u.tbls (λm' hm=>by obtain⟨o',es',ep',ho',r'⟩:=hm;rw[ho]at ho';cases ho';exact⟨_,es',ep',hL,r'⟩) hok I.bare
theorem Inv.call{g':Array GenState}{t':Nat}{d':Drawn}{ch:List Addr}(I:Inv X pins σ H s)(u:Un (frs X.stack) ch H H' s.heap h')(hok:HOk X.prog X.w H' h')(hg:AllBare g')
 (hch:∀b∈ch,(b∈X.ex∨X.s₀.heap.objs.size≤b)∧b≠X.env.locals∧(∀x c,X.env.cells.lookup x=some c→c≠b)∧∀p∈X.pn++pins,p.1≠b):
 Inv X pins σ H' { s with heap:=h',gens:=g',drawn:=d',toks:=t' }:=by obtain⟨m,⟨o,es,ep,ho,r⟩,_⟩:=id I.loc;obtain⟨sl,hL⟩:=u.any ho I.free λz=>(hch _ z).2.1 rfl;exact I.step (ch:=ch) hch (λb o hL hb hc e n=>u.keep b o e n (λz=>(kL.mp (I.stkSub b z)).elim hL hb) hc) (λb o _ _ hc e n=>u.any e n hc) (λb o hc e n=>u.free b o e n hc) (λb o hc e=>u.there b o e hc) u.tups u.frzs u.tbls (λm' hm=>by obtain⟨o',es',ep',ho',r'⟩:=hm;rw[ho]at ho';cases ho';exact⟨_,es',ep',hL,r'⟩) hok hg
theorem Inv.turned{t':Nat}{it:Addr}(I:Inv X pins σ H s)(k:∀b o,b≠it→s.heap.get? b=some o→h'.get? b=some o)(hn:H it=none)(hL:it≠X.env.locals)
 (h1:it∈X.ex∨X.s₀.heap.objs.size≤it) (h2:∀x c,X.env.cells.lookup x=some c→c≠it) (h3:∀p∈X.pn++pins,p.1≠it):Inv X pins σ H { s with heap:=h',toks:=t' }:=by(
have nit:∀b u,H b=some u→b≠it:=λb u e z=>by rw[z,hn]at e;cases e
refine I.step (g':=s.gens) (d':=s.drawn) (ch:=[it]) (λb hb=>?_) (λb o _ _ hc e _=>k b o (λz=>hc (by simp[z])) e) (λb o _ _ hc e _=>⟨o.slots,k b o (λz=>hc (by simp[z])) e⟩) (λ_ _ _ _ n=>n)
 (λb o hc e=>⟨o,k b o (λz=>hc (by simp[z])) e⟩) (λ_ _ e=>e) (λ_ _ _ e=>e) (λb ps e=>⟨#[],by rw[e];simp⟩) (λm hm=>?_) (λb u e=>?_) I.bare
·have e:b=it:=by simpa using hb
 subst e;exact⟨h1,hL,h2,h3⟩
·obtain⟨o,es,ep,ho,r⟩:=hm;exact⟨o,es,ep,k _ o (dO hL) ho,r⟩
refine(I.hok b u e).stay (λc v hc q=>k c v ?_ q) (λ_ q=>q) λ_ _ q=>q
rcases hc with z|z
·rw[z];exact nit b u e
exact nit c _ z)
theorem Inv.tok(I:Inv X pins σ H s)(t:Nat):Inv X pins σ H { s with toks:=t }:=I.un (h':=s.heap) (t':=t) Un.refl I.hok
theorem Inv.kept{t':Nat}(I:Inv X pins σ H s)(k:∀b u,s.heap.get? b=some u→h'.get? b=some u):Inv X pins σ H { s with heap:=h',toks:=t' }:=I.un (Un.kept k) (I.hok.kept k)
theorem Inv.laid{a:Addr}{o:HO}{t':Nat}(I:Inv X pins σ H s)(k:∀b u,s.heap.get? b=some u→h'.get? b=some u)(hp:s.heap.objs.size≤a)(new:jR X.prog X.w (upd H a o) h' a o):
 Inv X pins σ (upd H a o) { s with heap:=h',toks:=t' }:=I.un (Un.laid k hp (I.hok.fresh hp)) (I.hok.laid k hp new)
theorem Inv.write{x e:Addr}{o:HO}{t':Nat}(I:Inv X pins σ H s)(mu:Mut (H x))(he:e=x∨H e=some (.own x))(k:∀b u,b≠e→s.heap.get? b=some u→h'.get? b=some u)(heo:∃u,h'.get? e=some u)
 (new:jR X.prog X.w (upd H x o) h' x o):Inv X pins σ (upd H x o) { s with heap:=h',toks:=t' }:=I.un (Un.write mu he k heo) (I.hok.write mu he k heo new)
theorem Inv.weak{σ':List (Option V)}(I:Inv X pins σ H s)(hl:σ'.length=σ.length)(w:∀(i:Nat) v,σ'[i]?=some (some v)→σ[i]?=some (some v)):Inv X pins σ' H s:=⟨I.ok,I.os,I.bare,I.base,let⟨m,hn,hl'⟩:=I.loc;⟨m,hn,λi x v e1 e2 e3=>hl' i x v e1 (w i v e2) e3⟩,I.cell,I.free,I.freeC,I.pin,I.hok,hl.trans I.len⟩
theorem Inv.pins_of{pins':List (Addr×Obj)}(I:Inv X pins σ H s)(h:∀p∈pins',s.heap.get? p.1=some p.2∧H p.1=none∧p.1≠X.env.locals∧p.1∉X.fs∧∀v,p.2.data≠ .cell v):Inv X pins' σ H s:=⟨I.ok,I.os,I.bare,I.base,I.loc,I.cell,I.free,I.freeC,λp hp=>(gA.mp hp).elim (λz=>I.pin p (mP _ z)) (h p),I.hok,I.len⟩
theorem q8X{N:List Str}(hN:N.Nodup){i j:Nat}{x:Str}(a:N[i]?=some x)(b:N[j]?=some x):i=j:=by obtain⟨h1,e1⟩:=hU.mp a;obtain⟨h2,e2⟩:=hU.mp b;exact(List.getElem_inj hN).mp (e1.trans e2.symm)
theorem q6Z{M:Model}{A:Around}{E:Value→Shared→Prop}{i:Nat}{x:Str}{v:V}{u:Value}{Q:Unit→Shared→Prop}(I:Inv X pins σ H s)(hN:X.N.Nodup)(hi:X.N[i]?=some x)(hx:Loc X.env.scope x)(r:RelV v u)
 (h:∀s',Inv X pins (σ.set i (some v)) H s'→(∃a,Heap.SameBut a s.heap s'.heap∧(a=X.env.locals∨X.env.cells.lookup x=some a))→Q () s') (hf:X.fn x=true∨X.env.scope.names.lookup x=some .local:=by first|exact .inl rfl|exact .inr rfl|assumption):wpAny M A (storeName X.env x u) Q E s:=by(
obtain⟨m,hn,hl⟩:=id I.loc
have hcls:(X.env.scope.kind== .class||(X.env.scope.kind== .module&&X.env.locals !=X.env.globals))=false:=by rw[I.ok.kind];rfl
have hiσ:i<σ.length:=by rw[I.len];exact(hU.mp hi).1
have cne:=I.cne
have tracked:∀{a:Addr} {h':Heap},(∃o,s.heap.get? a=some o∧H a=none)→Heap.SameBut a s.heap h'→HOk X.prog X.w H h':=fun {a h'} ha hs b ob e=>by
 obtain⟨_,_,hfree⟩:=ha;refine(I.hok b ob e).stay (λc w' hc q=>(hs.2 c ?_).trans q) (λ_ q=>q) λ_ _ q=>q;rintro rfl
 rcases hc with rfl|hc
 ·rw[hfree]at e;cases e
 rw[hfree]at hc;cases hc
rcases hx with hk|hk
·refine wpAny_storeName_local hk hn (λh' hn' hs=>?_) hcls;obtain⟨oL,_,_,hoL,_⟩:=id hn;refine h _ ⟨I.ok,I.os,I.bare,⟨λb o e n hb hx=>?_,λb o e n hb hx=>?_,I.base.free,λb o e hx=>?_,I.base.tups,I.base.frzs,I.base.tbls⟩,⟨_,hn',λj y v' e1 e2 e3=>?_⟩,λy c e=>?_,I.free,I.freeC,λp hp=>?_,tracked ⟨oL,hoL,I.free⟩ hs,by simpa using I.len⟩ ⟨_,hs,.inl rfl⟩
 ·exact(hs.2 b (kZ (kY (kI e) I.ok.above))).trans (I.base.keep b o e n hb hx)
 ·obtain⟨sl,e1⟩:=I.base.slot b o e n hb hx;exact⟨sl,(hs.2 b (kZ (kY (kI e) I.ok.above))).trans e1⟩
 ·obtain⟨o',e1⟩:=I.base.there b o e hx;exact⟨o',(hs.2 b (kZ (kY (kI e) I.ok.above))).trans e1⟩
 ·by_cases hj:j=i
  ·subst hj;rw[hi]at e1;cases e1;rw[wI hiσ]at e2;cases e2;exact⟨u,r,.inl ⟨hk,by simp⟩⟩
  rw[rG (dO hj)]at e2;obtain⟨u',r',q⟩:=hl j y v' e1 e2 e3;refine⟨u',r',?_⟩;rcases q with⟨k,e⟩|⟨k,c,e,z⟩
  ·refine .inl ⟨k,?_⟩;have:y≠x:=λe=>hj (q8X hN e1 (e▸hi));simp[this,e]
  exact .inr ⟨k,c,e,z.sameBut hs (cne y c e)⟩
 ·obtain⟨w',z⟩:=I.cell y c e;exact⟨w',z.sameBut hs (cne y c e)⟩
 obtain⟨e,n,ne,nf,d⟩:=I.pin p hp;exact⟨(hs.2 p.1 ne).trans e,n,ne,nf,d⟩
have hfn:X.fn x=true:=by
 rcases hf with z|z
 ·exact z
 rw[z]at hk;cases hk
obtain⟨c,hc⟩:=I.ok.has x (.inl hk)
obtain⟨w',z⟩:=I.cell x c hc
refine wpAny_storeName_cell I.ok.kind hk hc z (λh' hc' hs=>?_)
obtain⟨oc,hoc,hocd⟩:=id z
refine h { s with heap:=h' } ⟨I.ok,I.os,I.bare,⟨λb o e n hb hx=>?_,λb o e n hb hx=>?_,I.base.free,λb o e hx=>?_,I.base.tups,I.base.frzs,I.base.tbls⟩,⟨m,hn.sameBut hs (dO (cne x c hc)),λj y v' e1 e2 e3=>?_⟩,λy c' e=>?_,I.free,I.freeC,λp hp=>?_,tracked ⟨oc,hoc,I.freeC x c hc⟩ hs,by simpa using I.len⟩ ⟨c,hs,.inr hc⟩
·exact(hs.2 b (kZ (kY (kI e) (I.ok.cab x c hfn hc)))).trans (I.base.keep b o e n hb hx)
·obtain⟨sl,e1⟩:=I.base.slot b o e n hb hx;exact⟨sl,(hs.2 b (kZ (kY (kI e) (I.ok.cab x c hfn hc)))).trans e1⟩
·obtain⟨o',e1⟩:=I.base.there b o e hx;exact⟨o',(hs.2 b (kZ (kY (kI e) (I.ok.cab x c hfn hc)))).trans e1⟩
·by_cases hj:j=i
 ·subst hj;rw[hi]at e1;cases e1;rw[wI hiσ]at e2;cases e2;exact⟨u,r,.inr ⟨.inl hk,c,hc,hc'⟩⟩
 rw[rG (dO hj)]at e2;obtain⟨u',r',q⟩:=hl j y v' e1 e2 e3;refine⟨u',r',?_⟩;rcases q with q|⟨k,c',e,z'⟩
 ·exact .inl q
 refine .inr ⟨k,c',e,z'.sameBut hs ?_⟩;rintro rfl
 exact hj (q8X hN e1 (I.ok.inj _ _ _ e hc▸hi))
·by_cases hcc:c'=c
 ·subst hcc;exact⟨_,hc'⟩
 obtain⟨w2,z2⟩:=I.cell y c' e;exact⟨w2,z2.sameBut hs hcc⟩
obtain⟨e,n,ne,nf,d⟩:=I.pin p hp
refine⟨(hs.2 p.1 ?_).trans e,n,ne,nf,d⟩
intro q
rw[q,hoc]at e
have q':oc=p.2:=kJ e
exact d w' (by rw[←q'];exact hocd))
theorem q55{M:Model}{A:Around}{E:Value→Shared→Prop}{i:Nat}{x:Str}{v:V}{u:Value}{Q:Unit→Shared→Prop}(I:Inv X pins σ H s)(hN:X.N.Nodup)(hi:X.N[i]?=some x)(hx:Loc X.env.scope x)(r:RelV v u)
 (h:∀s',Inv X pins (σ.set i (some v)) H s'→Q () s') (hf:X.fn x=true∨X.env.scope.names.lookup x=some .local:=by first|exact .inl rfl|exact .inr rfl|assumption):wpAny M A (storeName X.env x u) Q E s:=q6Z I hN hi hx r (λs' I' _=>h s' I') hf
theorem Inv.call'{s':Shared}{ch:List Addr}(I:Inv X pins σ H s)(ho:s'.os=s.os)(u:Un (frs X.stack) ch H H' s.heap s'.heap)(hok:HOk X.prog X.w H' s'.heap)(hg:AllBare s'.gens)
 (hch:∀b∈ch,(b∈X.ex∨X.s₀.heap.objs.size≤b)∧b≠X.env.locals∧(∀x c,X.env.cells.lookup x=some c→c≠b)∧∀p∈X.pn++pins,p.1≠b):Inv X pins σ H' s':=by(
obtain⟨h',g',d',t',o'⟩:=s'
have e:o'=s.os:=ho
subst e
exact I.call (g':=g') (t':=t') (d':=d') u hok hg hch)
end
noncomputable abbrev XK:=Value→Option Addr→Hp→Prop
noncomputable abbrev St:=List (Option V)
noncomputable abbrev VK:=V→Hp→Prop
noncomputable abbrev TE:=St→Hp→VK→Prop
noncomputable abbrev TT:=St→Hp→(Bool→Hp→Prop)→Prop
noncomputable abbrev TA:=St→Hp→(List V→Hp→Prop)→Prop
structure Ends where
nx:St→Hp→Prop
rt:VK
bk:St→Hp→Prop:=λ_ _=>False
ct:St→Hp→Prop:=λ_ _=>False
noncomputable abbrev TS:=Ends→St→Hp→Prop
noncomputable def EP(X:Cx)(pins:List (Addr×Obj))(σ:St)(Q:VK)(u:Value)(s':Shared):Prop:=∃v H',Inv X pins σ H' s'∧RelV v u∧Q v H'
noncomputable def TP(X:Cx)(pins:List (Addr×Obj))(σ:St)(Q:Bool→Hp→Prop)(b:Bool)(s':Shared):Prop:=∃H',Inv X pins σ H' s'∧Q b H'
noncomputable def AP(X:Cx)(pins:List (Addr×Obj))(σ:St)(Q:List V→Hp→Prop)(us:List Value)(s':Shared):Prop:=∃vs H',Inv X pins σ H' s'∧Vals vs us∧Q vs H'
noncomputable def SP(X:Cx)(pins:List (Addr×Obj))(D:Ends)(f:Flow)(s':Shared):Prop:=match f with
| .next=>∃σ' H',Inv X pins σ' H' s'∧D.nx σ' H'
| .brk=>∃σ' H',Inv X pins σ' H' s'∧D.bk σ' H'
| .cont=>∃σ' H',Inv X pins σ' H' s'∧D.ct σ' H'
| .ret u=>∃v σ' H',Inv X pins σ' H' s'∧RelV v u∧D.rt v H'
noncomputable def PE(X:Cx)(e:Expr)(t:TE):Prop:=∀(pins:List (Addr×Obj)) (s:Shared) (σ:St) (H:Hp) (Q:VK),Inv X pins σ H s→t σ H Q→wpAny (model X.prog X.w) X.A (eval e X.env) (EP X pins σ Q) X.xe s
noncomputable def PT(X:Cx)(e:Expr)(t:TT):Prop:=∀(pins:List (Addr×Obj)) (s:Shared) (σ:St) (H:Hp) (Q:Bool→Hp→Prop),Inv X pins σ H s→t σ H Q→wpAny (model X.prog X.w) X.A (isTrue e X.env (eval e X.env)) (TP X pins σ Q) X.xe s
noncomputable def PW(X:Cx)(e:Expr)(t:TT):Prop:=∀(whole:Sem Value) (pins:List (Addr×Obj)) (s:Shared) (σ:St) (H:Hp) (Q:Bool→Hp→Prop),Inv X pins σ H s→t σ H Q→wpAny (model X.prog X.w) X.A (isTrue e X.env whole) (TP X pins σ Q) X.xe s
theorem PW.pt{X:Cx}{e:Expr}{t:TT}(h:PW X e t):PT X e t:=h _
noncomputable def PA(X:Cx)(es:List Expr)(t:TA):Prop:=∀(pos:Pos) (pins:List (Addr×Obj)) (s:Shared) (σ:St) (H:Hp) (Q:List V→Hp→Prop),Inv X pins σ H s→t σ H Q→wpAny (model X.prog X.w) X.A (spliced (backTo pos (starEach es X.env))) (AP X pins σ Q) X.xe s
noncomputable def PS(X:Cx)(st:Stmt)(t:TS):Prop:=∀(pins:List (Addr×Obj)) (s:Shared) (σ:St) (H:Hp) (D:Ends),Inv X pins σ H s→t D σ H→wpAny (model X.prog X.w) X.A (exec st X.env) (SP X pins D) X.xe s
noncomputable def PSs(X:Cx)(st:List Stmt)(t:TS):Prop:=∀(pins:List (Addr×Obj)) (s:Shared) (σ:St) (H:Hp) (D:Ends),Inv X pins σ H s→t D σ H→wpAny (model X.prog X.w) X.A (execs st X.env) (SP X pins D) X.xe s
theorem thn{α:Type}{t:Sem α}{Q Q':α→Shared→Prop}{M:Model}{A:Around}{E:Value→Shared→Prop}{s:Shared}(h:wpAny M A t Q E s)(hQ:∀a s,Q a s→Q' a s):wpAny M A t Q' E s:=gU h hQ λ_ _ x=>x
section
variable{X:Cx}
noncomputable def tVar(i:Nat):TE:=λσ H Q=>∃v,σ[i]?=some (some v)∧Q v H
noncomputable def tC(v:V):TE:=λ_ H Q=>Q v H
theorem qGE{i:Nat}{x:Str}{pos:Pos}(hN:X.N[i]?=some x)(hv:Vis X.env.scope x)(hd:(x==("__debug__":Str))=false:=by decide)(hcd:(x==("__classdict__":Str))=false:=by decide):PE X (.Name x pos) (tVar i):=by(
intro pins s σ H Q I h
obtain⟨v,e,h⟩:=h
obtain⟨m,hn,hl⟩:=I.loc
obtain⟨u,r,l⟩:=hl i x v hN e hv
have fin:EP X pins σ Q u s:=⟨v,H,I,r,h⟩
rcases l with⟨hk,hm⟩|⟨hk,c,hc,hcell⟩
·exact lI (pX I.ok.kind hk hn hm fin) hd
rcases hk with hk|hk
·exact lI (sJ I.ok.kind hk hc hcell fin) hd
exact lI (wpAny_loadName_free I.ok.kind hk hc hcell fin hcd) hd)
theorem qI{i j pos}:PE X (.Constant (.int i) j pos) (tC (.int i)):=λ_ _ _ H _ I h=>wpAny_Constant_int ⟨.int i,H,I.tok _,⟨_,rfl⟩,h⟩
theorem uN{b j pos}:PE X (.Constant (.bool b) j pos) (tC (.bl b)):=λ_ _ _ H _ I h=>Constant_bool ⟨.bl b,H,I,rfl,h⟩
theorem uO{j pos}:PE X (.Constant .none j pos) (tC .non):=λ_ _ _ H _ I h=>Constant_none ⟨.non,H,I,rfl,h⟩
theorem qQ{x j pos}:PE X (.Constant (.str x) j pos) (tC (.str x)):=λ_ _ _ H _ I h=>Calls.Constant_str ⟨.str x,H,I.tok _,⟨_,rfl⟩,h⟩
noncomputable def Gl(X:Cx)(x:Str):Prop:=X.env.kindOf x=some .globalImplicit
theorem q1Y{E:Value→Shared→Prop}{pins:List (Addr×Obj)}{s:Shared}{σ:St}{H:Hp}{x:Str}{u:Value}{pos:Pos}{Q:Value→Shared→Prop}(I:Inv X pins σ H s)(hg:Gl X x)(hm:X.mg x=some u)(h:Q u s)
 (hd:(x==("__debug__":Str))=false:=by decide):wpAny (model X.prog X.w) X.A (eval (.Name x pos) X.env) Q E s:=cI I.ok.kind hg (Calls.loadGlobal_global (by rw[I.ok.glob];exact I.mod.glob.keeps I.bk) hm h) hd
theorem q56{E:Value→Shared→Prop}{pins:List (Addr×Obj)}{s:Shared}{σ:St}{H:Hp}{x:Str}{u:Value}{pos:Pos}{Q:Value→Shared→Prop}(I:Inv X pins σ H s)(hg:Gl X x)(hm:X.mg x=none)(hv:bootBuiltins x=some u)(h:Q u s)
 (hn:x≠"__name__":=by decide) (hd:(x==("__debug__":Str))=false:=by decide):wpAny (model X.prog X.w) X.A (eval (.Name x pos) X.env) Q E s:=by obtain⟨mb,h1,h2⟩:=I.mod.blt;exact cI I.ok.kind hg (Calls.loadGlobal_builtin (by rw[I.ok.glob];exact I.mod.glob.keeps I.bk) hm (by rw[I.ok.blt];exact h1.keeps I.bk) ((h2 x hn).trans hv) h) hd
theorem zR{x:Str}{v:V}{u:Value}{pos:Pos}(hg:Gl X x)(hm:X.mg x=some u)(r:RelV v u)(hd:(x==("__debug__":Str))=false:=by decide):PE X (.Name x pos) (tC v):=λ_ _ _ H _ I h=>q1Y I hg hm ⟨v,H,I,r,h⟩ hd
theorem vA{x:Str}{v:V}{u:Value}{pos:Pos}(hg:Gl X x)(hm:X.mg x=none)(hv:bootBuiltins x=some u)(r:RelV v u)(hn:x≠"__name__":=by decide)(hd:(x==("__debug__":Str))=false:=by decide):PE X (.Name x pos) (tC v):=λ_ _ _ H _ I h=>q56 I hg hm hv ⟨v,H,I,r,h⟩ hn hd
variable{a b:Expr}{ta tb:TE}{pos:Pos}
noncomputable def PC(X:Cx)(op:CmpOp)(a b:Expr)(t:TE):Prop:=∀(pins:List (Addr×Obj)) (s:Shared) (σ:St) (H:Hp) (Q:VK),Inv X pins σ H s→t σ H Q→wpAny (model X.prog X.w) X.A (eval a X.env) (λv s₁=>wpAny (model X.prog X.w) X.A (eval b X.env) (λu s₂=>wpAny (model X.prog X.w) X.A (compareOp op v u) (EP X pins σ Q) X.xe s₂) X.xe s₁) X.xe s
noncomputable def tB(t:TE):TT:=λσ H Q=>t σ H λx H1=>∃c,x=.bl c∧Q c H1
theorem qCK{op:CmpOp}{t:TE}(h:PC X op a b t)(h1:behindInMarks op b=false:=by first|exact nobehind _ (by decide) (by decide)|rfl):PE X (.Compare a [op] [b] pos) t:=λpins s σ H Q I hw=>wpAny_Compare1 (h pins s σ H Q I hw) h1
theorem q7R{op:CmpOp}{t:TE}(h:PC X op a b t)(h1:behindInMarks op b=false:=by first|exact nobehind _ (by decide) (by decide)|rfl):PT X (.Compare a [op] [b] pos) (tB t):=by(
intro pins s σ H Q I hw
refine pS (thn (h pins s σ H _ I hw) λv s1 h1=>thn h1 λu s2 h2=>thn h2 λc s3 hZ=>?_) h1
obtain⟨x,H1,I1,r1,q1⟩:=hZ
obtain⟨d,rfl,q⟩:=q1
cases r1
exact gI ⟨H1,I1,q⟩)
theorem jF{e:Expr}{t:TE}(h:PE X e t)(he:∀whole,isTrue e X.env whole=(do let v←whole;standAt e.pos;holding [v] (truthy v)):=by intro _;rfl):PT X e (tB t):=by(
intro pins s σ H Q I hw
refine isTrue_plain (thn (h pins s σ H _ I hw) λv s1 hZ=>?_) (he _)
obtain⟨x,H1,I1,r1,q1⟩:=hZ
obtain⟨d,rfl,q⟩:=q1
cases r1
exact gI ⟨H1,I1,q⟩)
variable{tA tB':TT}{rest:List Expr}
noncomputable def tAnd(t u:TT):TT:=λσ H Q=>t σ H λc H1=>if c=true then u σ H1 Q else Q false H1
noncomputable def tOr(t u:TT):TT:=λσ H Q=>t σ H λc H1=>if c=true then Q true H1 else u σ H1 Q
noncomputable def tNot(t:TT):TT:=λσ H Q=>t σ H λc H1=>Q (!c) H1
theorem q7S(ha:PT X a tA):PW X (.BoolOp .And [a] pos) tA:=by(
intro wh pins s σ H Q I h
refine isTrue_and (thn (ha pins s σ H Q I h) λc s1 e=>?_)
cases c with
|true=>exact isTrue_and_nil e
|false=>exact e)
theorem zE(ha:PT X a tA):PW X (.BoolOp .Or [a] pos) tA:=by(
intro wh pins s σ H Q I h
refine isTrue_or (thn (ha pins s σ H Q I h) λc s1 e=>?_)
cases c with
|false=>exact isTrue_or_nil e
|true=>exact e)
theorem q7T(ha:PT X a tA)(hb:PW X (.BoolOp .And (b::rest) pos) tB'):PW X (.BoolOp .And (a::b::rest) pos) (tAnd tA tB'):=by(
intro wh pins s σ H Q I h
refine isTrue_and (thn (ha pins s σ H _ I h) λc s1 hZ=>?_)
obtain⟨H1,I1,q1⟩:=hZ
cases c with
|true=>exact hb wh pins s1 σ H1 Q I1 q1
|false=>exact⟨H1,I1,q1⟩)
theorem q11(ha:PT X a tA)(hb:PW X (.BoolOp .Or (b::rest) pos) tB'):PW X (.BoolOp .Or (a::b::rest) pos) (tOr tA tB'):=by(
intro wh pins s σ H Q I h
refine isTrue_or (thn (ha pins s σ H _ I h) λc s1 hZ=>?_)
obtain⟨H1,I1,q1⟩:=hZ
cases c with
|true=>exact⟨H1,I1,q1⟩
|false=>exact hb wh pins s1 σ H1 Q I1 q1)
theorem jJ(ha:PT X a tA):PT X (.UnaryOp .Not a pos) (tNot tA):=by intro pins s σ H Q I h;exact isTrue_not (ha pins s σ H (λc H1=>Q (!c) H1) I h)
noncomputable def qII(ta tb:TE):TE:=λσ H Q=>ta σ H λx H1=>∃c,x=.bl c∧if c=true then tb σ H1 Q else Q (.bl false) H1
noncomputable def tOrV(ta tb:TE):TE:=λσ H Q=>ta σ H λx H1=>∃c,x=.bl c∧if c=true then Q (.bl true) H1 else tb σ H1 Q
noncomputable def qIJ(ta:TE):TE:=λσ H Q=>ta σ H λx H1=>∃c,x=.bl c∧Q (.bl (!c)) H1
theorem uZ{op}{t:TE}(h:PE X a t):PE X (.BoolOp op [a] pos) t:=λpins s σ H Q I hw=>BoolOp_one (h pins s σ H Q I hw)
theorem uP(ha:PE X a ta)(hb:PE X (.BoolOp .And (b::rest) pos) tb):PE X (.BoolOp .And (a::b::rest) pos) (qII ta tb):=by(
intro pins s σ H Q I h
refine BoolOp_and (thn (ha pins s σ H _ I h) λv s1 hZ=>?_)
obtain⟨x,H1,I1,r1,q1⟩:=hZ
obtain⟨c,rfl,q1⟩:=q1
cases r1
refine gI ?_
cases c with
|true=>exact hb pins s1 σ H1 Q I1 q1
|false=>exact⟨.bl false,H1,I1,rfl,q1⟩)
theorem qIK(ha:PE X a ta)(hb:PE X (.BoolOp .Or (b::rest) pos) tb):PE X (.BoolOp .Or (a::b::rest) pos) (tOrV ta tb):=by(
intro pins s σ H Q I h
refine BoolOp_or (thn (ha pins s σ H _ I h) λv s1 hZ=>?_)
obtain⟨x,H1,I1,r1,q1⟩:=hZ
obtain⟨c,rfl,q1⟩:=q1
cases r1
refine gI ?_
cases c with
|false=>exact hb pins s1 σ H1 Q I1 q1
|true=>exact⟨.bl true,H1,I1,rfl,q1⟩)
theorem q7U(ha:PE X a ta):PE X (.UnaryOp .Not a pos) (qIJ ta):=by(
intro pins s σ H Q I h
refine UnaryOp_ (thn (ha pins s σ H _ I h) λv s1 hZ=>?_)
obtain⟨x,H1,I1,r1,q1⟩:=hZ
obtain⟨c,rfl,q1⟩:=q1
cases r1
exact not_of (gI ⟨.bl (!c),H1,I1,rfl,q1⟩))
noncomputable def tIf(t:TT)(ta tb:TE):TE:=λσ H Q=>t σ H λc H1=>if c=true then ta σ H1 Q else tb σ H1 Q
theorem qCL{c:Expr}(hc:PT X c tA)(ha:PE X a ta)(hb:PE X b tb):PE X (.IfExp c a b pos) (tIf tA ta tb):=by(
intro pins s σ H Q I h
refine wpAny_IfExp (thn (hc pins s σ H _ I h) λd s1 hZ=>?_)
obtain⟨H1,I1,q1⟩:=hZ
cases d with
|true=>exact ha pins s1 σ H1 Q I1 q1
|false=>exact hb pins s1 σ H1 Q I1 q1)
end
noncomputable def SqL(K:PySem.W.Frag)(H:Hp)(a:Addr)(xs:List V):Prop:=Rd H a (.lst xs)∨∃(o:Obj) (its:Array Value) (n:Nat),K.lookup a=some o∧o.cls=.type "list"∧o.dict=none∧o.data=.seq its n∧its.size≤sizeLine∧Vals xs its.toList
noncomputable def SqT(K:PySem.W.Frag)(H:Hp)(a:Addr)(xs:List V):Prop:=Rd H a (.tup xs)∨∃(o:Obj) (its:Array Value) (n:Nat),K.lookup a=some o∧o.cls=.type "tuple"∧o.data=.seq its n∧its.size≤sizeLine∧Vals xs its.toList
noncomputable def absV:Value→Option V
| .none=>some .non
| .bool b=>some (.bl b)
| .int i _=>some (.int i)
| .str x _=>some (.str x)
| .bytes b _=>some (.byt b)
| .float b _=>some (.flt b)
| .ref a=>some (.ref a)
| .type n=>some (.ty n)
|_=>none
theorem RelV.abs{x:V}{u:Value}(r:RelV x u):absV u=some x:=by(
cases x with
|non=>cases r;rfl
|bl _=>cases r;rfl
|int _=>obtain⟨t,rfl⟩:=r;rfl
|str _=>obtain⟨t,rfl⟩:=r;rfl
|byt _=>obtain⟨t,rfl⟩:=r;rfl
|flt _=>obtain⟨t,rfl⟩:=r;rfl
|ref _=>cases r;rfl
|ty _=>cases r;rfl)
theorem RelV.inj{x y:V}{u:Value}(r:RelV x u)(q:RelV y u):x=y:=kJ (r.abs.symm.trans q.abs)
theorem Vals.inj{xs ys:List V}{us:List Value}(h:Vals xs us):Vals ys us→xs=ys:=by(
induction h generalizing ys with
|nil=>exact λg=>by cases g;rfl
|cons r t ih=>
 intro g;cases g with
 |cons r' t'=>rw[r.inj r',ih t'])
section
variable{X:Cx}{pins:List (Addr×Obj)}{σ:St}{H:Hp}{s:Shared}{a:Addr}{xs ys:List V}
theorem SqL.of{K:PySem.W.Frag}(h:H a=some (.lst xs)):SqL K H a xs:=.inl (.inl h)
theorem SqT.of{K:PySem.W.Frag}(h:H a=some (.tup xs)):SqT K H a xs:=.inl (.inl h)
theorem Inv.list(I:Inv X pins σ H s)(h:SqL X.K H a xs):∃its:List Value,Vals xs its∧PlainL s.heap a its.toArray∧xs.length≤sizeLine:=by(
rcases h with h|⟨o,its,n,hk,hc,hd,hs,hz,r⟩
·obtain⟨z,its,n,r,e⟩:=h.ok I.hok;exact⟨its,r,⟨_,n,e,rfl,rfl,rfl⟩,z⟩
refine⟨its.toList,r,⟨o,n,I.kIn a o hk,hc,hd,by simpa using hs⟩,?_⟩
have e:=r.length
simp only[gG]at e
omega)
theorem Inv.tuple(I:Inv X pins σ H s)(h:SqT X.K H a xs):∃its:List Value,Vals xs its∧IsTup s.heap a its.toArray∧xs.length≤sizeLine:=by(
rcases h with h|⟨o,its,n,hk,hc,hs,hz,r⟩
·obtain⟨z,its,r,p⟩:=h.ok I.hok;exact⟨its,r,p,z⟩
refine⟨its.toList,r,⟨o,I.kIn a o hk,hc,n,by simpa using hs⟩,?_⟩
have e:=r.length
simp only[gG]at e
omega)
theorem Inv.list_inj(I:Inv X pins σ H s)(h:SqL X.K H a xs)(h':SqL X.K H a ys):xs=ys:=by(
obtain⟨its,r,⟨o,n,e,_,_,d⟩,_⟩:=I.list h
obtain⟨its',r',⟨o',n',e',_,_,d'⟩,_⟩:=I.list h'
rw[e]at e';cases e'
rw[d]at d'
injection d' with d1 _
have:its=its':=by simpa using dB Array.toList d1
subst this
exact r.inj r')
end
noncomputable abbrev Cx.wish(X:Cx)(E:Value→Shared→Prop):Cx:={ X with xe:=E }
noncomputable abbrev Cx.nox(X:Cx):Cx:=X.wish λ_ _=>False
theorem Cx.Ok.wish{X:Cx}(ok:X.Ok)(E:Value→Shared→Prop):(X.wish E).Ok:=⟨ok.mod,ok.kind,ok.glob,ok.blt,ok.above,ok.inj,ok.has,ok.cab,ok.hd,ok.frames,ok.stk,ok.exf,ok.bs,ok.bsz,ok.noex,ok.exfs,ok.funs,ok.frf⟩
theorem Cx.Ok.unwish{X:Cx}{E:Value→Shared→Prop}(ok:(X.wish E).Ok):X.Ok:=⟨ok.mod,ok.kind,ok.glob,ok.blt,ok.above,ok.inj,ok.has,ok.cab,ok.hd,ok.frames,ok.stk,ok.exf,ok.bs,ok.bsz,ok.noex,ok.exfs,ok.funs,ok.frf⟩
section
variable{X:Cx}{pins:List (Addr×Obj)}{σ:St}{H:Hp}{s:Shared}{E:Value→Shared→Prop}
theorem Inv.wish(I:Inv X pins σ H s)(E:Value→Shared→Prop):Inv (X.wish E) pins σ H s:=⟨I.ok.wish E,I.os,I.bare,I.base,I.loc,I.cell,I.free,I.freeC,I.pin,I.hok,I.len⟩
theorem Inv.unwish(I:Inv (X.wish E) pins σ H s):Inv X pins σ H s:=⟨I.ok.unwish,I.os,I.bare,I.base,I.loc,I.cell,I.free,I.freeC,I.pin,I.hok,I.len⟩
theorem SP.unwish{D:Ends}{f:Flow}{s':Shared}(h:SP (X.wish E) pins D f s'):SP X pins D f s':=by(
cases f with
|next=>obtain⟨σ',H',I,q⟩:=h;exact⟨σ',H',I.unwish,q⟩
|brk=>obtain⟨σ',H',I,q⟩:=h;exact⟨σ',H',I.unwish,q⟩
|cont=>obtain⟨σ',H',I,q⟩:=h;exact⟨σ',H',I.unwish,q⟩
|ret u=>obtain⟨v,σ',H',I,r,q⟩:=h;exact⟨v,σ',H',I.unwish,r,q⟩)
theorem PSs.nox{st:List Stmt}{t:TS}(h:PSs X.nox st t):PSs X st t:=λpins s σ H D I hw=>gU (h pins s σ H D (I.wish _) hw) (λ_ _ q=>q.unwish) λ_ _ z=>False.elim z
end
section
variable{X:Cx}{st:Stmt}{rest:List Stmt}{t u:TS}{e:Expr}{te:TE}{pos:Pos}
noncomputable def qIL:TS:=λD σ H=>D.nx σ H
noncomputable def tSeq(t u:TS):TS:=λD σ H=>t { D with nx:=u D } σ H
theorem qM:PSs X [] qIL:=λ_ _ σ H _ I h=>pM ⟨σ,H,I,h⟩
theorem qB(h1:PS X st t)(h2:PSs X rest u):PSs X (st::rest) (tSeq t u):=by(
intro pins s σ H D I h
refine wpAny_execs_cons (thn (h1 pins s σ H { D with nx:=u D } I h) λf s1 q=>?_)
cases f with
|next=>obtain⟨σ',H',I',q⟩:=q;exact h2 pins s1 σ' H' D I' q
|ret v=>exact q
|brk=>exact q
|cont=>exact q)
theorem qD(h1:PS X st t):PSs X [st] t:=by(
intro pins s σ H D I h
refine wpAny_execs_cons (thn (h1 pins s σ H D I h) λf s1 q=>?_)
cases f with
|next=>exact pM q
|ret v=>exact q
|brk=>exact q
|cont=>exact q)
theorem Inv.quiet{pins:List (Addr×Obj)}{σ:St}{H:Hp}{s:Shared}(I:Inv X pins σ H s):interactive X.env=false:=by simp[interactive,I.ok.kind]
noncomputable def qIM(te:TE):TS:=λD σ H=>te σ H λ_ H1=>D.nx σ H1
theorem jC(he:PE X e te)(hs:swapsWith e none pos.line X.env=pure false:=by rfl):PS X (.Expr e pos) (qIM te):=by intro pins s σ H D I h;exact wpAny_Expr_any (thn (he pins s σ H _ I h) λv s1 ⟨x,H1,I1,r1,q1⟩=>⟨σ,H1,I1,q1⟩) I.quiet hs
noncomputable def tRet(te:TE):TS:=λD σ H=>te σ H D.rt
theorem qO(he:PE X e te):PS X (.Return (some e) pos) (tRet te):=by intro pins s σ H D I h;exact wpAny_Return_some (thn (he pins s σ H _ I h) λv s1 ⟨x,H1,I1,r1,q1⟩=>⟨x,σ,H1,I1,r1,q1⟩)
noncomputable def tIfS(c:TT)(t u:TS):TS:=λD σ H=>c σ H λb H1=>if b=true then t D σ H1 else u D σ H1
theorem jA{c:Expr}{a b:List Stmt}{tc:TT}(hc:PT X c tc)(ha:PSs X a t)(hb:PSs X b u):PS X (.If c a b pos) (tIfS tc t u):=by(
intro pins s σ H D I h
refine wpAny_If (thn (hc pins s σ H _ I h) λd s1 hZ=>?_)
obtain⟨H1,I1,q1⟩:=hZ
cases d with
|true=>exact ha pins s1 σ H1 D I1 q1
|false=>exact hb pins s1 σ H1 D I1 q1)
noncomputable def qGF:TS:=λ_ _ _=>False
theorem jD:PS X st qGF:=λ_ _ _ _ _ _ h=>h.elim
end
noncomputable abbrev TG:=V→St→Hp→(St→Hp→Prop)→Prop
noncomputable abbrev TGs:=List V→St→Hp→(St→Hp→Prop)→Prop
noncomputable def PG(X:Cx)(target:Expr)(t:TG):Prop:=∀(pins:List (Addr×Obj)) (s:Shared) (σ:St) (H:Hp) (v:V) (u:Value) (Q:St→Hp→Prop),Inv X pins σ H s→RelV v u→t v σ H Q→wpAny (model X.prog X.w) X.A (assign target X.env u) (λ_ s'=>∃σ' H',Inv X pins σ' H' s'∧Q σ' H') X.xe s
noncomputable def PGs(X:Cx)(ts:List Expr)(t:TGs):Prop:=∀(pins:List (Addr×Obj)) (s:Shared) (σ:St) (H:Hp) (vs:List V) (us:List Value) (Q:St→Hp→Prop),Inv X pins σ H s→Vals vs us→t vs σ H Q→wpAny (model X.prog X.w) X.A (assignInOrder ((assignEach ts X.env).map (·.2)) us) (λ_ s'=>∃σ' H',Inv X pins σ' H' s'∧Q σ' H') X.xe s
noncomputable abbrev TSet:=V→V→V→Hp→(Hp→Prop)→Prop
noncomputable def PSet(X:Cx)(t:TSet):Prop:=∀(pins:List (Addr×Obj)) (s:Shared) (σ:St) (H:Hp) (o i v:V) (ov iv u:Value) (Q:Hp→Prop),Inv X pins σ H s→RelV o ov→RelV i iv→RelV v u→t o i v H Q→wpAny (model X.prog X.w) X.A (setItem ov iv u) (λ_ s'=>∃H',Inv X pins σ H' s'∧Q H') X.xe s
noncomputable abbrev TIp:=V→V→Hp→VK→Prop
noncomputable def PIp(X:Cx)(op:Operator)(t:TIp):Prop:=∀(pins:List (Addr×Obj)) (s:Shared) (σ:St) (H:Hp) (x y:V) (v u:Value) (Q:VK),Inv X pins σ H s→RelV x v→RelV y u→t x y H Q→wpAny (model X.prog X.w) X.A (inplaceOp op v u) (EP X pins σ Q) X.xe s
section
variable{X:Cx}{pos:Pos}
noncomputable def zF(i:Nat):TG:=λv σ H Q=>Q (σ.set i (some v)) H
theorem qR{i:Nat}{x:Str}(hN:X.N.Nodup)(hi:X.N[i]?=some x)(hx:Loc X.env.scope x)(hf:X.fn x=true∨X.env.scope.names.lookup x=some .local:=by first|exact .inl rfl|exact .inr rfl|assumption):PG X (.Name x pos) (zF i):=by intro pins s σ H v u Q I r h;exact nE (q55 I hN hi hx r (λs' I'=>⟨_,H,I',h⟩) hf)
noncomputable def gNil:TGs:=λvs σ H Q=>vs=[]∧Q σ H
noncomputable def qFV(t:TG)(u:TGs):TGs:=λvs σ H Q=>∃v r,vs=v::r∧t v σ H λσ' H'=>u r σ' H' Q
theorem zS:PGs X [] gNil:=by(
intro pins s σ H vs us Q I r h
obtain⟨e,h⟩:=h
subst e
cases r
exact assignInOrder_nil ⟨σ,H,I,h⟩)
theorem jN{e:Expr}{es:List Expr}{t:TG}{u:TGs}(h1:PG X e t)(h2:PGs X es u)
 (hs:(assignEach (e::es) X.env).map (·.2)=assign e X.env::(assignEach es X.env).map (·.2):=by rfl):PGs X (e::es) (qFV t u):=by(
intro pins s σ H vs us Q I r h
obtain⟨v,vr,e1,h⟩:=h
subst e1
cases r with
|cons r rr=>rw[hs];refine assignInOrder_cons (thn (h1 pins s σ H _ _ _ I r h) λ_ s1 hZ=>?_);obtain⟨σ1,H1,I1,q1⟩:=hZ;exact h2 pins s1 σ1 H1 _ _ Q I1 rr q1)
noncomputable def gTup(K:PySem.W.Frag)(n:Nat)(t:TGs):TG:=λv σ H Q=>∃a xs,v=.ref a∧SqT K H a xs∧xs.length=n∧t xs σ H Q
theorem q12{es:List Expr}{k:Nat}{t:TGs}{n:Nat}(hc:X.calm=true)(h:PGs X es t)
 (hn:(assignEach es X.env).length=n:=by rfl) (hst:(assignEach es X.env).findIdx? (·.1)=none:=by rfl):PG X (.Tuple es k pos) (gTup X.K n t):=by(
intro pins s σ H v u Q I r hw
obtain⟨a,xs,e1,hq,hl,hw⟩:=hw
subst e1
cases r
obtain⟨its,rv,ht,hz⟩:=I.tuple hq
refine assign_Tuple_tuple (I.ok.hd hc) ht (by simp[hn,←hl,rv.length]) hst λh' hx=>?_
have I1:Inv X pins σ H { s with heap:=h' }:=I.kept (t':=s.toks) λb o e=>hx b o (kZ (kI e)) e
exact h pins _ σ H xs _ Q I1 (by simpa using rv) hw)
noncomputable def gSub(to ti:TE)(t:TSet):TG:=λv σ H Q=>to σ H λo H1=>ti σ H1 λi H2=>t o i v H2 λH3=>Q σ H3
theorem qCM{o i:Expr}{to ti:TE}{t:TSet}(ho:PE X o to)(hi:PE X i ti)(hs:PSet X t)
 (ha:∀v,assign (.Subscript o i pos) X.env v=(do
  let ov←holding [v] (eval o X.env)
  let iv←holding [v,ov] (eval i X.env)
  standAt pos
  holding [v,ov,iv] (setItem ov iv v)
  release [v,ov,iv] []):=by intro _;rfl):PG X (.Subscript o i pos) (gSub to ti t):=by(
intro pins s σ H v u Q I r h
rw[ha]
refine kA (g0 (thn (ho pins s σ H _ I h) λov s1 hZ=>?_))
obtain⟨x,H1,I1,r1,q1⟩:=hZ
refine kA (g0 (thn (hi pins s1 σ H1 _ I1 q1) λiv s2 hZ=>?_))
obtain⟨y,H2,I2,r2,q2⟩:=hZ
refine kA (cU (kA (g0 (thn (hs pins s2 σ H2 x y v ov iv u _ I2 r1 r2 r q2) λ_ s3 hZ=>?_))))
obtain⟨H3,I3,q3⟩:=hZ
exact wpAny_release ⟨σ,H3,I3,q3⟩)
noncomputable def tAsg(te:TE)(g:TG):TS:=λD σ H=>te σ H λx H1=>g x σ H1 D.nx
theorem q3O{tg e:Expr}{te:TE}{g:TG}(he:PE X e te)(hg:PG X tg g)(hs:swapsWithSole [tg] e pos.line X.env=pure false:=by rfl)(hw:swappedStores [tg] e X.env=pure none:=by rfl)
 (h1:(assignEach [tg] X.env).map (·.2)=[assign tg X.env]:=by rfl):PS X (.Assign [tg] e pos) (tAsg te g):=by(
intro pins s σ H D I h
refine wpAny_Assign_stores (thn (he pins s σ H _ I h) λv s1 hZ=>?_) hs hw
obtain⟨x,H1,I1,r1,q1⟩:=hZ
rw[h1]
exact thn (hg pins s1 σ H1 x v _ I1 r1 q1) λ_ s2 q=>q)
theorem qS{i:Nat}{x:Str}{e:Expr}{te:TE}{pos':Pos}(hN:X.N.Nodup)(hi:X.N[i]?=some x)(hx:Loc X.env.scope x)(he:PE X e te)(hs:swapsWith e (some (.Name x pos')) pos.line X.env=pure false:=by rfl)(hf:X.fn x=true∨X.env.scope.names.lookup x=some .local:=by first|exact .inl rfl|exact .inr rfl|assumption):
 PS X (.Assign [.Name x pos'] e pos) (tAsg te (zF i)):=by(
intro pins s σ H D I h
refine wpAny_Assign_Name (thn (he pins s σ H _ I h) λv s1 hZ=>?_) hs
obtain⟨y,H1,I1,r1,q1⟩:=hZ
exact q55 I1 hN hi hx r1 (λs2 I2=>⟨_,H1,I2,q1⟩) hf)
noncomputable def tAug(i:Nat)(te:TE)(ti:TIp):TS:=λD σ H=>∃x,σ[i]?=some (some x)∧te σ H λy H1=>ti x y H1 λz H2=>D.nx (σ.set i (some z)) H2
theorem qGG{i:Nat}{x:Str}{e:Expr}{te:TE}{op:Operator}{ti:TIp}{pos':Pos}(hN:X.N.Nodup)(hi:X.N[i]?=some x)(hx:Loc X.env.scope x)(he:PE X e te)(ho:PIp X op ti)(hf:X.fn x=true∨X.env.scope.names.lookup x=some .local:=by first|exact .inl rfl|exact .inr rfl|assumption):
 PS X (.AugAssign (.Name x pos') op e pos) (tAug i te ti):=by(
intro pins s σ H D I h
obtain⟨v,e1,h⟩:=h
obtain⟨m,hn,hl⟩:=I.loc
have vis:Vis X.env.scope x:=by rcases hx with k|k;exact .inl k;exact .inr (.inl k)
obtain⟨u,r,l⟩:=hl i x v hi e1 vis
refine wpAny_AugAssign_Name ?_
have go:wpAny (model X.prog X.w) X.A (eval e X.env) (λw s₂=>wpAny (model X.prog X.w) X.A (inplaceOp op u w) (λr s₃=>wpAny (model X.prog X.w) X.A (storeName X.env x r) (λ_=>SP X pins D .next) X.xe s₃) X.xe s₂) X.xe s:=by refine thn (he pins s σ H _ I h) λw s1 hZ=>?_;obtain⟨y,H1,I1,r1,q1⟩:=hZ;refine thn (ho pins s1 σ H1 v y u w _ I1 r r1 q1) λz s2 hZ=>?_;obtain⟨zv,H2,I2,r2,q2⟩:=hZ;exact q55 I2 hN hi hx r2 (λs3 I3=>⟨_,H2,I3,q2⟩) hf
rcases l with⟨hk,hm⟩|⟨hk,c,hc,hcell⟩
·exact pX I.ok.kind hk hn hm go
rcases hk with hk|hk
·exact sJ I.ok.kind hk hc hcell go
rcases hx with k|k
·have:X.env.scope.names.lookup x=some .free:=hk;rw[k]at this;cases this
have:X.env.scope.names.lookup x=some .free:=hk
rw[k]at this;cases this)
noncomputable def qIN(to ti te:TE)(tget:V→V→Hp→VK→Prop)(tip:TIp)(tset:TSet):TS:=λD σ H=>to σ H λo H1=>ti σ H1 λi H2=>tget o i H2 λx H3=>te σ H3 λy H4=>tip x y H4 λz H5=>tset o i z H5 λH6=>D.nx σ H6
noncomputable def PGet(X:Cx)(t:V→V→Hp→VK→Prop):Prop:=∀(pins:List (Addr×Obj)) (s:Shared) (σ:St) (H:Hp) (o i:V) (ov iv:Value) (Q:VK),Inv X pins σ H s→RelV o ov→RelV i iv→t o i H Q→wpAny (model X.prog X.w) X.A (getItem ov iv) (EP X pins σ Q) X.xe s
theorem q4R{o i e:Expr}{to ti te:TE}{tget:V→V→Hp→VK→Prop}{tip:TIp}{tset:TSet}{op:Operator}{tpos:Pos}(ho:PE X o to)(hi:PE X i ti)(hg:PGet X tget)(he:PE X e te)(hp:PIp X op tip)(hs:PSet X tset)
 (ha:∀ov iv new,augStore i ov iv new=(do holding [new,ov,iv] (setItem ov iv new);release [new,ov,iv] [];pure .next):=by intros;rfl):PS X (.AugAssign (.Subscript o i tpos) op e pos) (qIN to ti te tget tip tset):=by(
intro pins s σ H D I h
refine wpAny_AugAssign_SubscriptAny (thn (ho pins s σ H _ I h) λov s1 hZ=>?_) ha
obtain⟨x1,H1,I1,r1,q1⟩:=hZ
refine thn (hi pins s1 σ H1 _ I1 q1) λiv s2 hZ=>?_
obtain⟨x2,H2,I2,r2,q2⟩:=hZ
refine thn (hg pins s2 σ H2 x1 x2 ov iv _ I2 r1 r2 q2) λold s3 hZ=>?_
obtain⟨x3,H3,I3,r3,q3⟩:=hZ
refine thn (he pins s3 σ H3 _ I3 q3) λv s4 hZ=>?_
obtain⟨x4,H4,I4,r4,q4⟩:=hZ
refine thn (hp pins s4 σ H4 x3 x4 old v _ I4 r3 r4 q4) λnew s5 hZ=>?_
obtain⟨x5,H5,I5,r5,q5⟩:=hZ
exact thn (hs pins s5 σ H5 x1 x2 x5 ov iv new _ I5 r1 r2 r5 q5) λ_ s6 ⟨H6,I6,q6⟩=>⟨σ,H6,I6,q6⟩)
noncomputable def ipI(f:Int→Int→Int):TIp:=λx y H Q=>∃i j,x=.int i∧y=.int j∧Q (.int (f i j)) H
theorem q7V:PIp X .Add (ipI λi j=>i+j):=by(
intro pins s σ H x y v u Q I r1 r2 h
obtain⟨i,j,e1,e2,q⟩:=h
subst e1;subst e2
obtain⟨t,rfl⟩:=r1
obtain⟨t',rfl⟩:=r2
exact iadd_int ⟨.int _,H,I.tok _,⟨_,rfl⟩,q⟩)
theorem qGH:PIp X .Sub (ipI λi j=>i-j):=by(
intro pins s σ H x y v u Q I r1 r2 h
obtain⟨i,j,e1,e2,q⟩:=h
subst e1;subst e2
obtain⟨t,rfl⟩:=r1
obtain⟨t',rfl⟩:=r2
exact isub_int ⟨.int _,H,I.tok _,⟨_,rfl⟩,q⟩)
end
structure It where
go:Nat→Hp→Prop
yld:Nat→Hp→V→Hp→Prop
stop:Nat→Hp→Prop
noncomputable def FpOk(X:Cx)(pins:List (Addr×Obj))(H:Hp)(b:Addr):Prop:=H b=none∧b≠X.env.locals∧b∉X.fs∧(b∈X.ex∨X.s₀.heap.objs.size≤b)∧(∀x c,X.env.cells.lookup x=some c→c≠b)∧∀p∈X.pn++pins,p.1≠b
theorem Inv.fpOk{X:Cx}{pins:List (Addr×Obj)}{σ:St}{H H':Hp}{s:Shared}{b:Addr}(I:Inv X pins σ H s)(hb:s.heap.objs.size≤b)(hn:H' b=none):FpOk X pins H' b:=by(
refine⟨hn,dZ (kY I.lt hb),I.nofs hb,.inr (mE I.sz hb),λx c e z=>?_,λp hp z=>?_⟩
·obtain⟨v,q⟩:=I.cell x c e;exact absurd (kY q.lt (by rw[z];exact hb)) (gT _)
exact absurd (kY (kI (I.pin p hp).1) (by rw[z];exact hb)) (gT _))
structure Turn(P:Program)(w:World)(K:PySem.W.Frag)(tg:Expr)(J:It)(fp:List Addr)(it:Addr)(tn:Nat→Heap→Prop):Prop where
mem:it∈fp
obj:∀i h,tn i h→∀b∈fp,∃o,h.get? b=some o∧∀v,o.data≠ .cell v
keep:∀i h h',tn i h→(∀b∈fp,∀o,h.get? b=some o→h'.get? b=some o)→tn i h'
item:∀(X:Cx),X.prog=P→X.w=w→X.K=K→X.calm=true→∀(i:Nat) (pins:List (Addr×Obj)) (s:Shared) (σ:St) (H:Hp) (E:Value→Shared→Prop),Inv X pins σ H s→(∀b∈fp,FpOk X pins H b)→tn i s.heap→J.go i H→wpAny (model P w) X.A (pyNext (.ref it)) (λr s1=>∃u,r=some u∧wpAny (model P w) X.A (letOwnedTupleGo tg (.ref it) u) (λ_ s2=>∃x H',Inv X pins σ H' s2∧RelV x u∧J.yld i H x H'∧tn (i+1) s2.heap∧∀b∈fp,H' b=none) E s1) E s
done:∀(X:Cx),X.prog=P→X.w=w→X.K=K→X.calm=true→∀(i:Nat) (pins:List (Addr×Obj)) (s:Shared) (σ:St) (H:Hp) (E:Value→Shared→Prop),Inv X pins σ H s→(∀b∈fp,FpOk X pins H b)→tn i s.heap→J.stop i H→wpAny (model P w) X.A (pyNext (.ref it)) (λr s1=>r=none∧Inv X pins σ H s1) E s
self:∀(A:Around) (i:Nat) (s:Shared) (Q:Value→Shared→Prop) (E:Value→Shared→Prop),tn i s.heap→Q (.ref it) s→wpAny (model P w) A (pyIter (.ref it)) Q E s
noncomputable abbrev TI:=St→Hp→(It→Hp→Prop)→Prop
noncomputable def PIE(X:Cx)(pins:List (Addr×Obj))(σ:St)(tg:Expr)(R:It→Hp→Prop)(itv:Value)(s2:Shared):Prop:=∃(it:Addr) (fp:List Addr) (tn:Nat→Heap→Prop) (J:It) (H':Hp),itv=.ref it∧Inv X pins σ H' s2∧Turn X.prog X.w X.K tg J fp it tn∧tn 0 s2.heap∧(∀b∈fp,FpOk X pins H' b)∧R J H'
noncomputable def PI(X:Cx)(tg iter:Expr)(wi:TI):Prop:=∀(pins:List (Addr×Obj)) (s:Shared) (σ:St) (H:Hp) (R:It→Hp→Prop),Inv X pins σ H s→wi σ H R→wpAny (model X.prog X.w) X.A (eval iter X.env) (λv s1=>wpAny (model X.prog X.w) X.A (pyIter v) (PIE X pins σ tg R) X.xe s1) X.xe s
theorem qAT{M:Model}{A:Around}{E:Value→Shared→Prop}{s:Shared}{tg:Expr}{it:Addr}{u:Value}{o:Obj}{n:String}{vs:Array Value}{Q:Unit→Shared→Prop}(ho:s.heap.get? it=some o)(hc:o.cls=.type n)(hd:o.data=.fields vs)
 (hn:["enumerate","zip","dict_itemiterator","dict_reverseitemiterator","odict_iterator","itertools.zip_longest","itertools.pairwise"].contains n=false) (hQ:Q () s):wpAny M A (letOwnedTupleGo tg (.ref it) u) Q E s:=by(
unfold letOwnedTupleGo
cases tg<;>first
 |exact kU hQ
 |(cases u<;>first
  |exact kU hQ
  |(refine kA (wpAny_load ho ?_)
    rw[hc,hd];show wpAny M A (if(["enumerate","zip","dict_itemiterator","dict_reverseitemiterator","odict_iterator","itertools.zip_longest","itertools.pairwise"].contains n&&vs[0]?==some (rawInt _))=true then _ else _) Q E s;rw[kC (by intro h;rw[hn,pZ]at h;cases h)];exact kU hQ)))
noncomputable def Itl(K:PySem.W.Frag)(a:Addr):It:=⟨λi H=>∃xs x,SqL K H a xs∧xs[i]?=some x,λi H x H'=>H'=H∧∀xs,SqL K H a xs→xs[i]?=some x,λi H=>∃xs,SqL K H a xs∧xs.length≤i⟩
noncomputable def Itr(lo:Int)(n:Nat):It:=⟨λi _=>i<n,λi H x H'=>H'=H∧x=.int (lo+i),λi _=>n≤i⟩
theorem qBM{P:Program}{w:World}{K:PySem.W.Frag}{tg:Expr}(a it:Addr):Turn P w K tg (Itl K a) [it] it (λi h=>h.IsListIter it a i) where
mem:=by simp
obj:=λi h st b hb=>by
 have e:b=it:=by simpa using hb
 subst e;obtain⟨o,e,c,d⟩:=st;exact⟨o,e,λv z=>by rw[d]at z;cases z⟩
keep:=λi h h' st k=>st.at λo e=>k it (by simp) o e
item:=by intro X hP hw hK hc i pins s σ H E I hf st hg;subst hP hw hK;obtain⟨xs,x,hq,hx⟩:=hg;obtain⟨its,rv,p,hz⟩:=I.list hq;obtain⟨u,hu,ru⟩:=rv.get hx;obtain⟨f0,f1,f2,f3,f4,f5⟩:=hf it (by simp);refine wpAny_pyNext_list_item st p.isList (x:=u) (by simpa using hu) λh' st' sb=>?_;have I1:Inv X pins σ H { s with heap:=h' }:=I.turned (t':=s.toks) (λb o hb e=>(sb.2 b hb).trans e) f0 f1 f3 f4 f5;obtain⟨o,e,c,d⟩:=id st';exact⟨u,rfl,qAT (s:={ s with heap:=h' }) e c d (by decide) ⟨x,H,I1,ru,⟨rfl,λys hy=>by rw[I.list_inj hy hq];exact hx⟩,st',λb hb=>(hf b hb).1⟩⟩
done:=by intro X hP hw hK hc i pins s σ H E I hf st hg;subst hP hw hK;obtain⟨xs,hq,hx⟩:=hg;obtain⟨its,rv,p,hz⟩:=I.list hq;obtain⟨f0,f1,f2,f3,f4,f5⟩:=hf it (by simp);have hl:=rv.length;exact wpAny_pyNext_list_end (I.ok.hd hc) st p.isList (by simp;omega) λh' eb=>⟨rfl,I.turned (t':=s.toks) (λb o hb e=>eb b o hb e) f0 f1 f3 f4 f5⟩
self:=λ_ _ _ _ _ st h=>wpAny_pyIter_listiter st h
theorem qA0{P:Program}{w:World}{K:PySem.W.Frag}{tg:Expr}(it:Addr)(lo:Int)(n:Nat):Turn P w K tg (Itr lo n) [it] it (λi h=>IsRangeIter h it (lo+(i:Nat)*1) ((n:Int)-(i:Nat)) 1) where
mem:=by simp
obj:=λi h st b hb=>by
 have e:b=it:=by simpa using hb
 subst e;exact⟨_,st,λv z=>by have z':Data.fields _=Data.cell v:=z;cases z'⟩
keep:=λi h h' st k=>k it (by simp) _ st
item:=by intro X hP hw hK hc i pins s σ H E I hf st hg;subst hP hw hK;obtain⟨f0,f1,f2,f3,f4,f5⟩:=hf it (by simp);have W:=Walks.range (prog:=X.prog) (w:=X.w) (I.ok.hd hc) it lo 1 n;refine W.item i s _ _ hg st λv h' tk hv st' kk=>?_;obtain⟨t,rfl⟩:=hv;have I1:Inv X pins σ H { s with heap:=h',toks:=tk }:=I.turned (λb o hb e=>kk b o (by simpa using hb) e) f0 f1 f3 f4 f5;refine⟨_,rfl,qAT (s:={ s with heap:=h',toks:=tk }) (n:="range_iterator") st' rfl rfl (by decide) ⟨.int (lo+i),H,I1,⟨t,?_⟩,⟨rfl,rfl⟩,st',λb hb=>(hf b hb).1⟩⟩;rw[Int.mul_one]
done:=by intro X hP hw hK hc i pins s σ H E I hf st hg;subst hP hw hK;obtain⟨f0,f1,f2,f3,f4,f5⟩:=hf it (by simp);exact wpAny_pyNext_range_end (I.ok.hd hc) st (by have:n≤i:=hg;omega) λh' eb=>⟨rfl,I.turned (t':=s.toks) (λb o hb e=>eb b o hb e) f0 f1 f3 f4 f5⟩
self:=λ_ _ _ _ _ st h=>wpAny_pyIter_rangeiter st h
section
variable{X:Cx}{tg:Expr}
noncomputable def qIO(K:PySem.W.Frag)(tl:TE):TI:=λσ H R=>tl σ H λx H1=>∃a,x=.ref a∧(∃xs,SqL K H1 a xs)∧R (Itl K a) H1
theorem jW{l:Expr}{tl:TE}(hl:PE X l tl):PI X tg l (qIO X.K tl):=by(
intro pins s σ H R I h
refine thn (hl pins s σ H _ I h) λv s1 hZ=>?_
obtain⟨x,H1,I1,r1,q1⟩:=hZ
obtain⟨a,e,⟨xs,hq⟩,q⟩:=q1
subst e
cases r1
obtain⟨its,rv,p,hz⟩:=I1.list hq
refine cN p.isList ?_
refine⟨s1.heap.objs.size,[s1.heap.objs.size],_,_,H1,rfl,I1.kept (t':=s1.toks) λb o e=>hX _ e,qBM a _,⟨_,kR _ rfl,rfl,rfl⟩,λb hb=>?_,q⟩
have e:b=s1.heap.objs.size:=by simpa using hb
subst e
exact I1.fpOk (kB _) (I1.hok.fresh (kB _)))
theorem qCN{pins:List (Addr×Obj)}{σ:St}{H:Hp}{s:Shared}{R:It→Hp→Prop}{E:Value→Shared→Prop}{lo hi:Int}{t u v:Tok}{tk:Nat}(I:Inv X pins σ H s)(h1:-(2 ^ 62)≤lo)(h2:lo<2 ^ 62)(h3:-(2 ^ 62)≤hi)(h4:hi<2 ^ 62)
 (q:R (Itr lo (hi-lo).toNat) H):wpAny (model X.prog X.w) X.A (pyIter (.ref s.heap.objs.size)) (PIE X pins σ tg R) E { s with heap:=s.heap.push { cls:=.type "range",data:=.fields #[.int lo t,.int hi u,.int 1 v] },toks:=tk }:=by(
refine wpAny_pyIter_range (IsRange.new ..) (small_one h1 h2 h3 h4) ?_
have I1:Inv X pins σ H { s with heap:=s.heap.push { cls:=.type "range",data:=.fields #[.int lo t,.int hi u,.int 1 v] },toks:=tk }:=I.kept λb o e=>hX _ e
refine⟨(s.heap.push { cls:=.type "range",data:=.fields #[.int lo t,.int hi u,.int 1 v] }).objs.size,[(s.heap.push { cls:=.type "range",data:=.fields #[.int lo t,.int hi u,.int 1 v] }).objs.size],_,_,H,rfl,I1.kept (t':=tk) λb o e=>hX _ e,qA0 _ lo (hi-lo).toNat,?_,λb hb=>?_,q⟩
·have e1:lo+((0:Nat):Int)*1=lo:=by simp
 have e2:(((hi-lo).toNat:Nat):Int)-((0:Nat):Int)=Builtin.Range.rangeSize lo hi 1:=by rw[rangeSize_one];split<;>omega
 show IsRangeIter _ _ (lo+((0:Nat):Int)*1) ((((hi-lo).toNat:Nat):Int)-((0:Nat):Int)) 1;rw[e1,e2];exact kR _ rfl
have e:b=(s.heap.push { cls:=.type "range",data:=.fields #[.int lo t,.int hi u,.int 1 v] }).objs.size:=by simpa using hb
subst e
exact I1.fpOk (kB _) (I1.hok.fresh (kB _)))
noncomputable def qIP(ta:TA):TI:=λσ H R=>ta σ H λvs H1=>∃j:Int,vs=[.int j]∧-(2 ^ 62)≤j∧j<2 ^ 62∧R (Itr 0 j.toNat) H1
theorem uL{a:Expr}{ta:TA}{p pos:Pos}(hg:Gl X "range")(hm:X.mg "range"=none)(ha:PA X [a] ta)(hs:starEach [a] X.env=[(false,eval a X.env)]:=by rfl):PI X tg (.Call (.Name "range" p) [a] [] pos) (qIP ta):=by(
intro pins s σ H R I h
refine Call_ (q56 I hg hm boot_range (cD (thn (ha pos pins s σ H _ I h) λus s1 hZ=>?_) hs rfl))
obtain⟨vs,H1,I1,r1,q1⟩:=hZ
obtain⟨j,e,q1,q2,q⟩:=q1
subst e
cases r1 with
|cons r rr=>cases rr;obtain⟨t,rfl⟩:=r;exact call_range_1 (qCN I1 (by omega) (by omega) q1 q2 (by simpa using q)))
noncomputable def tFor(wi:TI)(g:TG)(tb:TS):TS:=λD σ H=>wi σ H λJ H1=>∃W:Nat→Nat→St→Hp→Prop,(∃m,W 0 m σ H1)∧∀i m σ H,W i m σ H→(J.stop i H∧D.nx σ H)∨(J.go i H∧∃N:St→Hp→Prop,(∀σ' H',N σ' H'→∃m',m'<m∧W (i+1) m' σ' H')∧∀x H',J.yld i H x H'→g x σ H' λσ2 H2=>tb { D with nx:=N,ct:=N,bk:=D.nx } σ2 H2)
noncomputable def q57(fp:List Addr)(h:Heap):List (Addr×Obj):=fp.filterMap λb=>(h.get? b).map λo=>(b,o)
theorem v3{fp:List Addr}{h:Heap}{b:Addr}{o:Obj}(hb:b∈fp)(e:h.get? b=some o):(b,o)∈q57 fp h:=wA.mpr ⟨b,hb,by rw[e];rfl⟩
theorem qBN{fp:List Addr}{h:Heap}{p:Addr×Obj}(hp:p∈q57 fp h):p.1∈fp∧h.get? p.1=some p.2:=by(
obtain⟨b,hb,e⟩:=wA.mp hp
cases q:h.get? b with
|none=>rw[q]at e;cases e
|some o=>rw[q]at e;have e':(b,o)=p:=kJ e;subst e';exact⟨hb,q⟩)
theorem Inv.pinned{pins:List (Addr×Obj)}{σ:St}{H:Hp}{s:Shared}{fp:List Addr}(I:Inv X pins σ H s)(hf:∀b∈fp,FpOk X pins H b)(ho:∀b∈fp,∃o,s.heap.get? b=some o∧∀v,o.data≠ .cell v):Inv X (pins++q57 fp s.heap) σ H s:=I.pins_of λp hp=>(gA.mp hp).elim (λz=>I.pin p (kP _ z)) λz=>by  obtain⟨hb,e⟩:=qBN z;obtain⟨f0,f1,f2,_⟩:=hf p.1 hb;obtain⟨o,e',d⟩:=ho p.1 hb;rw[e]at e';cases e';exact⟨e,f0,f1,f2,d⟩
theorem Inv.unpinned{pins pl:List (Addr×Obj)}{σ:St}{H:Hp}{s:Shared}(I:Inv X (pins++pl) σ H s):Inv X pins σ H s:=I.pins_of λp hp=>I.pin p (kP _ (mP _ hp))
theorem uQ{iter:Expr}{body:List Stmt}{wi:TI}{g:TG}{tb:TS}{pos:Pos}(hp:PassesOwn (model X.prog X.w) X.A X.env X.xe)(hc:X.calm=true)(hi:PI X tg iter wi)(hg:PG X tg g)(hb:PSs X body tb)
 (hs:∀x,foldedSetIterable iter X.env x=pure x:=by intro _;rfl):PS X (.For tg iter body [] pos) (tFor wi g tb):=by(
intro pins s σ H D I h
refine wpAny_For (thn (hi pins s σ H _ I h) λv s1 h1=>thn h1 λitv s2 h2=>?_) hs
obtain⟨it,fp,tn,J,H2,e,I2,T,st2,f2,W,⟨m0,w0⟩,turn⟩:=h2
subst e
have stat:∀{H':Hp},(∀b∈fp,H' b=none)→∀b∈fp,FpOk X pins H' b:=λhn b hb=>⟨hn b hb,(f2 b hb).2⟩
refine codeAny_forLoop_any (λn s'=>∃i σ' H',Inv X pins σ' H' s'∧tn i s'.heap∧(∀b∈fp,H' b=none)∧W i n σ' H') ?_ m0 ⟨0,σ,H2,I2,st2,λb hb=>(f2 b hb).1,w0⟩
rintro n s3 ⟨i,σ3,H3,I3,st3,fr3,w3⟩
rcases turn i n σ3 H3 w3 with⟨stop,qn⟩|⟨go,N,hN,step⟩
·refine rZ hp (thn (T.done X rfl rfl rfl hc i pins s3 σ3 H3 X.xe I3 (stat fr3) st3 stop) λr s4 hZ=>?_);obtain⟨hr,I4⟩:=hZ;subst hr;exact pM ⟨σ3,H3,I4,qn⟩
refine rZ hp (thn (T.item X rfl rfl rfl hc i pins s3 σ3 H3 X.xe I3 (stat fr3) st3 go) λr s4 hZ=>?_)
obtain⟨u,hr,h4⟩:=hZ
subst hr
refine rZ hp (thn h4 λ_ s5 hZ=>?_)
obtain⟨x,H5,I5,r5,y5,st5,fr5⟩:=hZ
have I5':=I5.pinned (stat fr5) (T.obj _ _ st5)
refine rZ hp (thn (hg _ s5 σ3 H5 x u _ I5' r5 (step x H5 y5)) λ_ s6 hZ=>?_)
obtain⟨σ6,H6,I6,q6⟩:=hZ
refine rZ hp (thn (hb _ s6 σ6 H6 _ I6 q6) λf s7 q7=>?_)
have again:∀{σ7:St} {H7:Hp},Inv X (pins++q57 fp s5.heap) σ7 H7 s7→N σ7 H7→∃m,m<n∧∃i σ' H',Inv X pins σ' H' s7∧tn i s7.heap∧(∀b∈fp,H' b=none)∧W i m σ' H':=fun {σ7 H7} I7 n7=>by obtain⟨m',hm,w7⟩:=hN σ7 H7 n7;refine⟨m',hm,i+1,σ7,H7,I7.unpinned,T.keep _ _ _ st5 λb hb o e=>(I7.pin (b,o) (kP _ (kP _ (v3 hb e)))).1,λb hb=>?_,w7⟩;obtain⟨o,e,d⟩:=T.obj _ _ st5 b hb;exact(I7.pin (b,o) (kP _ (kP _ (v3 hb e)))).2.1
cases f with
|next=>obtain⟨σ7,H7,I7,n7⟩:=q7;exact again I7 n7
|cont=>obtain⟨σ7,H7,I7,n7⟩:=q7;exact again I7 n7
|brk=>obtain⟨σ7,H7,I7,q7⟩:=q7;exact⟨σ7,H7,I7.unpinned,q7⟩
|ret v=>obtain⟨x7,σ7,H7,I7,r7,q7⟩:=q7;exact⟨x7,σ7,H7,I7.unpinned,r7,q7⟩)
end
theorem vE{K:PySem.W.Frag}{a:Addr}{xs:List V}{g:TG}{tb:TS}{D:Ends}{σ:St}{H:Hp}(Pv:Nat→St→Hp→Prop)(h0:Pv 0 σ H)(hl:∀i σ H,i≤xs.length→Pv i σ H→SqL K H a xs)
 (hs:∀i x σ H,xs[i]?=some x→Pv i σ H→g x σ H λσ2 H2=>tb { D with nx:=Pv (i+1),ct:=Pv (i+1),bk:=D.nx } σ2 H2) (hd:∀σ H,Pv xs.length σ H→D.nx σ H):
 ∃W:Nat→Nat→St→Hp→Prop,(∃m,W 0 m σ H)∧∀i m σ H,W i m σ H→((Itl K a).stop i H∧D.nx σ H)∨((Itl K a).go i H∧∃N:St→Hp→Prop,(∀σ' H',N σ' H'→∃m',m'<m∧W (i+1) m' σ' H')∧∀x H',(Itl K a).yld i H x H'→g x σ H' λσ2 H2=>tb { D with nx:=N,ct:=N,bk:=D.nx } σ2 H2):=by(
refine⟨λi m σ H=>m=xs.length-i∧i≤xs.length∧Pv i σ H,⟨xs.length,by simp,mI _,h0⟩,?_⟩
rintro i m σ H ⟨rfl,hi,p⟩
have q:=hl i σ H hi p
by_cases hlt:i<xs.length
·refine .inr ⟨⟨xs,xs[i],q,by simp[hlt]⟩,Pv (i+1),λσ' H' p'=>⟨xs.length-(i+1),by omega,rfl,hlt,p'⟩,λx H' y=>?_⟩;obtain⟨e,y⟩:=y;subst e;exact hs i x σ _ (y xs q) p
have e:i=xs.length:=by omega
subst e
exact .inl ⟨⟨xs,q,kB _⟩,hd σ H p⟩)
theorem qBO{lo:Int}{n:Nat}{g:TG}{tb:TS}{D:Ends}{σ:St}{H:Hp}(Pv:Nat→St→Hp→Prop)(h0:Pv 0 σ H)
 (hs:∀i σ H,i<n→Pv i σ H→g (.int (lo+i)) σ H λσ2 H2=>tb { D with nx:=Pv (i+1),ct:=Pv (i+1),bk:=D.nx } σ2 H2) (hd:∀σ H,Pv n σ H→D.nx σ H):
 ∃W:Nat→Nat→St→Hp→Prop,(∃m,W 0 m σ H)∧∀i m σ H,W i m σ H→((Itr lo n).stop i H∧D.nx σ H)∨((Itr lo n).go i H∧∃N:St→Hp→Prop,(∀σ' H',N σ' H'→∃m',m'<m∧W (i+1) m' σ' H')∧∀x H',(Itr lo n).yld i H x H'→g x σ H' λσ2 H2=>tb { D with nx:=N,ct:=N,bk:=D.nx } σ2 H2):=by(
refine⟨λi m σ H=>m=n-i∧i≤n∧Pv i σ H,⟨n,by simp,mI _,h0⟩,?_⟩
rintro i m σ H ⟨rfl,hi,p⟩
by_cases hlt:i<n
·refine .inr ⟨hlt,Pv (i+1),λσ' H' p'=>⟨n-(i+1),by omega,rfl,hlt,p'⟩,λx H' y=>?_⟩;obtain⟨e,y⟩:=y;subst e y;exact hs i σ _ hlt p
have e:i=n:=by omega
subst e
exact .inl ⟨kB _,hd σ H p⟩)
noncomputable abbrev R2:=V→V→Hp→VK→Prop
noncomputable def OpR(X:Cx)(f:Value→Value→Sem Value)(r:R2):Prop:=∀(pins:List (Addr×Obj)) (s:Shared) (σ:St) (H:Hp) (x y:V) (v u:Value) (Q:VK),Inv X pins σ H s→RelV x v→RelV y u→r x y H Q→wpAny (model X.prog X.w) X.A (f v u) (EP X pins σ Q) X.xe s
noncomputable def UnR(X:Cx)(f:Value→Sem Value)(r:V→Hp→VK→Prop):Prop:=∀(pins:List (Addr×Obj)) (s:Shared) (σ:St) (H:Hp) (x:V) (v:Value) (Q:VK),Inv X pins σ H s→RelV x v→r x H Q→wpAny (model X.prog X.w) X.A (f v) (EP X pins σ Q) X.xe s
noncomputable def vF(X:Cx)(f:Value)(r:List V→Hp→VK→Prop):Prop:=∀(pins:List (Addr×Obj)) (s:Shared) (σ:St) (H:Hp) (xs:List V) (us:List Value) (Q:VK),Inv X pins σ H s→Vals xs us→r xs H Q→wpAny (model X.prog X.w) X.A (call f us) (EP X pins σ Q) X.xe s
noncomputable def tOp(r:R2)(ta tb:TE):TE:=λσ H Q=>ta σ H λx H1=>tb σ H1 λy H2=>r x y H2 Q
noncomputable def tUn(r:V→Hp→VK→Prop)(ta:TE):TE:=λσ H Q=>ta σ H λx H1=>r x H1 Q
noncomputable def rI(C:Int→Int→Prop)(g:Int→Int→V):R2:=λx y H Q=>∃i j,x=.int i∧y=.int j∧C i j∧Q (g i j) H
noncomputable def rI0(g:Int→Int→V):R2:=λx y H Q=>∃i j,x=.int i∧y=.int j∧Q (g i j) H
noncomputable def rU(g:Int→V):V→Hp→VK→Prop:=λx H Q=>∃i,x=.int i∧Q (g i) H
section
variable{X:Cx}{a b c:Expr}{ta tb tc:TE}{pos:Pos}
theorem binT(ha:PE X a ta)(hb:PE X b tb){pins:List (Addr×Obj)}{s:Shared}{σ:St}{H:Hp}{R:V→V→Hp→Prop}(I:Inv X pins σ H s)
 (h:ta σ H λx H1=>tb σ H1 λy H2=>R x y H2) {Q:Value→Shared→Prop} {f:Value→Value→Sem Value}
 (hf:∀v u s2 x y H2,Inv X pins σ H2 s2→RelV x v→RelV y u→R x y H2→wpAny (model X.prog X.w) X.A (f v u) Q X.xe s2):
 wpAny (model X.prog X.w) X.A (eval a X.env) (λv s₁=>wpAny (model X.prog X.w) X.A (eval b X.env) (λu s₂=>wpAny (model X.prog X.w) X.A (f v u) Q X.xe s₂) X.xe s₁) X.xe s:=by(
refine thn (ha pins s σ H _ I h) λv s1 hZ=>?_
obtain⟨x,H1,I1,r1,q1⟩:=hZ
refine thn (hb pins s1 σ H1 _ I1 q1) λu s2 hZ=>?_
obtain⟨y,H2,I2,r2,q2⟩:=hZ
exact hf v u s2 x y H2 I2 r1 r2 q2)
theorem qP{op:Operator}{r:R2}(ho:OpR X (binaryOp op) r)(ha:PE X a ta)(hb:PE X b tb):PE X (.BinOp a op b pos) (tOp r ta tb):=by intro pins s σ H Q I h;exact wpAny_BinOp (binT ha hb I h λv u s2 x y H2 I2 rx ry q=>ho pins s2 σ H2 x y v u Q I2 rx ry q)
theorem qIQ{op:UnaryOp}{r:V→Hp→VK→Prop}(ho:UnR X (unaryOp op) r)(ha:PE X a ta):PE X (.UnaryOp op a pos) (tUn r ta):=by intro pins s σ H Q I h;exact UnaryOp_ (thn (ha pins s σ H _ I h) λv s1 ⟨x,H1,I1,r1,q1⟩=>ho pins s1 σ H1 x v Q I1 r1 q1)
theorem opI{f:Value→Value→Sem Value}{C:Int→Int→Prop}{g:Int→Int→Int}
 (rule:∀(i j:Int) (t u:Tok) (s:Shared) (Q:Value→Shared→Prop) (E:Value→Shared→Prop),C i j→Q (.int (g i j) s.toks) { s with toks:=s.toks+1 }→wpAny (model X.prog X.w) X.A (f (.int i t) (.int j u)) Q E s):
 OpR X f (rI C λi j=>.int (g i j)):=by(
intro pins s σ H x y v u Q I rx ry h
obtain⟨i,j,rfl,rfl,hc,q⟩:=h
obtain⟨t,rfl⟩:=rx
obtain⟨t',rfl⟩:=ry
exact rule i j t t' s _ _ hc ⟨.int (g i j),H,I.tok _,⟨_,rfl⟩,q⟩)
theorem opI0{f:Value→Value→Sem Value}{g:Int→Int→Int}
 (rule:∀(i j:Int) (t u:Tok) (s:Shared) (Q:Value→Shared→Prop) (E:Value→Shared→Prop),Q (.int (g i j) s.toks) { s with toks:=s.toks+1 }→wpAny (model X.prog X.w) X.A (f (.int i t) (.int j u)) Q E s):
 OpR X f (rI0 λi j=>.int (g i j)):=by(
intro pins s σ H x y v u Q I rx ry h
obtain⟨i,j,rfl,rfl,q⟩:=h
obtain⟨t,rfl⟩:=rx
obtain⟨t',rfl⟩:=ry
exact rule i j t t' s _ _ ⟨.int (g i j),H,I.tok _,⟨_,rfl⟩,q⟩)
theorem opB0{f:Value→Value→Sem Value}{g:Int→Int→Bool}
 (rule:∀(i j:Int) (t u:Tok) (s:Shared) (Q:Value→Shared→Prop) (E:Value→Shared→Prop),Q (.bool (g i j)) s→wpAny (model X.prog X.w) X.A (f (.int i t) (.int j u)) Q E s):
 OpR X f (rI0 λi j=>.bl (g i j)):=by(
intro pins s σ H x y v u Q I rx ry h
obtain⟨i,j,rfl,rfl,q⟩:=h
obtain⟨t,rfl⟩:=rx
obtain⟨t',rfl⟩:=ry
exact rule i j t t' s _ _ ⟨.bl (g i j),H,I,rfl,q⟩)
noncomputable def CDiv(i j:Int):Prop:=0<j∧j<1073741824
noncomputable def CPow(i j:Int):Prop:=0≤j∧j≤1000000∧i.natAbs<2 ^ 64
noncomputable def CMul(i j:Int):Prop:=(-(2 ^ 64)<i∧i<2 ^ 64)∨(-(2 ^ 64)<j∧j<2 ^ 64)
theorem CMul.ok{i j:Int}(h:CMul i j):IntMulOk i j:=by(
rcases h with⟨h1,h2⟩|⟨h1,h2⟩
·exact .of_left (intBits_le_64 h1 h2)
exact .of_right (intBits_le_64 h1 h2))
theorem jQ:OpR X (binaryOp .Add) (rI0 λi j=>.int (i+j)):=opI0 λ_ _ _ _ _ _ _ q=>add_int q
theorem uC:OpR X (binaryOp .Sub) (rI0 λi j=>.int (i-j)):=opI0 λ_ _ _ _ _ _ _ q=>sub_int q
theorem zW:OpR X (binaryOp .Mult) (rI CMul λi j=>.int (i*j)):=opI λ_ _ _ _ _ _ _ hc q=>mul_int q hc.ok
theorem u7:OpR X (binaryOp .FloorDiv) (rI CDiv λi j=>.int (i / j)):=opI λi j _ _ _ _ _ hc q=>by have h1:(0:Int)<j:=hc.1;have h2:j<1073741824:=hc.2;exact floordiv_int (by omega) (by rw[Int.fdiv_eq_ediv_of_nonneg i (by omega)];exact q) (.inl (PyProof.noPylong_small (by omega)))
theorem yG:OpR X (binaryOp .Mod) (rI (λ_ j=>0<j) λi j=>.int (i%j)):=opI λi j _ _ _ _ _ hc q=>by have h1:(0:Int)<j:=hc;exact mod_int' (by omega) (by rw[Int.fmod_eq_emod_of_nonneg i (by omega)];exact q)
theorem qA1:OpR X (binaryOp .Pow) (rI CPow λi j=>.int (i ^ j.toNat)):=opI λ_ _ _ _ _ _ _ hc q=>pow_int_small hc.1 hc.2.1 hc.2.2 q
theorem qGI:OpR X (binaryOp .LShift) (rI CPow λi j=>.int (i*2 ^ j.toNat)):=opI λ_ _ _ _ _ _ _ hc q=>lshift_int_small hc.1 hc.2.1 hc.2.2 q
theorem qIR:OpR X (binaryOp .BitOr) (rI0 λi j=>.int (Builtin.bitOr i j)):=opI0 λ_ _ _ _ _ _ _ q=>or_int q
theorem unI{f:Value→Sem Value}{g:Int→Int}
 (rule:∀(i:Int) (t:Tok) (s:Shared) (Q:Value→Shared→Prop) (E:Value→Shared→Prop),Q (.int (g i) s.toks) { s with toks:=s.toks+1 }→wpAny (model X.prog X.w) X.A (f (.int i t)) Q E s):
 UnR X f (rU λi=>.int (g i)):=by(
intro pins s σ H x v Q I rx h
obtain⟨i,rfl,q⟩:=h
obtain⟨t,rfl⟩:=rx
exact rule i t s _ _ ⟨.int (g i),H,I.tok _,⟨_,rfl⟩,q⟩)
theorem qGJ:UnR X (unaryOp .USub) (rU λi=>.int (-i)):=unI λ_ _ _ _ _ q=>neg_int q
end
noncomputable def scal:V→V→Bool
| .non,.non=>true| .non,.int _=>true| .int _,.non=>true| .non,.bl _=>true| .bl _,.non=>true| .non,.str _=>true| .str _,.non=>true
| .int _,.int _=>true| .bl _,.bl _=>true| .str _,.str _=>true| .byt _,.byt _=>true
| .int _,.str _=>true| .str _,.int _=>true| .bl _,.str _=>true| .str _,.bl _=>true
|_,_=>false
noncomputable def rEq:R2:=λx y H Q=>scal x y=true∧Q (.bl (decide (x=y))) H
noncomputable def rNe:R2:=λx y H Q=>scal x y=true∧Q (.bl (!decide (x=y))) H
theorem qAU{i j:Int}:decide (V.int i=V.int j)=(i==j):=by rw[d6];simp
theorem qCO{i j:Bool}:decide (V.bl i=V.bl j)=(i==j):=by rw[d6];simp
theorem qAV{i j:Str}:decide (V.str i=V.str j)=(i==j):=by rw[d6];simp
theorem qAW{i j:Array UInt8}:decide (V.byt i=V.byt j)=(i.toList==j.toList):=by(
rw[d6]
cases i
cases j
simp)
section
variable{X:Cx}{a b c:Expr}{ta tb tc:TE}{pos:Pos}
theorem jL{pins:List (Addr×Obj)}{σ:St}{H:Hp}{s:Shared}{Q:VK}{k k':Bool}(I:Inv X pins σ H s)(q:Q (.bl k) H)(e:k=k'):EP X pins σ Q (.bool k') s:=by subst e;exact⟨.bl k,H,I,rfl,q⟩
theorem vG:OpR X (compareOp .Eq) rEq:=by(
intro pins s σ H x y v u Q I rx ry h
obtain⟨hs,q⟩:=h
cases x with
|non=>
 cases rx;cases y with
 |non=>cases ry;exact PySem.EqNone.eq_none_none (jL I q (by simp))
 |bl j=>cases ry;exact PySem.EqNone.eq_none_bool (jL I q (by simp))
 |int j=>obtain⟨t',rfl⟩:=ry;exact PySem.EqNone.eq_none_int (jL I q (by simp))
 |str j=>obtain⟨t',rfl⟩:=ry;exact PySem.EqNone.eq_none_str (jL I q (by simp))
 |_=>exact absurd (show false=true from hs) kH
|bl i=>
 cases rx;cases y with
 |non=>cases ry;exact PySem.EqNone.eq_bool_none (jL I q (by simp))
 |bl j=>cases ry;exact eq_bool (jL I q qCO)
 |str j=>obtain⟨t',rfl⟩:=ry;exact lR (jL I q (by simp))
 |_=>exact absurd (show false=true from hs) kH
|int i=>
 obtain⟨t,rfl⟩:=rx;cases y with
 |non=>cases ry;exact PySem.EqNone.eq_int_none (jL I q (by simp))
 |int j=>obtain⟨t',rfl⟩:=ry;exact eq_int (jL I q qAU)
 |str j=>obtain⟨t',rfl⟩:=ry;exact lY (jL I q (by simp))
 |_=>exact absurd (show false=true from hs) kH
|str i=>
 obtain⟨t,rfl⟩:=rx;cases y with
 |non=>cases ry;exact PySem.EqNone.eq_str_none (jL I q (by simp))
 |bl j=>cases ry;exact lT (jL I q (by simp))
 |int j=>obtain⟨t',rfl⟩:=ry;exact lZ (jL I q (by simp))
 |str j=>obtain⟨t',rfl⟩:=ry;exact eq_str (jL I q qAV)
 |_=>exact absurd (show false=true from hs) kH
|byt i=>
 obtain⟨t,rfl⟩:=rx;cases y with
 |byt j=>obtain⟨t',rfl⟩:=ry;exact PySem.W.eq_bytes (jL I q qAW)
 |_=>exact absurd (show false=true from hs) kH
|_=>cases y<;>exact absurd (show false=true from hs) kH)
theorem q2C:OpR X (compareOp .NotEq) rNe:=by(
intro pins s σ H x y v u Q I rx ry h
obtain⟨hs,q⟩:=h
cases x with
|non=>
 cases rx;cases y with
 |non=>cases ry;exact PySem.EqNone.ne_none_none (jL I q (by simp))
 |bl j=>cases ry;exact PySem.EqNone.ne_none_bool (jL I q (by simp))
 |int j=>obtain⟨t',rfl⟩:=ry;exact PySem.EqNone.ne_none_int (jL I q (by simp))
 |str j=>obtain⟨t',rfl⟩:=ry;exact PySem.EqNone.ne_none_str (jL I q (by simp))
 |_=>exact absurd (show false=true from hs) kH
|bl i=>
 cases rx;cases y with
 |non=>cases ry;exact PySem.EqNone.ne_bool_none (jL I q (by simp))
 |bl j=>cases ry;exact ne_bool (jL I q (dB not qCO))
 |str j=>obtain⟨t',rfl⟩:=ry;exact lU (jL I q (by simp))
 |_=>exact absurd (show false=true from hs) kH
|int i=>
 obtain⟨t,rfl⟩:=rx;cases y with
 |non=>cases ry;exact PySem.EqNone.ne_int_none (jL I q (by simp))
 |int j=>obtain⟨t',rfl⟩:=ry;exact ne_int (jL I q (dB not qAU))
 |str j=>obtain⟨t',rfl⟩:=ry;exact l7 (jL I q (by simp))
 |_=>exact absurd (show false=true from hs) kH
|str i=>
 obtain⟨t,rfl⟩:=rx;cases y with
 |non=>cases ry;exact PySem.EqNone.ne_str_none (jL I q (by simp))
 |bl j=>cases ry;exact lW (jL I q (by simp))
 |int j=>obtain⟨t',rfl⟩:=ry;exact l9 (jL I q (by simp))
 |str j=>obtain⟨t',rfl⟩:=ry;exact ne_str (jL I q (dB not qAV))
 |_=>exact absurd (show false=true from hs) kH
|byt i=>
 obtain⟨t,rfl⟩:=rx;cases y with
 |byt j=>obtain⟨t',rfl⟩:=ry;exact PySem.W.ne_bytes (jL I q (dB not qAW))
 |_=>exact absurd (show false=true from hs) kH
|_=>cases y<;>exact absurd (show false=true from hs) kH)
theorem q70:OpR X (compareOp .Lt) (rI0 λi j=>.bl (decide (i<j))):=opB0 λ_ _ _ _ _ _ _ q=>lt_int q
theorem q8Y:OpR X (compareOp .LtE) (rI0 λi j=>.bl (decide (i≤j))):=opB0 λ_ _ _ _ _ _ _ q=>le_int q
theorem qCP:OpR X (compareOp .Gt) (rI0 λi j=>.bl (decide (j<i))):=opB0 λ_ _ _ _ _ _ _ q=>gt_int q
theorem q8Z:OpR X (compareOp .GtE) (rI0 λi j=>.bl (decide (j≤i))):=opB0 λ_ _ _ _ _ _ _ q=>ge_int q
theorem qCQ:OpR X (compareOp .Is) (λx y H Q=>y=.non∧Q (.bl (decide (x=.non))) H):=by(
intro pins s σ H x y v u Q I rx ry h
obtain⟨rfl,q⟩:=h
cases ry
refine is_none_gen (jL I q ?_)
cases x<;>first
 |(cases rx;rfl)
 |(obtain⟨t,rfl⟩:=rx;rfl))
theorem q4S:OpR X (compareOp .IsNot) (λx y H Q=>y=.non∧Q (.bl (!decide (x=.non))) H):=by(
intro pins s σ H x y v u Q I rx ry h
obtain⟨rfl,q⟩:=h
cases ry
refine isnot_none_gen (jL I q ?_)
cases x<;>first
 |(cases rx;rfl)
 |(obtain⟨t,rfl⟩:=rx;rfl))
theorem qX(b:Expr){op:CmpOp}(h:op≠ .In:=by decide)(h2:op≠ .NotIn:=by decide):behindInMarks op b=false:=by(
have e1:(op==CmpOp.In)=false:=by cases op<;>first|rfl|exact absurd rfl h
have e2:(op==CmpOp.NotIn)=false:=by cases op<;>first|rfl|exact absurd rfl h2
cases b<;>simp[behindInMarks,e1,e2])
theorem yP{op:CmpOp}{r:R2}(ho:OpR X (compareOp op) r)(ha:PE X a ta)(hb:PE X b tb)(hm:behindInMarks op b=false):PE X (.Compare a [op] [b] pos) (tOp r ta tb):=by intro pins s σ H Q I h;exact wpAny_Compare1 (binT ha hb I h λv u s2 x y H2 I2 rx ry q=>ho pins s2 σ H2 x y v u Q I2 rx ry q) hm
noncomputable def qFW(t:TE):TT:=λσ H Q=>t σ H λx H'=>∃k,x=.bl k∧Q k H'
theorem qY{op:CmpOp}{r:R2}(ho:OpR X (compareOp op) r)(ha:PE X a ta)(hb:PE X b tb)(hm:behindInMarks op b=false):PT X (.Compare a [op] [b] pos) (qFW (tOp r ta tb)):=by(
intro pins s σ H Q I h
refine pS (thn (ha pins s σ H _ I h) λv s1 ⟨x,H1,I1,r1,q1⟩=>thn (hb pins s1 σ H1 _ I1 q1) λu s2 ⟨y,H2,I2,r2,q2⟩=>thn (ho pins s2 σ H2 x y v u _ I2 r1 r2 q2) λc s3 ⟨z,H3,I3,r3,k,e,q3⟩=>?_) hm
subst e
cases r3
exact gI ⟨H3,I3,q3⟩)
noncomputable def qCR(r r':R2)(ta tb tc:TE):TE:=λσ H Q=>ta σ H λx H1=>tb σ H1 λy H2=>r x y H2 λz H3=>∃k,z=.bl k∧(if k=true then tc σ H3 λw' H4=>r' y w' H4 Q else Q (.bl false) H3)
theorem q90{op op':CmpOp}{r r':R2}(ho:OpR X (compareOp op) r)(ho':OpR X (compareOp op') r')(ha:PE X a ta)(hb:PE X b tb)(hc:PE X c tc)
 (hm:lastMarks [op,op'] [b,c]=false:=by with_unfolding_all rfl):PE X (.Compare a [op,op'] [b,c] pos) (qCR r r' ta tb tc):=by(
intro pins s σ H Q I h
refine Compare_chain (thn (ha pins s σ H _ I h) λv s1 ⟨x,H1,I1,r1,q1⟩=>chain_link (thn (hb pins s1 σ H1 _ I1 q1) λu s2 ⟨y,H2,I2,r2,q2⟩=>thn (ho pins s2 σ H2 x y v u _ I2 r1 r2 q2) λd s3 ⟨z,H3,I3,r3,k,e,q3⟩=>?_)) hm
subst e
cases r3
refine gI ?_
cases k with
|false=>exact ite_ff ⟨.bl false,H3,I3,rfl,q3⟩
|true=>exact ite_tt (chain_last (thn (hc pins s3 σ H3 _ I3 q3) λw' s4 ⟨z',H4,I4,r4,q4⟩=>ho' pins s4 σ H4 y z' u w' Q I4 r2 r4 q4)))
theorem q58{op op':CmpOp}{r r':R2}(ho:OpR X (compareOp op) r)(ho':OpR X (compareOp op') r')(ha:PE X a ta)(hb:PE X b tb)(hc:PE X c tc)
 (hm:lastMarks [op,op'] [b,c]=false:=by with_unfolding_all rfl):PT X (.Compare a [op,op'] [b,c] pos) (qFW (qCR r r' ta tb tc)):=by(
intro pins s σ H Q I h
refine isTrue_chain (thn (ha pins s σ H _ I h) λv s1 ⟨x,H1,I1,r1,q1⟩=>test_link (thn (hb pins s1 σ H1 _ I1 q1) λu s2 ⟨y,H2,I2,r2,q2⟩=>thn (ho pins s2 σ H2 x y v u _ I2 r1 r2 q2) λd s3 ⟨z,H3,I3,r3,k,e,q3⟩=>?_)) hm
subst e
cases r3
refine gI ?_
cases k with
|false=>obtain⟨k',e',q'⟩:=q3;cases e';exact ite_ff ⟨H3,I3,q'⟩
|true=>refine ite_tt (test_last (thn (hc pins s3 σ H3 _ I3 q3) λw' s4 ⟨z',H4,I4,r4,q4⟩=>thn (ho' pins s4 σ H4 y z' u w' _ I4 r2 r4 q4) λd' s5 hZ=>?_));obtain⟨z2,H5,I5,r5,k2,e2,q5⟩:=hZ;subst e2;cases r5;exact gI ⟨H5,I5,q5⟩)
theorem q2P:(sizeLine:Nat)<2 ^ 63:=by rw[gO];decide
theorem v4:OpR X (binaryOp .Add) (λx y H Q=>∃i j,x=.str i∧y=.str j∧i.length+j.length≤sizeLine∧Q (.str (i++j)) H):=by(
intro pins s σ H x y v u Q I rx ry h
obtain⟨i,j,rfl,rfl,hz,q⟩:=h
obtain⟨t,rfl⟩:=rx
obtain⟨t',rfl⟩:=ry
exact add_str (λt' tk=>⟨.str (i++j),H,I.tok _,⟨_,rfl⟩,q⟩) hz)
theorem zT{x:V}{us:List Value}(r:Vals [x] us):∃u,us=[u]∧RelV x u:=by
 cases r with
 |cons r1 r2=>cases r2;exact⟨_,rfl,r1⟩
theorem qCS{x y:V}{us:List Value}(r:Vals [x,y] us):∃u w',us=[u,w']∧RelV x u∧RelV y w':=by(
cases r with
|cons r1 r2=>
 cases r2 with
 |cons r3 r4=>cases r4;exact⟨_,_,rfl,r1,r3⟩)
theorem q71(hc:X.calm=true):vF X (.builtin "max") (λxs H Q=>∃i j,xs=[.int i,.int j]∧Q (.int (if j>i then j else i)) H):=by(
intro pins s σ H xs us Q I r h
obtain⟨i,j,rfl,q⟩:=h
obtain⟨u,w',rfl,⟨t,rfl⟩,⟨t',rfl⟩⟩:=qCS r
refine max_two_ints (I.ok.hd hc) λh' tk k=>⟨_,H,I.kept k,?_,q⟩
by_cases hj:j>i
·rw[kG hj,kG hj];exact⟨_,rfl⟩
rw[kC hj,kC hj];exact⟨_,rfl⟩)
theorem qBP(hc:X.calm=true):vF X (.builtin "min") (λxs H Q=>∃i j,xs=[.int i,.int j]∧Q (.int (if j<i then j else i)) H):=by(
intro pins s σ H xs us Q I r h
obtain⟨i,j,rfl,q⟩:=h
obtain⟨u,w',rfl,⟨t,rfl⟩,⟨t',rfl⟩⟩:=qCS r
refine min_two_ints (I.ok.hd hc) λh' tk k=>⟨_,H,I.kept k,?_,q⟩
by_cases hj:j<i
·rw[kG hj,kG hj];exact⟨_,rfl⟩
rw[kC hj,kC hj];exact⟨_,rfl⟩)
theorem q72:vF X (.type "int") (λxs H Q=>(∃i,xs=[.int i]∧Q (.int i) H)∨∃k,xs=[.bl k]∧Q (.int (if k then 1 else 0)) H):=by(
intro pins s σ H xs us Q I r h
rcases h with⟨i,rfl,q⟩|⟨k,rfl,q⟩
·obtain⟨u,rfl,t,rfl⟩:=zT r;exact call_int_int ⟨.int i,H,I,⟨_,rfl⟩,q⟩
obtain⟨u,rfl,r1⟩:=zT r
cases r1
exact call_int_bool ⟨.int (if k then 1 else 0),H,I.tok _,⟨_,rfl⟩,q⟩)
end
structure ObjM(h:Heap)(x dx C:Addr)(mA:Str→Option Value):Prop where
obj:h.get? x=some (PySem.W.instObj C dx)
ns:h.Ns1 dx mA
ne:dx≠x
theorem q73{h:Heap}{dx:Addr}{mA:Str→Option Value}(n:h.Ns1 dx mA):∃od,h.get? dx=some od∧∀name,PySem.W.lookIn name od=some (mA name):=by(
obtain⟨o,es,ep,ho,hd,hk,_,hm⟩:=n
refine⟨o,ho,λname=>?_⟩
have e:=hm name
unfold nsFind findBy at e
rw[←Array.find?_toList]at e
unfold PySem.W.lookIn
rw[hd]
dsimp only
split
·rename_i y q;rw[q]at e;exact dB some e
rename_i q
rw[q]at e
have a:es.toList.any (·.refKey)=false:=by rw[List.any_eq_false];intro y hy;obtain⟨z,t,hkey⟩:=hk y (Array.mem_toList_iff.mp hy);simp[DictEntry.refKey,hkey]
have a':¬es.toList.any (·.refKey)=true:=by rw[a];exact kH
rw[kC a']
exact dB some e)
theorem ObjM.look{h:Heap}{x dx C:Addr}{mA:Str→Option Value}(I:ObjM h x dx C mA):∃od,PySem.W.InstAt h x (PySem.W.instObj C dx) C (some od)∧∀name,PySem.W.lookIn name od=some (mA name):=let⟨od,ho,hl⟩:=q73 I.ns
 ⟨od,⟨I.obj,rfl,rfl,ho⟩,hl⟩
section
variable{prog:Program}{w:World}{A:Around}{E:Value→Shared→Prop}{s:Shared}{K:PySem.W.Frag}{x dx C f:Addr}{mA:Str→Option Value}{name:Str}{v:Value}
theorem qEF{expr:Bool}{Q:Value→Shared→Prop}(X:K.In s.heap)(I:ObjM s.heap x dx C mA)(hg:PySem.W.plainGet K C name=true)(hh:PySem.W.hasDictIn K C=true)
 (ha:PySem.W.findIn K (.ref C) name=some none) (hv:mA name=some v) (hv':PySem.W.handedIn v=true) (h:Q v { s with toks:=s.toks+1 }):
 wpAny (model prog w) A (getAttr (.ref x) name expr) Q E s:=by obtain⟨od,J,hl⟩:=I.look;exact PySem.W.get_value X J (wZ hg).1 (PySem.W.findObj_own hh ha rfl (by rw[hl,hv])) hv' h
theorem qCT{pl:Sem Bool}{Q:Value×List Value→Shared→Prop}(X:K.In s.heap)(I:ObjM s.heap x dx C mA)(hg:PySem.W.plainGet K C name=true)
 (hf:PySem.W.findIn K (.ref C) name=some (some (.ref f))) (ht:PySem.W.isFn K (.ref f)=true) (hv:mA name=none) (h:Q (.ref f,[.ref x]) s):
 wpAny (model prog w) A (getMethod (.ref x) name pl) Q E s:=by obtain⟨od,J,hl⟩:=I.look;exact PySem.W.method_fn X J (wZ hg).1 (wZ hg).2 hf (dU.mp ht) (by show(PySem.W.lookIn name od).map (·.isSome)=some false;rw[hl,hv];rfl) h
theorem qEG{ns:List Str}{Q:Unit→Shared→Prop}(X:K.In s.heap)(I:ObjM s.heap x dx C mA)
 (hs:PySem.W.findIn K (.ref C) "__setattr__"=some (some (.builtin "object.__setattr__"))) (hp:PySem.W.plainOver K C=true) (ht:PySem.W.takerIn K C name=some none) (hh:PySem.W.hasDictIn K C=true)
 (hw:PySem.Within mA ns) (hsz:ns.length≤sizeLine)
 (h:∀h',ObjM h' x dx C (λy=>if y=name then some v else mA y)→Heap.SameBut dx s.heap h'→Q () { s with heap:=h',toks:=s.toks+2 }):
 wpAny (model prog w) A (setAttr (.ref x) name v) Q E s:=by(
obtain⟨od,J,hl⟩:=I.look
refine PySem.W.set_plain X J hs (PySem.W.osa_open (s:={ s with toks:=s.toks+1 }) (r:=none) X J hp ht λb=>?_)
obtain⟨cd,hc,hd'⟩:=wQ hh
have hx:s.heap.get? x=some ⟨.ref C,some dx,.plain,#[]⟩:=I.obj
refine kA (kU (kA (kA (wpAny_loadPart hx (kA (xH (s:={ s with toks:=s.toks+1 }) (PySem.W.looks_clsIn X hc) ?_))))))
rw[hd']
refine kU (a:=some dx) (kA (kU (kA ?_)))
refine wpAny_nsSet1 (s:={ s with toks:=s.toks+1 }) I.ns λh' hn2 hs2=>?_
obtain⟨oD,esD,epD,hoD,hdD,hcD⟩:=hn2.count (PySem.Within.cons name v hw)
refine kA (wpAny_lookBehind hoD (by rw[hdD];exact pastItsLine_dict (mE hcD (by rw[mY];omega))) ?_)
exact kU (h _ ⟨(hs2.2 _ (dO I.ne)).trans I.obj,hn2,I.ne⟩ hs2))
theorem q91{R:Result→Shared→Prop}{vs:List Value}{kw:List (Str×Value)}(X:K.In s.heap)(hm:PySem.W.makesIn K C=true)
 (hi:PySem.W.findIn K (.ref C) "__init__"=some (some (.ref f))) (hf:PySem.W.typeIn K (.ref f)=some (.type "function"))
 (h:codeAny (model prog w) (A.under (.builtin "type.__call__" ⟨.ref C::vs,kw⟩)) (.call (.ref f) ⟨.ref (s.heap.objs.size+1)::vs,kw⟩) (PySem.W.InitBack (s.heap.objs.size+1) R)
  { s with heap:=(s.heap.push PySem.W.emptyDict).push (PySem.W.instObj C s.heap.objs.size) }):
 codeAny (model prog w) A (.call (.ref C) ⟨vs,kw⟩) R s:=by obtain⟨hh,g,d,t,os⟩:=s;exact PySem.W.make_core (PySem.W.makes_of X hm) (wU X hi) (λself=>PySem.W.bind_fn X self hf) (.inl rfl) h
end
noncomputable def putF(f:Str)(v:V):List (Str×V)→List (Str×V)
| []=>[(f,v)]
|(g,x)::r=>if g=f then(g,v)::r else(g,x)::putF f v r
theorem q47(f g:Str)(v:V):∀fs:List (Str×V),(putF f v fs).lookup g=if g=f then some v else fs.lookup g
| []=>by
 show List.lookup g [(f,v)]=_;by_cases h:g=f
 ·have hb:(g==f)=true:=dU.mpr h;simp only[List.lookup,hb,kG h]
 have hb:(g==f)=false:=g9.mpr h;simp only[List.lookup,hb,kC h]
|(k,x)::r=>by
 have ih:=q47 f g v r;rw[show putF f v ((k,x)::r)=(if k=f then(k,v)::r else(k,x)::putF f v r)from rfl];by_cases hk:k=f
 ·rw[kG hk];by_cases h:g=k
  ·have hb:(g==k)=true:=dU.mpr h;simp only[List.lookup,hb,kG (h.trans hk)]
  have hb:(g==k)=false:=g9.mpr h;simp only[List.lookup,hb,kC (λe:g=f=>h (e.trans hk.symm))]
 rw[kC hk];by_cases h:g=k
 ·have hb:(g==k)=true:=dU.mpr h;simp only[List.lookup,hb,kC (λe:g=f=>hk (h.symm.trans e))]
 have hb:(g==k)=false:=g9.mpr h;simp only[List.lookup,hb];exact ih
theorem q3P(f:Str)(v:V):∀fs:List (Str×V),f∈(putF f v fs).map (·.1)∧∀g,g∈fs.map (·.1)→g∈(putF f v fs).map (·.1)
| []=>⟨by simp[putF],λg h=>by simp at h⟩
|(k,x)::r=>by
 obtain⟨i1,i2⟩:=q3P f v r;rw[show putF f v ((k,x)::r)=(if k=f then(k,v)::r else(k,x)::putF f v r)from rfl];by_cases hk:k=f
 ·rw[kG hk];subst hk;exact⟨by simp,λg h=>by simpa using h⟩
 rw[kC hk];refine⟨?_,λg h=>?_⟩
 ·rw[mS];exact kD _ i1
 rw[mS]at h ⊢;rcases kL.mp h with e|e
 ·exact kL.mpr (.inl e)
 exact kD _ (i2 g e)
theorem q48(f:Str)(v:V):∀fs:List (Str×V),(putF f v fs).length≤fs.length+1
| []=>by simp[putF]
|(k,x)::r=>by
 have ih:=q48 f v r;rw[show putF f v ((k,x)::r)=(if k=f then(k,v)::r else(k,x)::putF f v r)from rfl];by_cases hk:k=f
 ·rw[kG hk,mY,mY];omega
 rw[kC hk,mY,mY];omega
theorem RelO.some_of{v:V}{o:Option Value}(r:RelO (some v) o):∃u,o=some u∧RelV v u:=by(
cases o with
|none=>exact(show False from r).elim
|some u=>exact⟨u,rfl,r⟩)
theorem RelO.none_of{o:Option Value}(r:RelO none o):o=none:=by(
cases o with
|none=>rfl
|some u=>exact(show False from r).elim)
theorem qBQ{v:V}{u:Value}(r:RelV v u):PySem.W.handedIn u=true:=by(
cases v with
|non=>cases(show u=Value.none from r);rfl
|bl b=>cases(show u=Value.bool b from r);rfl
|int i=>obtain⟨t,e⟩:=(show ∃t,u=Value.int i t from r);cases e;rfl
|str x=>obtain⟨t,e⟩:=(show ∃t,u=Value.str x t from r);cases e;rfl
|byt b=>obtain⟨t,e⟩:=(show ∃t,u=Value.bytes b t from r);cases e;rfl
|flt b=>obtain⟨t,e⟩:=(show ∃t,u=Value.float b t from r);cases e;rfl
|ref a=>cases(show u=Value.ref a from r);rfl
|ty n=>cases(show u=Value.type n from r);rfl)
section
variable{P:Program}{w:World}{H H':Hp}{h h':Heap}{a C dx:Addr}{fs fs':List (Str×V)}
theorem q4T(hok:HOk P w H h)(e:H a=some (.ins C dx fs)):∃mA,ObjM h a dx C mA∧(∀f,RelO (fs.lookup f) (mA f))∧PySem.Within mA (fs.map (·.1))∧fs.length≤1000∧H dx=some (.own a):=by obtain⟨d,z,ne,ob,mA,n,r,q⟩:=(show jR P w H h a (.ins C dx fs)from hok a _ e);exact⟨mA,⟨ob,n,ne⟩,r,q,z,d⟩
end
structure Cls(K:PySem.W.Frag)(C:Addr):Prop where
pg:PySem.W.plainGet K C Str.empty=true
hd:PySem.W.hasDictIn K C=true
po:PySem.W.plainOver K C=true
sa:PySem.W.findIn K (.ref C) "__setattr__"=some (some (.builtin "object.__setattr__"))
theorem Cls.get{K:PySem.W.Frag}{C:Addr}(c:Cls K C)(f:Str):PySem.W.plainGet K C f=true:=c.pg
noncomputable def qN(K:PySem.W.Frag)(C:Addr)(f:Str):Prop:=PySem.W.findIn K (.ref C) f=some none
theorem qN.taker{K:PySem.W.Frag}{C:Addr}{f:Str}(n:qN K C f):PySem.W.takerIn K C f=some none:=by unfold PySem.W.takerIn;rw[show PySem.W.findIn K (.ref C) f=some none from n];rfl
structure Meth(K:PySem.W.Frag)(C:Addr)(m:Str)(f:Addr):Prop where
at_:PySem.W.findIn K (.ref C) m=some (some (.ref f))
fn:PySem.W.isFn K (.ref f)=true
kp:PySem.W.keepIn K (.ref f)=true
section
variable{X:Cx}{pins:List (Addr×Obj)}{σ:St}{H:Hp}{s:Shared}{a C dx:Addr}{fs:List (Str×V)}{f:Str}{v:V}{A:Around}{E:Value→Shared→Prop}
theorem q59{b:Bool}{Q:Value→Shared→Prop}(I:Inv X pins σ H s)(e:H a=some (.ins C dx fs))(c:Cls X.K C)(n:qN X.K C f)(l:fs.lookup f=some v)
 (h:∀u s',Inv X pins σ H s'→RelV v u→Q u s'):wpAny (model X.prog X.w) A (getAttr (.ref a) f b) Q E s:=by obtain⟨mA,O,r,_,_,_⟩:=q4T I.hok e;obtain⟨u,hu,ru⟩:=RelO.some_of (v:=v) (o:=mA f) (by rw[←l];exact r f);exact qEF I.kIn O (c.get f) c.hd n hu (qBQ ru) (h u _ (I.tok _) ru)
theorem q2Q{m:Str}{g:Addr}{pl:Sem Bool}{Q:Value×List Value→Shared→Prop}(I:Inv X pins σ H s)(e:H a=some (.ins C dx fs))(c:Cls X.K C)(k:Meth X.K C m g)(l:fs.lookup m=none)
 (h:Q (.ref g,[.ref a]) s):wpAny (model X.prog X.w) A (getMethod (.ref a) m pl) Q E s:=by obtain⟨mA,O,r,_,_,_⟩:=q4T I.hok e;have hn:mA m=none:=RelO.none_of (by rw[←l];exact r m);exact qCT I.kIn O (c.get m) k.at_ k.fn hn h
theorem q5A{y:V}{u:Value}{Q:Unit→Shared→Prop}(I:Inv X pins σ H s)(e:H a=some (.ins C dx fs))(c:Cls X.K C)(n:qN X.K C f)(hl:fs.length<1000)(ry:RelV y u)
 (h:∀s',Inv X pins σ (upd H a (.ins C dx (putF f y fs))) s'→Q () s'):wpAny (model X.prog X.w) A (setAttr (.ref a) f u) Q E s:=by(
obtain⟨mA,O,r,wi,_,ho⟩:=q4T I.hok e
have hz:(fs.map (·.1)).length≤sizeLine:=by rw[hV,gO];omega
refine qEG I.kIn O c.sa c.po n.taker c.hd wi hz λh' O' sb=>h _ ?_
have hd:∃o,h'.get? dx=some o:=let⟨o,_,_,e',_⟩:=O'.ns;⟨o,e'⟩
refine I.write (x:=a) (e:=dx) (by rw[e];exact True.intro) (.inr ho) (λb q hb z=>(sb.2 b hb).trans z) hd ?_
refine⟨by rw[qE O.ne];exact ho,?_,O.ne,O'.obj,_,O'.ns,λg=>?_,λg hg=>?_⟩
·have:=q48 f y fs;omega
·show RelO ((putF f y fs).lookup g) (if g=f then some u else mA g);rw[q47];by_cases q:g=f
 ·rw[kG q,kG q];exact ry
 rw[kC q,kC q];exact r g
by_cases q:g=f
·rw[q];exact(q3P f y fs).1
refine(q3P f y fs).2 g (wi g λz=>hg ?_)
show(if g=f then some u else mA g)=none
rw[kC q];exact z)
theorem Inv.made(I:Inv X pins σ H s):Inv X pins σ (upd (upd H s.heap.objs.size (.own (s.heap.objs.size+1))) (s.heap.objs.size+1) (.ins C s.heap.objs.size []))
 { s with heap:=(s.heap.push PySem.W.emptyDict).push (PySem.W.instObj C s.heap.objs.size) }:=by(
have e1:(s.heap.push PySem.W.emptyDict).get? s.heap.objs.size=some PySem.W.emptyDict:=kR s.heap rfl
have e2:((s.heap.push PySem.W.emptyDict).push (PySem.W.instObj C s.heap.objs.size)).get? (s.heap.objs.size+1)=some (PySem.W.instObj C s.heap.objs.size):=by have:=kR (s.heap.push PySem.W.emptyDict) (o:=PySem.W.instObj C s.heap.objs.size) rfl;rwa [rH]at this
have e3:(s.heap.push PySem.W.emptyDict).Ns s.heap.objs.size (λ_=>none):=⟨PySem.W.emptyDict,#[],_,e1,rfl,(λe he=>absurd he (by simp)),λ_=>rfl⟩
have I1:=I.laid (a:=s.heap.objs.size) (o:=.own (s.heap.objs.size+1)) (h':=s.heap.push PySem.W.emptyDict) (t':=s.toks) (λb u q=>hX _ q) (kB _) ⟨_,e1⟩
refine I1.laid (a:=s.heap.objs.size+1) (o:=.ins C s.heap.objs.size []) (t':=s.toks) (λb u q=>hX _ q) (cE (rH _ _)) ?_
have ne:s.heap.objs.size≠s.heap.objs.size+1:=kZ (rM _)
refine⟨by rw[qE ne,qG],mI _,ne,e2,λ_=>none,(Heap.Ns1.of_empty e3).at λo q=>hX _ q,λ_=>True.intro,λy hy=>absurd rfl hy⟩)
theorem qEH{prog:Program}{w:World}{env:Env}{e:Expr}{f:Str}{pos:Pos}{s:Shared}{Q:Value→Shared→Prop}(hb:attributeBase e f env (eval e env)=eval e env)
 (h:wpAny (model prog w) A (eval e env) (λo s₁=>wpAny (model prog w) A (getAttr o f true) Q E s₁) E s):wpAny (model prog w) A (eval (.Attribute e f pos) env) Q E s:=Attribute_any_ h (by rw[arm_eval_Attribute,hb])
end
noncomputable def tFld(K:PySem.W.Frag)(ta:TE)(f:Str):TE:=λσ H Q=>ta σ H λx H1=>∃a C dx fs v,x=.ref a∧H1 a=some (.ins C dx fs)∧Cls K C∧qN K C f∧fs.lookup f=some v∧Q v H1
noncomputable def sFld(K:PySem.W.Frag)(ta tv:TE)(f:Str):TS:=λD σ H=>tv σ H λy H1=>ta σ H1 λx H2=>∃a C dx fs,x=.ref a∧H2 a=some (.ins C dx fs)∧Cls K C∧qN K C f∧fs.length<1000∧D.nx σ (upd H2 a (.ins C dx (putF f y fs)))
noncomputable def InOp(X:Cx)(op:Operator)(rd:V→V→Hp→VK→Prop):Prop:=∀(pins:List (Addr×Obj)) (s:Shared) (σ:St) (H:Hp) (x y:V) (u v:Value) (Q:VK),Inv X pins σ H s→RelV x u→RelV y v→rd x y H Q→wpAny (model X.prog X.w) X.A (inplaceOp op u v) (EP X pins σ Q) X.xe s
noncomputable def qEI(K:PySem.W.Frag)(ta tv:TE)(rd:V→V→Hp→VK→Prop)(f:Str):TS:=λD σ H=>ta σ H λx H1=>∃a C dx fs v,x=.ref a∧H1 a=some (.ins C dx fs)∧Cls K C∧qN K C f∧fs.lookup f=some v∧tv σ H1 λy H2=>rd v y H2 λz H3=>∃dx' fs',H3 a=some (.ins C dx' fs')∧fs'.length<1000∧D.nx σ (upd H3 a (.ins C dx' (putF f z fs')))
section
variable{X:Cx}{o e value:Expr}{f:Str}{pos pos' tpos:Pos}{ta tv:TE}
theorem qJ(he:PE X e ta)(hb:attributeBase e f X.env (eval e X.env)=eval e X.env):PE X (.Attribute e f pos) (tFld X.K ta f):=by(
intro pins s σ H Q I h
refine qEH hb (thn (he pins s σ H _ I h) λu s1 hZ=>?_)
obtain⟨x,H1,I1,rx,a,C,dx,fs,v,ex,ea,c,n,l,q⟩:=hZ
subst ex
obtain rfl:u=Value.ref a:=rx
exact q59 I1 ea c n l λu' s2 I2 ru=>⟨v,H1,I2,ru,q⟩)
theorem jS(ha:PE X o ta)(hv:PE X value tv)(hs:swapsWith value (some (.Attribute o f pos')) pos.line X.env=pure false):PS X (.Assign [.Attribute o f pos'] value pos) (sFld X.K ta tv f):=by(
intro pins s σ H D I h
refine plainObj_wpAny_Assign_Attribute (thn (hv pins s σ H _ I h) λu s1 ⟨y,H1,I1,ry,q⟩=>thn (ha pins s1 σ H1 _ I1 q) λov s2 hZ=>?_) hs
obtain⟨x,H2,I2,rx,a,C,dx,fs,ex,ea,c,n,l,q2⟩:=hZ
subst ex
obtain rfl:ov=Value.ref a:=rx
exact q5A I2 ea c n l ry λs3 I3=>⟨σ,_,I3,q2⟩)
theorem qBR{op:Operator}{rd:V→V→Hp→VK→Prop}(ha:PE X o ta)(hv:PE X value tv)(hop:InOp X op rd):PS X (.AugAssign (.Attribute o f tpos) op value pos) (qEI X.K ta tv rd f):=by(
intro pins s σ H D I h
refine wpAny_AugAssign_AttributeAny (thn (ha pins s σ H _ I h) λov s1 hZ=>?_)
obtain⟨x,H1,I1,rx,a,C,dx,fs,v,ex,ea,c,n,l,q⟩:=hZ
subst ex
obtain rfl:ov=Value.ref a:=rx
refine q59 I1 ea c n l λu s2 I2 ru=>thn (hv pins s2 σ H1 _ I2 q) λw3 s3 ⟨y,H2,I3,ry,q3⟩=>thn (hop pins s3 σ H2 v y u w3 _ I3 ru ry q3) λw4 s4 hZ=>?_
obtain⟨z,H3,I4,rz,dx',fs',ea',l',q4⟩:=hZ
exact q5A I4 ea' c n l' rz λs5 I5=>⟨σ,_,I5,q4⟩)
noncomputable def rAdd:V→V→Hp→VK→Prop:=λx y H Q=>∃i j,x=.int i∧y=.int j∧Q (.int (i+j)) H
theorem qGK:InOp X .Add rAdd:=by(
rintro pins s σ H x y u v Q I rx ry ⟨i,j,rfl,rfl,q⟩
obtain⟨t,rfl⟩:=(show ∃t,u=Value.int i t from rx)
obtain⟨t',rfl⟩:=(show ∃t',v=Value.int j t' from ry)
exact PyProof.Rows.iadd_int ⟨.int (i+j),H,I.tok _,⟨_,rfl⟩,q⟩)
end
section
variable{X:Cx}{pins:List (Addr×Obj)}{σ:St}{H:Hp}{s:Shared}{A:Around}{E:Value→Shared→Prop}{Q:Value→Shared→Prop}{c:Value}{b:Bool}
inductive TyOf(K:PySem.W.Frag)(H:Hp):V→Value→Prop where
|non:TyOf K H .non (.type "NoneType")
|bl (x:Bool):TyOf K H (.bl x) (.type "bool")
|int (i:Int):TyOf K H (.int i) (.type "int")
|str (x:Str):TyOf K H (.str x) (.type "str")
|flt (x:UInt64):TyOf K H (.flt x) (.type "float")
|lst {a:Addr} {xs:List V} (e:H a=some (.lst xs)):TyOf K H (.ref a) (.type "list")
|frz {a:Addr} {o:Obj} {xs:List V} (e:H a=some (.frz o (.lst xs))):TyOf K H (.ref a) (.type "list")
|tup {a:Addr} {xs:List V} (e:H a=some (.tup xs)):TyOf K H (.ref a) (.type "tuple")
|dK {a:Addr} {kvs:List (Key×V)} (e:H a=some (.dK kvs)):TyOf K H (.ref a) (.type "dict")
|dT {a:Addr} {kvs:List (List Key×V)} (e:H a=some (.dT kvs)):TyOf K H (.ref a) (.type "dict")
|ins {a C dx:Addr} {fs:List (Str×V)} (e:H a=some (.ins C dx fs)) (cl:Cls K C) (ha:PySem.W.findIn K (.ref C) "__class__"=some (some (.builtin "object.__class__")))
 (hn:PySem.W.specialIn K (.builtin "object.__class__") "__get__"=some (some (.builtin "getset_descriptor.__get__"))) (htk:PySem.W.takesIn K (.builtin "object.__class__")=some true)
 (hm:PySem.W.mroIn K C (.type "object")=some true):TyOf K H (.ref a) (.ref C)
theorem qBS{x:V}{u t:Value}(I:Inv X pins σ H s)(rx:RelV x u)(ty:TyOf X.K H x t)(e:PySem.W.kitOne X.K t c=some b)(h:∀tk,Q (.bool b) { s with toks:=tk }):
 wpAny (model X.prog X.w) A (call (.builtin "isinstance") [u,c]) Q E s:=by(
cases ty with
|non=>cases(show u=Value.none from rx);exact gB PySem.W.kitx_none I.kIn True.intro e (λz=>nomatch z) h
|bl y=>cases(show u=Value.bool y from rx);exact gB PySem.W.kitx_bool I.kIn True.intro e (λz=>nomatch z) h
|int i=>obtain⟨t,q⟩:=(show ∃t,u=Value.int i t from rx);cases q;exact gB PySem.W.kitx_int I.kIn True.intro e (λz=>nomatch z) h
|str y=>obtain⟨t,q⟩:=(show ∃t,u=Value.str y t from rx);cases q;exact gB PySem.W.kitx_str I.kIn True.intro e (λz=>nomatch z) h
|flt y=>obtain⟨t,q⟩:=(show ∃t,u=Value.float y t from rx);cases q;exact gB PySem.W.kitx_float I.kIn True.intro e (λz=>nomatch z) h
|@lst a xs ea=>cases(show u=Value.ref a from rx);obtain⟨_,_,n,_,h1⟩:=(show jR X.prog X.w H s.heap a (.lst xs)from I.hok a _ ea);exact gB nG I.kIn ⟨_,h1,rfl⟩ e (λz=>nomatch z) h
|@frz a ob xs ea=>cases(show u=Value.ref a from rx);obtain⟨_,_,_,n,_,h1⟩:=(show jR X.prog X.w H s.heap a (.frz ob (.lst xs))from I.hok a _ ea);exact gB nG I.kIn ⟨_,h1,rfl⟩ e (λz=>nomatch z) h
|@tup a xs ea=>cases(show u=Value.ref a from rx);obtain⟨_,_,_,p⟩:=(show jR X.prog X.w H s.heap a (.tup xs)from I.hok a _ ea);obtain⟨o,h1,h2,_⟩:=p;exact gB PySem.W.kitx_tuple I.kIn ⟨o,h1,h2⟩ e (λz=>nomatch z) h
|@dK a kvs ea=>cases(show u=Value.ref a from rx);obtain⟨_,_,vs,_,p⟩:=(show jR X.prog X.w H s.heap a (.dK kvs)from I.hok a _ ea);obtain⟨o,es,ep,h1,h2,_⟩:=p;exact gB nH I.kIn ⟨o,h1,h2.1⟩ e (λz=>nomatch z) h
|@dT a kvs ea=>cases(show u=Value.ref a from rx);obtain⟨_,_,xs,_,o,es,ep,h1,h2,_⟩:=(show jR X.prog X.w H s.heap a (.dT kvs)from I.hok a _ ea);exact gB nH I.kIn ⟨o,h1,h2.1⟩ e (λz=>nomatch z) h
|@ins a C dx fs ea cl ha hn htk hm=>cases(show u=Value.ref a from rx);obtain⟨mA,O,_⟩:=q4T I.hok ea;obtain⟨od,J,_⟩:=O.look;exact gB (PySem.W.kitx_own (cl.get _) cl.hd ha hn htk hm) I.kIn J e (λz=>nomatch z) h)
end
structure Room(k:Nat)(A:Around):Prop where
hd:A.handled=none
dp:A.depth+3*k+5<recursionLimit
un:A.units+16*k+200<cLine
theorem Room.mono{j k:Nat}{A:Around}(r:Room k A)(h:j≤k):Room j A:=⟨r.hd,by have:=r.dp;omega,by have:=r.un;omega⟩
theorem Room.deeper{k:Nat}{A:Around}(r:Room (k+1) A)(env:Env):Room k (A.deeper env):=⟨r.hd,by have:=r.dp;show A.depth+1+3*k+5< _;omega,by have:=r.un;show A.units+3+16*k+200< _;omega⟩
theorem Room.in1{k:Nat}{A:Around}(r:Room (k+1) A):Room k A.in1:=⟨r.hd,by have:=r.dp;show A.depth+3*k+5< _;omega,by have:=r.un;show A.units+1+16*k+200< _;omega⟩
theorem qA2{A:Around}{C:Addr}{us:List Value}{kw:List (Str×Value)}:(A.under (.builtin "type.__call__" ⟨.ref C::us,kw⟩)).depth=A.depth+1:=by first|rfl|simp[Around.under,Code.weight,Code.isCreation,Code.isGuard,Code.isCaller,Code.frames,Code.isFrame,guardIds]
theorem qA3{A:Around}{C:Addr}{us:List Value}{kw:List (Str×Value)}:(A.under (.builtin "type.__call__" ⟨.ref C::us,kw⟩)).units=A.units+1:=by first|rfl|simp[Around.under,Code.cUnits,Code.frames,Code.isFrame]
theorem Room.make{k:Nat}{A:Around}(r:Room (k+1) A)(C:Addr)(us:List Value)(kw:List (Str×Value)):Room k (A.under (.builtin "type.__call__" ⟨.ref C::us,kw⟩)):=⟨r.hd,by have:=r.dp;rw[qA2];omega,by have:=r.un;rw[qA3];omega⟩
theorem Room.depth{k:Nat}{A:Around}(r:Room k A):A.depth<recursionLimit:=by have:=r.dp;omega
theorem Room.units{k:Nat}{A:Around}(r:Room k A):A.units+64<cLine:=by have:=r.un;omega
noncomputable def tNil:TA:=λ_ H Q=>Q [] H
noncomputable def q49(ta:TE)(tr:TA):TA:=λσ H Q=>ta σ H λx H1=>tr σ H1 λxs H2=>Q (x::xs) H2
section
variable{X:Cx}{e:Expr}{es:List Expr}{te:TE}{t:TA}{pos:Pos}
theorem qC:PA X [] tNil:=λ_ _ _ _ H Q I h=>wJ ⟨[],H,I,.nil,h⟩
theorem qA(ha:PE X e te)(hr:PA X es t)(hs:starEach (e::es) X.env=(false,eval e X.env)::starEach es X.env:=by rfl):PA X (e::es) (q49 te t):=by(
intro pos pins s σ H Q I h
rw[hs]
show wpAny _ _ (spliced ((false,eval e X.env)::backTo pos (starEach es X.env))) _ _ s
refine d0 (thn (ha pins s σ H _ I h) λu s1 hZ=>?_)
obtain⟨x,H1,I1,r1,q1⟩:=hZ
exact thn (hr pos pins s1 σ H1 _ I1 q1) λus s2 ⟨xs,H2,I2,r2,q2⟩=>⟨x::xs,H2,I2,.cons r1 r2,q2⟩)
end
noncomputable abbrev Sp:=List V→Hp→VK→XK→Prop
noncomputable abbrev CXT:=List Env→Hp→Shared→XK→Value→Shared→Prop
structure Env0(P:Program)(w:World)(K:PySem.W.Frag)(mg:Str→Option Value)(base:Heap)(A:Around)(outer:List Env)(s:Shared)(H:Hp):Prop where
frames:A.frames=some outer
mod:Mod K mg base
bs:∀b o,base.get? b=some o→s.heap.get? b=some o∧H b=none
bsz:base.objs.size≤s.heap.objs.size
funs:s.heap.FunFrames base outer
frf:∀b∈frs outer,H b=none
hok:HOk P w H s.heap
bare:AllBare s.gens
noncomputable def CE(outer:List Env)(P:Program)(w:World)(H:Hp)(s:Shared)(Q:VK)(u:Value)(s':Shared):Prop:=∃v H',s'.os=s.os∧AllBare s'.gens∧Un (frs outer) [] H H' s.heap s'.heap∧HOk P w H' s'.heap∧RelV v u∧Q v H'
noncomputable def CR(CX:CXT)(outer:List Env)(P:Program)(w:World)(H:Hp)(s:Shared)(Q:VK)(E:XK)(r:Result)(s':Shared):Prop:=match r with
| .ok (.ret u)=>CE outer P w H s Q u s'
| .ok _=>False
| .error e=>CX outer H s E e s'
structure FnOk(P:Program)(w:World)(K:PySem.W.Frag)(mg:Str→Option Value)(base:Heap)(CX:CXT)(k:Nat)(f:Addr)(fd:FuncData)(ps:List Str)(sp:Sp):Prop where
len:∀vs H Q E,sp vs H Q E→vs.length=ps.length
run:∀(A:Around) (outer:List Env) (s:Shared) (H:Hp) (args:Args) (us:List Value) (vs:List V) (Q:VK) (E:XK),Room k A→Env0 P w K mg base A outer s H→BindsTo s fd args (ps.zip us)→Vals vs us→sp vs H Q E→codeAny (model P w) A (.call (.ref f) args) (CR CX outer P w H s Q E) s
theorem FnOk.mono{P:Program}{w:World}{K:PySem.W.Frag}{mg:Str→Option Value}{base:Heap}{CX:CXT}{j k:Nat}{f:Addr}{fd:FuncData}{ps:List Str}{sp:Sp}(F:FnOk P w K mg base CX j f fd ps sp)(h:j≤k:=by decide):
 FnOk P w K mg base CX k f fd ps sp:=⟨F.len,λA outer s H args us vs Q E hr=>F.run A outer s H args us vs Q E (hr.mono h)⟩
theorem Env0.make{P:Program}{w:World}{K:PySem.W.Frag}{mg:Str→Option Value}{base:Heap}{A:Around}{outer:List Env}{s:Shared}{H:Hp}(e:Env0 P w K mg base A outer s H)(C:Addr)(us:List Value)(kw:List (Str×Value)):
 Env0 P w K mg base (A.under (.builtin "type.__call__" ⟨.ref C::us,kw⟩)) outer s H:=⟨by first|exact e.frames|(simpa[Around.under,Code.envs,Code.isFrame,pushEnvs]using e.frames),e.mod,e.bs,e.bsz,e.funs,e.frf,e.hok,e.bare⟩
section
variable{X:Cx}{pins:List (Addr×Obj)}{σ:St}{H:Hp}{s s':Shared}
theorem Inv.env0(I:Inv X pins σ H s):Env0 X.prog X.w X.K X.mg X.base X.A X.stack s H:=⟨I.ok.frames,I.ok.mod,I.bs,mE I.ok.bsz I.sz,I.stack,I.stkFree,I.hok,I.bare⟩
theorem Inv.after{Q:VK}{u:Value}(I:Inv X pins σ H s)(h:CE X.stack X.prog X.w H s Q u s'):EP X pins σ Q u s':=by(
obtain⟨v,H',os,bare,un,hok,r,q⟩:=h
obtain⟨hh,g,d,t,os'⟩:=s'
obtain rfl:os'=s.os:=os
exact⟨v,H',I.call (h':=hh) (g':=g) (d':=d) (t':=t) (ch:=[]) un hok bare (λb z=>absurd z (by simp)),r,q⟩)
end
noncomputable def qIS(sp:Sp)(dvs:List V)(E:XK)(t:TA):TE:=λσ H Q=>t σ H λvs H1=>sp (vs++dvs) H1 Q E
noncomputable def qFX(C:Addr)(m:Str)(sp:Sp)(dvs:List V)(E:XK)(ta:TE)(t:TA):TE:=λσ H Q=>ta σ H λx H1=>∃a dx fs,x=.ref a∧H1 a=some (.ins C dx fs)∧fs.lookup m=none∧t σ H1 λvs H2=>sp (x::(vs++dvs)) H2 Q E
noncomputable def qIT(C:Addr)(sp:Sp)(dvs:List V)(E:XK)(t:TA):TE:=λσ H Q=>t σ H λvs H1=>∀x dx,H1 x=none→H1 dx=none→dx≠x→sp (.ref x::(vs++dvs)) (upd (upd H1 dx (.own x)) x (.ins C dx [])) (λv H2=>v=.non∧Q (.ref x) H2) E
noncomputable def yM(K:PySem.W.Frag)(fd:FuncData)(ps:List Str)(ds:List Value):Prop:=∀(s:Shared) (us:List Value),K.In s.heap→(us++ds).length=ps.length→BindsTo s fd ⟨us,[]⟩ (ps.zip (us++ds))
theorem yM.all{K:PySem.W.Frag}{fd:FuncData}{ps:List Str}(h:∀us:List Value,us.length=ps.length→bindArgs fd ⟨us,[]⟩=pure (ps.zip us)):yM K fd ps []:=λs us _ hl=>by rw[r6]at hl ⊢;exact .of_eq (h us hl)
noncomputable def q13(CX:CXT)(X:Cx)(E:XK):Prop:=∀(pins:List (Addr×Obj)) (σ:St) (H:Hp) (s:Shared) (e:Value) (s':Shared),Inv X pins σ H s→CX X.stack H s E e s'→X.xe e s'
section
variable{X:Cx}{CX:CXT}{k:Nat}{f C:Addr}{fd:FuncData}{ps:List Str}{sp:Sp}{dvs:List V}{ds:List Value}{E:XK}{x m:Str}{p pos apos:Pos}{e o:Expr}{es:List Expr}{ta:TE}{t:TA}
theorem qA4{pins:List (Addr×Obj)}{σ:St}{H:Hp}{s:Shared}{Q:VK}{us:List Value}{vs:List V}(F:FnOk X.prog X.w X.K X.mg X.base CX k f fd ps sp)(hr:Room k X.A)(hb:yM X.K fd ps ds)(hd:Vals dvs ds)(hx:q13 CX X E)
 (I:Inv X pins σ H s) (r:Vals vs us) (h:sp (vs++dvs) H Q E):wpAny (model X.prog X.w) X.A (call (.ref f) us) (EP X pins σ Q) X.xe s:=by(
have r2:Vals (vs++dvs) (us++ds):=r.append hd
have hl:(us++ds).length=ps.length:=by rw[←r2.length];exact F.len _ _ _ _ h
refine wB (dP (F.run X.A X.stack s H ⟨us,[]⟩ (us++ds) (vs++dvs) Q E hr I.env0 (hb s us I.kIn hl) r2 h) λr s' hq=>?_)
cases r with
|error e=>exact hx pins σ H s e s' I hq
|ok fl=>
 cases fl with
 |ret u=>exact I.after hq
 |next=>exact False.elim hq
 |brk=>exact False.elim hq
 |cont=>exact False.elim hq)
theorem qT(F:FnOk X.prog X.w X.K X.mg X.base CX k f fd ps sp)(hr:Room k X.A)(hg:Gl X x)(hm:X.mg x=some (.ref f))(hk:PySem.W.keepIn X.K (.ref f)=true)(hb:yM X.K fd ps ds)(hd:Vals dvs ds)(hx:q13 CX X E)
 (ha:PA X (e::es) t) (hdb:(x==("__debug__":Str))=false:=by decide) (he:starEach (e::es) X.env=(false,eval e X.env)::starEach es X.env:=by rfl) (hpl:(backTo pos (starEach es X.env)).any (·.1)=false:=by rfl):
 PE X (.Call (.Name x p) (e::es) [] pos) (qIS sp dvs E t):=by(
intro pins s σ H Q I h
refine gX (q1Y I hg hm ?_ hdb)
refine dH (h₀:=X.base) I.ok.mod.kin hk (thn (ha pos pins s σ H _ I h) λus s1 ⟨vs,H1,I1,r,q⟩=>⟨I1.kIn,?_⟩) he hpl
exact qA4 F hr hb hd hx I1 r q)
theorem jG{pl:Sem Bool}(he:PE X o ta)(c:Cls X.K C)(hm:Meth X.K C m f)(F:FnOk X.prog X.w X.K X.mg X.base CX k f fd ps sp)(hr:Room k X.A)(hb:yM X.K fd ps ds)(hd:Vals dvs ds)(hx:q13 CX X E)(ha:PA X (e::es) t)
 (hst:starEach (e::es) X.env=(false,eval e X.env)::starEach es X.env:=by rfl) (hpl:(backTo pos (starEach es X.env)).any (·.1)=false:=by rfl)
 (ht:eval (.Call (.Attribute o m apos) (e::es) [] pos) X.env=(do
  let ov←eval o X.env
  standAt apos.atName
  let(f,first)←holding [ov] (getMethod ov m pl)
  callWith pos f first (backTo pos (starEach (e::es) X.env)) (backToKw pos (keywordEach [] X.env))):=by rfl):
 PE X (.Call (.Attribute o m apos) (e::es) [] pos) (qFX C m sp dvs E ta t):=by(
intro pins s σ H Q I h
refine wN (pl:=pl) (thn (he pins s σ H _ I h) λu s1 hZ=>?_) ht
obtain⟨x,H1,I1,rx,a,dx,fs,ex,ea,l,q⟩:=hZ
subst ex
obtain rfl:u=Value.ref a:=rx
refine q2Q I1 ea c hm l ?_
refine dH (first:=[.ref a]) (h₀:=X.base) I.ok.mod.kin hm.kp (thn (ha pos pins s1 σ H1 _ I1 q) λus s2 ⟨vs,H2,I2,r,q2⟩=>⟨I2.kIn,?_⟩) hst hpl
exact qA4 (us:=.ref a::us) (vs:=.ref a::vs) F hr hb hd hx I2 (.cons rfl r) q2)
theorem jK{pl:Sem Bool}(he:PE X o ta)(c:Cls X.K C)(hm:Meth X.K C m f)(F:FnOk X.prog X.w X.K X.mg X.base CX k f fd ps sp)(hr:Room k X.A)(hb:yM X.K fd ps ds)(hd:Vals dvs ds)(hx:q13 CX X E)
 (ht:eval (.Call (.Attribute o m apos) [] [] pos) X.env=(do
  let ov←eval o X.env
  standAt apos.atName
  let(f,first)←holding [ov] (getMethod ov m pl)
  callWith pos f first (backTo pos (starEach [] X.env)) (backToKw pos (keywordEach [] X.env))):=by rfl):
 PE X (.Call (.Attribute o m apos) [] [] pos) (qFX C m sp dvs E ta tNil):=by(
intro pins s σ H Q I h
refine wN (pl:=pl) (thn (he pins s σ H _ I h) λu s1 hZ=>?_) ht
obtain⟨x,H1,I1,rx,a,dx,fs,ex,ea,l,q⟩:=hZ
subst ex
obtain rfl:u=Value.ref a:=rx
refine q2Q I1 ea c hm l ?_
exact PySem.W.callWith_K0 (first:=[.ref a]) I1.kIn hm.kp (qA4 (us:=[.ref a]) (vs:=[.ref a]) F hr hb hd hx I1 (.cons rfl .nil) q))
structure Mk(K:PySem.W.Frag)(C f:Addr):Prop where
makes:PySem.W.makesIn K C=true
init:PySem.W.findIn K (.ref C) "__init__"=some (some (.ref f))
fn:PySem.W.isFn K (.ref f)=true
kp:PySem.W.keepIn K (.ref C)=true
theorem qCU{pins:List (Addr×Obj)}{σ:St}{H:Hp}{s:Shared}{Q:VK}{us:List Value}{vs:List V}(M:Mk X.K C f)(F:FnOk X.prog X.w X.K X.mg X.base CX k f fd ps sp)(hr:Room (k+1) X.A)(hb:yM X.K fd ps ds)(hd:Vals dvs ds)
 (hx:q13 CX X E) (I:Inv X pins σ H s) (r:Vals vs us)
 (h:∀x dx,H x=none→H dx=none→dx≠x→sp (.ref x::(vs++dvs)) (upd (upd H dx (.own x)) x (.ins C dx [])) (λv H2=>v=.non∧Q (.ref x) H2) E):
 wpAny (model X.prog X.w) X.A (call (.ref C) us) (EP X pins σ Q) X.xe s:=by(
have hq:=h (s.heap.objs.size+1) s.heap.objs.size (I.hok.fresh (dF _)) (I.hok.fresh (kB _)) (kZ (rM _))
have I2:=Inv.made (C:=C) I
have r2:Vals (V.ref (s.heap.objs.size+1)::(vs++dvs)) (Value.ref (s.heap.objs.size+1)::(us++ds)):=.cons rfl (r.append hd)
have hl:(Value.ref (s.heap.objs.size+1)::us++ds).length=ps.length:=by have e:=r2.length;rw[F.len _ _ _ _ hq]at e;exact e.symm
refine wB (q91 (f:=f) I.kIn M.makes M.init (dU.mp M.fn) (dP (F.run _ X.stack _ _ ⟨Value.ref (s.heap.objs.size+1)::us,[]⟩ (Value.ref (s.heap.objs.size+1)::(us++ds)) _ _ E (hr.make C us [])
 (I2.env0.make C us []) (hb _ (Value.ref (s.heap.objs.size+1)::us) I2.kIn hl) r2 hq) λr s' hq'=>?_))
cases r with
|error e=>exact hx pins σ _ _ e s' I2 hq'
|ok fl=>
 cases fl with
 |ret u=>obtain⟨v,H',I3,rv,ev,q3⟩:=I2.after hq';subst ev;exact⟨rv,⟨V.ref (s.heap.objs.size+1),H',I3,rfl,q3⟩⟩
 |next=>exact False.elim hq'
 |brk=>exact False.elim hq'
 |cont=>exact False.elim hq')
theorem q4U(M:Mk X.K C f)(F:FnOk X.prog X.w X.K X.mg X.base CX k f fd ps sp)(hr:Room (k+1) X.A)(hg:Gl X x)(hm:X.mg x=some (.ref C))(hb:yM X.K fd ps ds)(hd:Vals dvs ds)(hx:q13 CX X E)
 (ha:PA X (e::es) t) (hdb:(x==("__debug__":Str))=false:=by decide) (he:starEach (e::es) X.env=(false,eval e X.env)::starEach es X.env:=by rfl) (hpl:(backTo pos (starEach es X.env)).any (·.1)=false:=by rfl):
 PE X (.Call (.Name x p) (e::es) [] pos) (qIT C sp dvs E t):=by(
intro pins s σ H Q I h
refine gX (q1Y I hg hm ?_ hdb)
refine dH (h₀:=X.base) I.ok.mod.kin M.kp (thn (ha pos pins s σ H _ I h) λus s1 ⟨vs,H1,I1,r,q⟩=>⟨I1.kIn,?_⟩) he hpl
exact qCU M F hr hb hd hx I1 r q)
end
noncomputable def PK(X:Cx)(kws:List Keyword)(t:TA):Prop:=∀(pos:Pos) (pins:List (Addr×Obj)) (s:Shared) (σ:St) (H:Hp) (Q:List V→Hp→Prop),Inv X pins σ H s→t σ H Q→wpAny (model X.prog X.w) X.A (evalAll ((backToKw pos (keywordEach kws X.env)).map (·.2))) (AP X pins σ Q) X.xe s
section
variable{X:Cx}{CX:CXT}{k:Nat}{f C:Addr}{fd:FuncData}{ps ks:List Str}{sp:Sp}{E:XK}{x m:Str}{p pos apos kpos:Pos}{e o:Expr}{es:List Expr}{kws:List Keyword}{te ta:TE}{t tk:TA}{nm:Option Str}
theorem qGL:PK X [] tNil:=λ_ _ _ _ H Q I h=>wpAny_evalAll_nil ⟨[],H,I,.nil,h⟩
theorem qEJ(ha:PE X e te)(hr:PK X kws t):PK X (⟨nm,e,kpos⟩::kws) (q49 te t):=by(
intro pos pins s σ H Q I h
show wpAny _ _ (evalAll ((do let v←eval e X.env;standAt pos;pure v)::(backToKw pos (keywordEach kws X.env)).map (·.2))) _ _ s
refine wpAny_evalAll_cons (kA (thn (ha pins s σ H _ I h) λu s1 ⟨x,H1,I1,r1,q1⟩=>kA (cU (kU ?_))))
exact thn (hr pos pins s1 σ H1 _ I1 q1) λus s2 ⟨xs,H2,I2,r2,q2⟩=>⟨x::xs,H2,I2,.cons r1 r2,q2⟩)
variable{g:List Value→List Value→List Value}{gV:List V→List V→List V}
end
structure FnScope(N P:List Str)(sc:Scope):Prop where
kind:sc.kind=.function
co:sc.isCoroutine=false
gen:sc.isGenerator=false
nd:N.Nodup
pre:N.take P.length=P
par:∀x∈P,sc.names.lookup x=some .local∨sc.names.lookup x=some .cell
nofree:∀y∈sc.names,y.2≠ .free
theorem q74{kindOf:Str→Option NameKind}{x:Str}:∀{binds:List (Str×Value)} {m:Str→Option Value},(∀v,(x,v)∉binds)→bindL kindOf binds m x=m x
| [],_,_=>rfl
|(n,v)::r,m,h=>by
 unfold bindL;rw[q74 λw hw=>h w (kD _ hw)];split
 ·have:x≠n:=by rintro rfl;exact h v kO
  simp[this]
 rfl
theorem q75{kindOf:Str→Option NameKind}{x:Str}:∀{binds:List (Str×Value)} {m:Str→Option Value},(∀v,(x,v)∉binds)→bindC kindOf binds m x=m x
| [],_,_=>rfl
|(n,v)::r,m,h=>by
 unfold bindC;rw[q75 λw hw=>h w (kD _ hw)];split
 ·rfl
 have:x≠n:=by rintro rfl;exact h v kO
 simp[this]
theorem q76{kindOf:Str→Option NameKind}{x:Str}{v:Value}:∀{P:List Str} {vs:List Value} {i:Nat} {m:Str→Option Value},P.Nodup→P[i]?=some x→vs[i]?=some v→kindOf x=some .local→bindL kindOf (P.zip vs) m x=some v
| [],_,_,_,_,h,_,_=>by simp at h
|_::_,[],_,_,_,_,h,_=>by simp at h
|p::P,w::vs,0,m,nd,h1,h2,hk=>by simp at h1 h2;subst h1;subst h2;show bindL kindOf ((p,w)::P.zip vs) m p=_;unfold bindL;rw[q74 λv hv=>(gC.mp nd).1 (pN hv).1,kG hk];simp
|p::P,w::vs,i+1,m,nd,h1,h2,hk=>by show bindL kindOf ((p,w)::P.zip vs) m x=_;unfold bindL;exact q76 (i:=i) (gC.mp nd).2 (by simpa using h1) (by simpa using h2) hk
theorem q77{kindOf:Str→Option NameKind}{x:Str}{v:Value}:∀{P:List Str} {vs:List Value} {i:Nat} {m:Str→Option Value},P.Nodup→P[i]?=some x→vs[i]?=some v→kindOf x≠some .local→bindC kindOf (P.zip vs) m x=some v
| [],_,_,_,_,h,_,_=>by simp at h
|_::_,[],_,_,_,_,h,_=>by simp at h
|p::P,w::vs,0,m,nd,h1,h2,hk=>by simp at h1 h2;subst h1;subst h2;show bindC kindOf ((p,w)::P.zip vs) m p=_;unfold bindC;rw[q75 λv hv=>(gC.mp nd).1 (pN hv).1,kC hk];simp
|p::P,w::vs,i+1,m,nd,h1,h2,hk=>by show bindC kindOf ((p,w)::P.zip vs) m x=_;unfold bindC;exact q77 (i:=i) (gC.mp nd).2 (by simpa using h1) (by simpa using h2) hk
noncomputable def q2D(N:List Str)(vs:List V):St:=vs.map some++List.replicate (N.length-vs.length) none
noncomputable def cxOf(CX:CXT)(P:Program)(w:World)(K:PySem.W.Frag)(mg:Str→Option Value)(base:Heap)(N:List Str)(qual:Str)(scope:Scope)(f:Addr)(cd:Value)(A:Around)(outer:List Env)(s:Shared)(H:Hp)(E:XK):Cx where
prog:=P
w:=w
K:=K
mg:=mg
base:=base
A:=A.deeper (envOfC qual scope s.heap.objs.size f cd)
N:=N
s₀:=s
H₀:=H
env:=envOfC qual scope s.heap.objs.size f cd
outer:=outer
stack:=envOfC qual scope s.heap.objs.size f cd::outer
ex:=[]
calm:=true
fn:=λ_=>true
pn:=[]
xe:=λe s'=>wpAny (model P w) (A.deeper (envOfC qual scope s.heap.objs.size f cd)) (leaving (envOfC qual scope s.heap.objs.size f cd) e) (λ_ s''=>CX outer H s E e s'') (λe' s''=>CX outer H s E e' s'') s'
theorem q92{sc:Scope}{n:Nat}{x:Str}(h:sc.names.lookup x=some .cell):∃c,(cellsFrom n sc.names []).lookup x=some c:=by have q:=pD sc.names n [] (.inl h);exact rV.mp q
theorem qBT{CX:CXT}{P:Program}{w:World}{K:PySem.W.Frag}{mg:Str→Option Value}{base:Heap}{N ps:List Str}{qual:Str}{scope:Scope}{f:Addr}{cd:Value}{A:Around}{outer:List Env}{s s1:Shared}{H:Hp}{E:XK}{us:List Value}{vs:List V}
 (S:FnScope N ps scope) (hd:A.handled=none) (e0:Env0 P w K mg base A outer s H) (hl:vs.length=ps.length) (r:Vals vs us)
 (x:InCallC s s.heap.objs.size (bindL (envOfC qual scope s.heap.objs.size f cd).kindOf (ps.zip us) λ_=>none) (cellsFrom (s.heap.objs.size+1) scope.names []) (bindC (envOfC qual scope s.heap.objs.size f cd).kindOf (ps.zip us) λ_=>none) s1):
 Inv (cxOf CX P w K mg base N qual scope f cd A outer s H E) [] (q2D N vs) H s1:=by(
have hpl:ps.length≤N.length:=by have:=dB List.length S.pre;rw[mR]at this;omega
obtain⟨h1,tk,rfl,hk⟩:=x.done
have noA:∀b:Addr,b∉(cxOf CX P w K mg base N qual scope f cd A outer s H E).ex:=λb z=>absurd (show b∈([]:List Addr)from z) (by simp)
refine⟨⟨e0.mod,S.kind,rfl,rfl,kB _,λy z c h1 h2=>?_,λy hy=>?_,λy c _ h=>?_,λ_=>hd,p6 e0.frames,.inr ⟨rfl,rfl⟩,λb z=>absurd z (noA b),e0.bs,e0.bsz,λb _ _=>noA b,λb z=>absurd z (noA b),e0.funs,e0.frf⟩,rfl,e0.bare,Un.kept hk,⟨_,x.toInCall.ns,λi y v h1 h2 h3=>?_⟩,λy c h=>⟨_,x.cell y c h⟩,e0.hok.fresh (kB _),λy c h=>?_,λp hp=>absurd (show p∈([]:List (Addr×Obj))from hp) (by simp),e0.hok.kept hk,?_⟩
·exact name_of_addr x.apart (m8 h1) (m8 h2)
·have hy:scope.names.lookup y=some .cell∨scope.names.lookup y=some .free:=hy;rcases hy with hy|hy
 ·exact q92 hy
 exact absurd rfl (S.nofree _ (m8 hy))
·exact cC (x.above y c (m8 h))
·have hi:i<vs.length:=by
  unfold q2D at h2;by_cases hi:i<vs.length
  ·exact hi
  rw[mQ (by simpa using hi)]at h2;rw[g5]at h2;split at h2<;>cases h2
 have ha:vs[i]?=some v:=by
  unfold q2D at h2;rw[gM (by simpa using hi),kW]at h2;cases e:vs[i]? with
  |none=>rw[e]at h2;cases h2
  |some a=>rw[e]at h2;cases h2;rfl
 obtain⟨u,hu,rv⟩:=r.get ha;have hp:ps[i]?=some y:=by rw[←S.pre,List.getElem?_take_of_lt (by omega)];exact h1
 have ndP:ps.Nodup:=by rw[←S.pre];exact S.nd.sublist (List.take_sublist _ _)
 refine⟨u,rv,?_⟩;rcases S.par y (mJ hp)with k|k
 ·exact .inl ⟨k,q76 ndP hp hu k⟩
 obtain⟨c,e⟩:=q92 (n:=s.heap.objs.size+1) k;refine .inr ⟨.inl k,c,e,?_⟩;have q:=x.cell y c e;rw[q77 ndP hp hu (by show scope.names.lookup y≠_;rw[k];decide)]at q;exact q
·exact e0.hok.fresh (cC (x.above y c (m8 h)))
unfold q2D
show _=N.length
rw[mU,hV,m7]
omega)
theorem qCV{CX:CXT}{P:Program}{w:World}{K:PySem.W.Frag}{mg:Str→Option Value}{base:Heap}{k:Nat}{f:Addr}{name qual:Str}{params:Arguments}{body:List Stmt}{scope:Scope}{dV kV doc pm cdv ct oc:Value}{an od:Option Addr}
 {osl:Array (Option Value)} {N ps:List Str} {sp:Sp} (lk:K.lookup f=some ⟨oc,od,.func (PySem.W.fnOf name qual params body scope dV kV doc pm an cdv ct),osl⟩) (hcd:PySem.W.codeIn K cdv qual=true) (S:FnScope N ps scope)
 (len:∀vs H Q E,sp vs H Q E→vs.length=ps.length)
 (hbody:∀(A:Around) (outer:List Env) (s:Shared) (H:Hp) (vs:List V) (Q:VK) (E:XK),Room k (A.deeper (envOfC qual scope s.heap.objs.size f cdv))→sp vs H Q E→∃t,PSs (cxOf CX P w K mg base N qual scope f cdv A outer s H E) body t∧t { nx:=λ_ H'=>Q .non H',rt:=Q } (q2D N vs) H):
 FnOk P w K mg base CX (k+1) f (PySem.W.fnOf name qual params body scope dV kV doc pm an cdv ct) ps sp:=by(
refine⟨len,λA outer s H args us vs Q E hr e0 hb r hsp=>?_⟩
have hl:=len _ _ _ _ hsp
have KX:K.In s.heap:=e0.mod.kin.keeps λb o e=>(e0.bs b o e).1
have lim:s.heap.NoLimit:=e0.mod.nolimit.keeps λb o e=>(e0.bs b o e).1
have hkind:∀y∈ps.zip us,scope.names.lookup y.1=some .local∨(scope.names.lookup y.1=some .cell∧((cellsFrom (s.heap.objs.size+1) scope.names []).lookup y.1).isSome=true):=λ⟨n,v⟩ hy=>by
 rcases S.par n (pN hy).1 with q|q
 ·exact .inl q
 exact .inr ⟨q,pD _ _ _ (.inl q)⟩
refine codeAny_call_function hr.depth (KX _ _ lk) rfl S.co S.gen rfl (PySem.W.codeRec_of KX hcd) (hb _ _ _ _ ?_)
refine wpAny_newFunctionEnv_cells S.kind hkind λenv he s1 x=>?_
subst he
refine⟨lim.keeps x.toInCall.keep,codeAny_func ?_⟩
obtain⟨t,ht,hq⟩:=hbody A outer s H vs Q E (hr.deeper _) hsp
have I:Inv (cxOf CX P w K mg base N qual scope f cdv A outer s H E) [] (q2D N vs) H s1:=qBT S hr.hd e0 hl r x
refine gU (ht [] s1 (q2D N vs) H _ I hq) (λfl s' hs=>?_) λe s' hs=>hs
have fin:∀{σ':St} {H':Hp} {v:V} {u:Value},Inv (cxOf CX P w K mg base N qual scope f cdv A outer s H E) [] σ' H' s'→RelV v u→Q v H'→CE outer P w H s Q u s':=fun {σ' H' v u} J rv q=>⟨v,H',J.os,J.bare,J.base,J.hok,rv,q⟩
cases fl with
|ret u=>obtain⟨v,σ',H',J,rv,q⟩:=hs;exact fin J rv q
|next=>obtain⟨σ',H',J,q⟩:=hs;exact fin (v:=V.non) (u:=Value.none) J rfl q
|brk=>obtain⟨_,_,_,q⟩:=hs;exact False.elim q
|cont=>obtain⟨_,_,_,q⟩:=hs;exact False.elim q)
section
variable{X:Cx}{x:Str}{p pos:Pos}{e:Expr}{es:List Expr}{t:TA}{id T:String}{r:List V→Hp→VK→Prop}
noncomputable def tCB(r:List V→Hp→VK→Prop)(t:TA):TE:=λσ H Q=>t σ H λvs H1=>r vs H1 Q
theorem qU(hc:vF X (.builtin id) r)(hg:Gl X x)(hm:X.mg x=none)(hv:bootBuiltins x=some (.builtin id))(ha:PA X (e::es) t)(hn:x≠"__name__":=by decide)(hdb:(x==("__debug__":Str))=false:=by decide)
 (he:starEach (e::es) X.env=(false,eval e X.env)::starEach es X.env:=by rfl) (hpl:(backTo pos (starEach es X.env)).any (·.1)=false:=by rfl):PE X (.Call (.Name x p) (e::es) [] pos) (tCB r t):=by intro pins s σ H Q I h;refine gX (q56 I hg hm hv ?_ hn hdb);exact PyProof.Rows.callWith_builtin1 (thn (ha pos pins s σ H _ I h) λus s1 ⟨vs,H1,I1,r1,q1⟩=>hc pins s1 σ H1 vs us Q I1 r1 q1) he hpl
theorem zC(hc:vF X (.type T) r)(hg:Gl X x)(hm:X.mg x=none)(hv:bootBuiltins x=some (.type T))(ha:PA X (e::es) t)(hn:x≠"__name__":=by decide)(hdb:(x==("__debug__":Str))=false:=by decide)
 (he:starEach (e::es) X.env=(false,eval e X.env)::starEach es X.env:=by rfl) (hpl:(backTo pos (starEach es X.env)).any (·.1)=false:=by rfl):PE X (.Call (.Name x p) (e::es) [] pos) (tCB r t):=by intro pins s σ H Q I h;refine gX (q56 I hg hm hv ?_ hn hdb);exact cD (thn (ha pos pins s σ H _ I h) λus s1 ⟨vs,H1,I1,r1,q1⟩=>hc pins s1 σ H1 vs us Q I1 r1 q1) he hpl
end
end L2
namespace HT
open PySem PyProof.Rows
section
variable{prog:Program}{w:World}{A:Around}{E:Value→Shared→Prop}{s:Shared}
noncomputable def sIx(n d:Nat):Option Int→Nat
|none=>d
|some v=>if v<0 then(v+(n:Int)).toNat else min v.toNat n
end
end HT
namespace L2
open PySem PySem.Spec PyProof.Rows
noncomputable abbrev TO:=St→Hp→(Option Int→Hp→Prop)→Prop
noncomputable def PO(X:Cx)(e:Option Expr)(t:TO):Prop:=∀(pins:List (Addr×Obj)) (s:Shared) (σ:St) (H:Hp) (Q:Option Int→Hp→Prop),Inv X pins σ H s→t σ H Q→wpAny (model X.prog X.w) X.A (evalPart e X.env) (λu s'=>∃o H',Inv X pins σ H' s'∧IsPart u o∧Q o H') X.xe s
noncomputable def qEK:TO:=λ_ H Q=>Q none H
noncomputable def qIU(t:TE):TO:=λσ H Q=>t σ H λx H1=>∃i,x=.int i∧Q (some i) H1
section
variable{X:Cx}{e:Expr}{te:TE}{lo hi:Option Expr}{tl th:TO}{pos p2:Pos}
theorem q31:PO X none qEK:=by intro pins s σ H Q I h;rw[evalPart_none];exact kU ⟨none,H,I,.none,h⟩
theorem q0G(h:PE X e te):PO X (some e) (qIU te):=by(
intro pins s σ H Q I hw
rw[evalPart_some]
refine thn (h pins s σ H _ I hw) λu s1 hZ=>?_
obtain⟨x,H1,I1,r1,q1⟩:=hZ
obtain⟨i,rfl,q⟩:=q1
obtain⟨t,rfl⟩:=r1
exact⟨some i,H1,I1,.int i t,q⟩)
noncomputable def SlR(X:Cx)(r:V→Option Int→Option Int→Hp→VK→Prop):Prop:=∀(pins:List (Addr×Obj)) (s:Shared) (σ:St) (H:Hp) (x:V) (v vl vu:Value) (lo hi:Option Int) (sl:Addr) (Q:VK),Inv X pins σ H s→RelV x v→s.heap.IsSliceOf sl vl vu .none→IsPart vl lo→IsPart vu hi→r x lo hi H Q→∃T id,typeLookup (.type T) "__getitem__"=pure (some (.builtin id))∧s.TypeIs v T∧wpAny (model X.prog X.w) X.A (getItem v (.ref sl)) (EP X pins σ Q) X.xe s
noncomputable def tSl(r:V→Option Int→Option Int→Hp→VK→Prop)(te:TE)(tl th:TO):TE:=λσ H Q=>te σ H λx H1=>tl σ H1 λl H2=>th σ H2 λu H3=>r x l u H3 Q
theorem q0B{r:V→Option Int→Option Int→Hp→VK→Prop}(hr:SlR X r)(he:PE X e te)(hl:PO X lo tl)(hu:PO X hi th):PE X (.Subscript e (.Slice lo hi none p2) pos) (tSl r te tl th):=by(
intro pins s σ H Q I h
refine lJ (thn (he pins s σ H _ I h) λv s1 hZ=>?_)
obtain⟨x,H1,I1,r1,q1⟩:=hZ
refine wpAny_Slice (thn (hl pins s1 σ H1 _ I1 q1) λvl s2 ⟨l,H2,I2,pl,q2⟩=>thn (hu pins s2 σ H2 _ I2 q2) λvu s3 hZ=>?_)
obtain⟨u,H3,I3,pu,q3⟩:=hZ
rw[evalPart_none]
refine kU ?_
have I4:Inv X pins σ H3 { s3 with heap:=s3.heap.push { cls:=.type "slice",data:=.fields #[vl,vu,.none] } }:=I3.kept (t':=s3.toks) λb ob q=>hX _ q
obtain⟨T,id,hT,ht,hg⟩:=hr pins { s3 with heap:=s3.heap.push { cls:=.type "slice",data:=.fields #[vl,vu,.none] } } σ H3 x v vl vu l u s3.heap.objs.size Q I4 r1 (xI ..) pl pu q3
show wpAny (model X.prog X.w) X.A (subscriptTail e (.Slice lo hi none p2) v (.ref s3.heap.objs.size)) (EP X pins σ Q) X.xe { s3 with heap:=s3.heap.push { cls:=.type "slice",data:=.fields #[vl,vu,.none] } }
exact tail_any (ops:=[.ref s3.heap.objs.size,v]) ht hT hg (by with_unfolding_all rfl))
noncomputable def cutV(xs:List V)(lo hi:Option Int):List V:=(xs.drop (HT.sIx xs.length 0 lo)).take (HT.sIx xs.length xs.length hi-HT.sIx xs.length 0 lo)
theorem q93(xs:List V)(lo hi:Option Int):(cutV xs lo hi).length≤xs.length:=by unfold cutV;rw[mR,cX];omega
end
noncomputable def ixN(n:Nat)(i:Int):Option Nat:=if 0≤i then(if i<n then some i.toNat else none)else if-(n:Int)≤i then some (i+n).toNat else none
noncomputable def atI{α:Type}(xs:List α)(i:Int):Option α:=(ixN xs.length i).bind λj=>xs[j]?
theorem qAX{n:Nat}{i:Int}{j:Nat}(h:ixN n i=some j):seqIndex? i n=some j∧j<n∧-(n:Int)≤i∧i<n:=by(
unfold ixN at h
by_cases h0:0≤i
·rw[kG h0]at h;by_cases h1:i<n
 ·rw[kG h1]at h;have e:i.toNat=j:=kJ h;exact⟨by rw[p7 h0 h1,e],by omega,by omega,h1⟩
 rw[kC h1]at h;cases h
rw[kC h0]at h
by_cases h1:-(n:Int)≤i
·rw[kG h1]at h;have e:(i+n).toNat=j:=kJ h;exact⟨by rw[pE (by omega) h1,e],by omega,h1,by omega⟩
rw[kC h1]at h;cases h)
theorem q4V{α:Type}{xs:List α}{i:Int}{v:α}(h:atI xs i=some v):∃j,seqIndex? i xs.length=some j∧xs[j]?=some v∧j<xs.length∧-(xs.length:Int)≤i∧i<xs.length:=by(
unfold atI at h
cases e:ixN xs.length i with
|none=>rw[e]at h;cases h
|some j=>rw[e]at h;obtain⟨h1,h2,h3,h4⟩:=qAX e;exact⟨j,h1,h,h2,h3,h4⟩)
theorem uR{α:Type}{xs:List α}{j:Nat}{v:α}(h:xs[j]?=some v):atI xs (j:Int)=some v:=by
 have hj:j<xs.length:=(hU.mp h).1;have e:ixN xs.length (j:Int)=some j:=by unfold ixN;rw[kG (by omega),kG (by omega)];simp
 unfold atI;rw[e];exact h
noncomputable def qAY(b:Expr):Prop:=∀o i,subscripted b false o i=operate [o,i] (getItem o i)
noncomputable def IxR(X:Cx)(r:R2):Prop:=∀(value slice:Expr) (pins:List (Addr×Obj)) (s:Shared) (σ:St) (H:Hp) (x y:V) (v u:Value) (Q:VK),Inv X pins σ H s→RelV x v→RelV y u→r x y H Q→subscripted slice false v u=operate [v,u] (getItem v u)→wpAny (model X.prog X.w) X.A (subscriptTail value slice v u) (EP X pins σ Q) X.xe s
noncomputable def MtR(X:Cx)(id:String)(r:V→List V→Hp→VK→Prop):Prop:=∀(pins:List (Addr×Obj)) (s:Shared) (σ:St) (H:Hp) (x:V) (xs:List V) (v:Value) (us:List Value) (Q:VK),Inv X pins σ H s→RelV x v→Vals xs us→r x xs H Q→wpAny (model X.prog X.w) X.A (call (.builtin id) (v::us)) (EP X pins σ Q) X.xe s
section
variable{X:Cx}{a b:Expr}{ta tb:TE}{pos:Pos}
theorem yJ{r:R2}(hr:IxR X r)(ha:PE X a ta)(hb:PE X b tb)(hs:qAY b):PE X (.Subscript a b pos) (tOp r ta tb):=by intro pins s σ H Q I h;exact lJ (binT ha hb I h λv u s2 x y H2 I2 rx ry q=>hr a b pins s2 σ H2 x y v u Q I2 rx ry q (hs _ _))
noncomputable def rIxL(K:PySem.W.Frag):R2:=λx y H Q=>∃p xs i v,x=.ref p∧y=.int i∧SqL K H p xs∧atI xs i=some v∧Q v H
noncomputable def rIxT(K:PySem.W.Frag):R2:=λx y H Q=>∃p xs i v,x=.ref p∧y=.int i∧SqT K H p xs∧atI xs i=some v∧Q v H
noncomputable def rIxS:R2:=λx y H Q=>∃z i c,x=.str z∧y=.int i∧z.length≤sizeLine∧atI z.cps.toList i=some c∧Q (.str ⟨#[c]⟩) H
theorem jX:IxR X (rIxL X.K):=by(
intro value slice pins s σ H x y v u Q I rx ry h hs
obtain⟨p,xs,i,z,rfl,rfl,hq,he,q⟩:=h
cases rx
obtain⟨t,rfl⟩:=ry
obtain⟨its,r,pl,hz⟩:=I.list hq
obtain⟨j,h1,h2,h3,h4,h5⟩:=q4V he
obtain⟨w,ew,rw'⟩:=r.get h2
have hl:=r.length
have hn:=q2P
have fin:EP X pins σ Q w s:=⟨z,H,I,rw',q⟩
by_cases h0:0≤i
·have hj:i.toNat=j:=by rw[p7 h0 h5]at h1;exact kJ h1
 exact item_listR pl.isList h0 (by omega) (by rw[hj];simpa using ew) fin hs
have hj:(i+(its.toArray.size:Int)).toNat=j:=by rw[pE (by omega) h4]at h1;rw[kN,←hl];exact kJ h1
exact pF (x:=w) pl.isList.typeIs nJ.lookup
 (pG (Q:=λr s'=>r=w∧EP X pins σ Q r s') pl.isList (by omega) (by rw[kN]<;>omega) (by omega) (by rw[hj];simpa using ew) ⟨rfl,fin⟩) hs)
theorem q3Q:IxR X (rIxT X.K):=by(
intro value slice pins s σ H x y v u Q I rx ry h hs
obtain⟨p,xs,i,z,rfl,rfl,hq,he,q⟩:=h
cases rx
obtain⟨t,rfl⟩:=ry
obtain⟨its,r,pl,hz⟩:=I.tuple hq
obtain⟨j,h1,h2,h3,h4,h5⟩:=q4V he
obtain⟨w,ew,rw'⟩:=r.get h2
have hl:=r.length
have hn:=q2P
have fin:EP X pins σ Q w s:=⟨z,H,I,rw',q⟩
exact pF (x:=w) pl.typeIs slot_tuple_getitem.lookup
 (getItem_tuple (j:=j) (Q:=λr s'=>r=w∧EP X pins σ Q r s') pl (by omega) (by omega) (by rw[kN,←hl];exact h1) (by simpa using ew) ⟨rfl,fin⟩) hs)
theorem qGM:IxR X rIxS:=by(
intro value slice pins s σ H x y v u Q I rx ry h hs
obtain⟨z,i,c,rfl,rfl,hz,he,q⟩:=h
obtain⟨t,rfl⟩:=rx
obtain⟨t',rfl⟩:=ry
obtain⟨j,h1,h2,h3,h4,h5⟩:=q4V he
have hl:z.cps.toList.length=z.length:=by simp[Str.length]
rw[hl]at h1 h4 h5
have hn:=q2P
exact tail_any (lK s z t) slot_str_getitem.lookup (getItem_str (c:=c) (by have e1:decide (i < -(2 ^ 63:Int))=false:=hG (by omega);have e2:decide (i≥2 ^ 63)=false:=hG (by omega);rw[e1,e2,xA]) (by rw[h1];simpa using h2) ⟨.str ⟨#[c]⟩,H,I.tok _,⟨_,rfl⟩,q⟩) hs)
theorem qA5(its:List Value)(n j:Nat)(u:Value):Obj.mapSeq (·.setIfInBounds j u) { cls:=.type "list",data:=.seq its.toArray n } = { cls:=.type "list",data:=.seq (its.set j u).toArray n }:=by simp[Obj.mapSeq]
theorem Inv.lst{pins:List (Addr×Obj)}{σ:St}{H:Hp}{s:Shared}{p:Addr}{xs:List V}(I:Inv X pins σ H s)(h:H p=some (.lst xs)):
 ∃(its:List Value) (n:Nat),Vals xs its∧s.heap.get? p=some { cls:=.type "list",data:=.seq its.toArray n }∧xs.length≤sizeLine:=by obtain⟨z,its,n,r,e⟩:=I.hok p _ h;exact⟨its,n,r,e,z⟩
theorem Inv.lstUpd{pins:List (Addr×Obj)}{σ:St}{H:Hp}{s:Shared}{p:Addr}{xs ys:List V}{its its':List Value}{n n':Nat}{f:Obj→Obj}(I:Inv X pins σ H s)(h:H p=some (.lst xs))
 (ho:s.heap.get? p=some { cls:=.type "list",data:=.seq its.toArray n }) (hf:f { cls:=.type "list",data:=.seq its.toArray n } = { cls:=.type "list",data:=.seq its'.toArray n' }) (r:Vals ys its') (hz:ys.length≤sizeLine) (t:Nat):
 Inv X pins σ (upd H p (.lst ys)) { s with heap:=s.heap.update p f,toks:=t }:=by
 have e:(s.heap.update p f).get? p=some { cls:=.type "list",data:=.seq its'.toArray n' }:=by rw[rA f ho (by rw[hf]<;>rfl),hf]
 refine I.write (x:=p) (e:=p) (by rw[h];trivial) (.inl rfl) (λb u hb q=>(mC _ _ (dO hb)).trans q) ⟨_,e⟩ ?_;exact⟨hz,its',n',r,e⟩
noncomputable def qIV:V→V→V→Hp→(Hp→Prop)→Prop:=λo i v H Q=>∃p xs k j,o=.ref p∧i=.int k∧H p=some (.lst xs)∧ixN xs.length k=some j∧Q (upd H p (.lst (xs.set j v)))
theorem q0C:PSet X qIV:=by(
intro pins s σ H o i v ov iv u Q I ro ri rv h
obtain⟨p,xs,k,j,rfl,rfl,hp,hj,q⟩:=h
cases ro
obtain⟨t,rfl⟩:=ri
obtain⟨its,n,r,ho,hz⟩:=I.lst hp
obtain⟨h1,h2,h3,h4⟩:=qAX hj
have hl:=r.length
have hn:=q2P
have I':Inv X pins σ (upd H p (.lst (xs.set j v))) { s with heap:=s.heap.update p (Obj.mapSeq (·.setIfInBounds j u)) }:=I.lstUpd hp ho (qA5 its n j u) (r.set rv j) (by rw[gD];exact hz) s.toks
by_cases h0:0≤k
·have hk:k.toNat=j:=by rw[p7 h0 h4]at h1;exact kJ h1
 exact PySem.W.ki_setAt ho h0 (by omega) (by rw[kN,←hl];exact h4) (by rw[hk];exact⟨_,I',q⟩)
have hk:(k+(its.toArray.size:Int)).toNat=j:=by rw[pE (by omega) h3]at h1;rw[kN,←hl];exact kJ h1
exact PySem.W.ki_setBack ho (by omega) (by rw[kN,←hl];exact h3) (by omega) (by rw[hk];exact⟨_,I',q⟩))
theorem q7W(lo hi:Option Int)(n:Nat):(sliceBounds lo hi none n).1=((HT.sIx n 0 lo:Nat):Int)∧(sliceBounds lo hi none n).2.1=((HT.sIx n n hi:Nat):Int)∧(sliceBounds lo hi none n).2.2=1:=by(
refine⟨?_,?_,rfl⟩
·cases lo with
 |none=>simp[sliceBounds,HT.sIx]
 |some i=>
  simp only[sliceBounds,HT.sIx,nR,show(1:Int)>0 by decide,if_true];by_cases h:i<0
  ·simp only[h,if_true]<;>omega
  simp only[h,if_false]<;>omega
cases hi with
|none=>simp[sliceBounds,HT.sIx]
|some i=>
 simp only[sliceBounds,HT.sIx,nR,show(1:Int)>0 by decide,if_true];by_cases h:i<0
 ·simp only[h,if_true]<;>omega
 simp only[h,if_false]<;>omega)
theorem q6F(its:List Value)(lo hi:Option Int):slicePick its.toArray lo hi none=((its.drop (HT.sIx its.length 0 lo)).take (HT.sIx its.length its.length hi-HT.sIx its.length 0 lo)).toArray:=by(
obtain⟨h1,h2,h3⟩:=q7W lo hi its.toArray.size
unfold slicePick
rw[h1,h2,h3]
simp only[sliceRange_one,pick_run,kN]<;>rfl)
noncomputable def rSlL(K:PySem.W.Frag):V→Option Int→Option Int→Hp→VK→Prop:=λx lo hi H Q=>∃a xs,x=.ref a∧SqL K H a xs∧∀p,H p=none→Q (.ref p) (upd H p (.lst (cutV xs lo hi)))
theorem q32:SlR X (rSlL X.K):=by(
intro pins s σ H x v vl vu lo hi sl Q I rx hs pl pu h
obtain⟨a,xs,rfl,hx,q⟩:=h
cases rx
obtain⟨its,r,ht,hz⟩:=I.list hx
have hlen:=r.length
refine⟨"list",_,nJ.lookup,ht.isList.typeIs,?_⟩
refine wpAny_getItem_list_slice ht.isList hs pl pu .none (by simp) ?_ (by rw[kN]<;>omega)
rw[q6F,←hlen]
refine⟨.ref s.heap.objs.size,_,I.laid (t':=s.toks) (o:=.lst (cutV xs lo hi)) (λb ob q=>hX _ q) (kB _) ?_,rfl,q _ (I.hok.fresh (kB _))⟩
exact⟨mE (q93 xs lo hi) hz,_,0,(r.drop (HT.sIx xs.length 0 lo)).take (HT.sIx xs.length xs.length hi-HT.sIx xs.length 0 lo),kR _ rfl⟩)
noncomputable def vQ:V→Bool
| .non=>true
| .bl _=>true
| .int _=>true
| .str _=>true
|_=>false
noncomputable def eqV:V→V→Bool
| .non,.non=>true
| .bl a,.bl b=>a==b
| .bl a,.int b=>(if a then 1 else 0)==b
| .int a,.bl b=>a==(if b then 1 else 0)
| .int a,.int b=>a==b
| .str a,.str b=>a==b
|_,_=>false
theorem qCW{A:Around}{s:Shared}{y x:V}{u v:Value}(ry:RelV y u)(rx:RelV x v)(fy:vQ y=true)(fx:vQ x=true):SeqAt.EqAt A s u v (eqV y x):=by(
cases y with
|non=>
 cases ry;cases x with
 |non=>cases rx;exact pO _
 |bl b=>cases rx;exact SeqAt.EqAt.none_bool b
 |int b=>obtain⟨t,rfl⟩:=rx;exact SeqAt.EqAt.none_int b t
 |str b=>obtain⟨t,rfl⟩:=rx;exact SeqAt.EqAt.none_str b t
 |_=>exact absurd (show false=true from fx) kH
|bl a=>
 cases ry;cases x with
 |non=>cases rx;exact SeqAt.EqAt.bool_none a
 |bl b=>cases rx;exact SeqAt.EqAt.bool_bool a b
 |int b=>obtain⟨t,rfl⟩:=rx;exact SeqAt.EqAt.bool_int a b t
 |str b=>obtain⟨t,rfl⟩:=rx;exact SeqAt.EqAt.bool_str a b t
 |_=>exact absurd (show false=true from fx) kH
|int a=>
 obtain⟨t',rfl⟩:=ry;cases x with
 |non=>cases rx;exact SeqAt.EqAt.int_none a t'
 |bl b=>cases rx;exact SeqAt.EqAt.int_bool a t' b
 |int b=>obtain⟨t,rfl⟩:=rx;exact SeqAt.EqAt.int_int a t' b t
 |str b=>obtain⟨t,rfl⟩:=rx;exact sR a t' b t
 |_=>exact absurd (show false=true from fx) kH
|str a=>
 obtain⟨t',rfl⟩:=ry;cases x with
 |non=>cases rx;exact SeqAt.EqAt.str_none a t'
 |bl b=>cases rx;exact SeqAt.EqAt.str_bool a t' b
 |int b=>obtain⟨t,rfl⟩:=rx;exact sS a t' b t
 |str b=>obtain⟨t,rfl⟩:=rx;exact SeqAt.EqAt.str_str a t' b t
 |_=>exact absurd (show false=true from fx) kH
|_=>exact absurd (show false=true from fy) kH)
noncomputable def eqU(x:V)(u:Value):Bool:=match u with
| .none=>eqV .non x
| .bool b=>eqV (.bl b) x
| .int i _=>eqV (.int i) x
| .str z _=>eqV (.str z) x
|_=>false
theorem qCX{x y:V}{u:Value}(r:RelV y u)(f:vQ y=true):eqU x u=eqV y x:=by(
cases y with
|non=>cases r;rfl
|bl b=>cases r;rfl
|int i=>obtain⟨t,rfl⟩:=r;rfl
|str z=>obtain⟨t,rfl⟩:=r;rfl
|_=>exact absurd (show false=true from f) kH)
theorem q33{x:V}:∀{xs:List V} {us:List Value},Vals xs us→xs.all vQ=true→us.any (eqU x)=xs.any λy=>eqV y x
|_,_,.nil,_=>rfl
|y::xs,u::us,.cons r t,f=>by rw[xB,mH]at f;rw[d9,d9,qCX r f.1,q33 t f.2]
theorem q14{A:Around}{s:Shared}{x:V}{v:Value}(rx:RelV x v)(fx:vQ x=true):∀{xs:List V} {us:List Value},Vals xs us→xs.all vQ=true→∀u∈us,SeqAt.EqAt A s u v (eqU x u)
|_,_,.nil,_=>λu hu=>by cases hu
|y::xs,u::us,.cons r t,f=>λu' hu=>by
 rw[xB,mH]at f;rcases kL.mp hu with rfl|hu
 ·rw[qCX r f.1];exact qCW r rx f.1 fx
 exact q14 rx fx t f.2 u' hu
noncomputable def inV(x:V)(xs:List V):Bool:=xs.any λy=>eqV y x
noncomputable def rIn(K:PySem.W.Frag)(neg:Bool):R2:=λx y H Q=>∃p xs,y=.ref p∧(SqL K H p xs∨SqT K H p xs)∧vQ x=true∧xs.all vQ=true∧Q (.bl (if neg then !inV x xs else inV x xs)) H
theorem qBU:OpR X (compareOp .In) (rIn X.K false):=by(
intro pins s σ H x y v u Q I rx ry h
obtain⟨p,xs,rfl,hq,fx,fs,q⟩:=h
cases ry
rcases hq with hq|hq
·obtain⟨its,r,pl,hz⟩:=I.list hq;refine SeqAt.in_listAt (eqU x) pl.isList (λw hw=>q14 rx fx r fs w (by simpa using hw)) ⟨.bl _,H,I,rfl,?_⟩;rw[show its.toArray.any (eqU x)=its.any (eqU x) by simp,q33 r fs];exact q
obtain⟨its,r,pl,hz⟩:=I.tuple hq
refine SeqAt.in_tupleAt (eqU x) pl (λw hw=>q14 rx fx r fs w (by simpa using hw)) ⟨.bl _,H,I,rfl,?_⟩
rw[show its.toArray.any (eqU x)=its.any (eqU x) by simp,q33 r fs]
exact q)
theorem vV:OpR X (compareOp .NotIn) (rIn X.K true):=by(
intro pins s σ H x y v u Q I rx ry h
obtain⟨p,xs,rfl,hq,fx,fs,q⟩:=h
cases ry
rcases hq with hq|hq
·obtain⟨its,r,pl,hz⟩:=I.list hq;refine SeqAt.notIn_listAt (eqU x) pl.isList (λw hw=>q14 rx fx r fs w (by simpa using hw)) ⟨.bl _,H,I,rfl,?_⟩;rw[show its.toArray.any (eqU x)=its.any (eqU x) by simp,q33 r fs];exact q
obtain⟨its,r,pl,hz⟩:=I.tuple hq
refine SeqAt.notIn_tupleAt (eqU x) pl (λw hw=>q14 rx fx r fs w (by simpa using hw)) ⟨.bl _,H,I,rfl,?_⟩
rw[show its.toArray.any (eqU x)=its.any (eqU x) by simp,q33 r fs]
exact q)
theorem jH:vF X (.builtin "len") (λxs H Q=>∃p ys,xs=[.ref p]∧(SqL X.K H p ys∨SqT X.K H p ys)∧Q (.int ys.length) H):=by(
intro pins s σ H xs us Q I r h
obtain⟨p,ys,rfl,hq,q⟩:=h
obtain⟨u,rfl,rx⟩:=zT r
cases rx
have hn:=q2P
rcases hq with hq|hq
·obtain⟨its,r',pl,hz⟩:=I.list hq;have hlen:=r'.length;exact Calls.call_len_list pl.isList (by simp only[kN]<;>omega) ⟨.int ys.length,H,I.tok _,⟨s.toks+1,by rw[kN,hlen]⟩,q⟩
obtain⟨its,r',pl,hz⟩:=I.tuple hq
have hlen:=r'.length
exact len_tuple pl (by simp only[kN]<;>omega) ⟨.int ys.length,H,I.tok _,⟨s.toks+1,by rw[kN,hlen]⟩,q⟩)
theorem q7X:vF X (.builtin "len") (λxs H Q=>∃z,xs=[.str z]∧z.length≤sizeLine∧Q (.int z.length) H):=by(
intro pins s σ H xs us Q I r h
obtain⟨z,rfl,hz,q⟩:=h
obtain⟨u,rfl,t,rfl⟩:=zT r
have hn:=q2P
exact len_str (by omega) ⟨.int z.length,H,I.tok _,⟨_,rfl⟩,q⟩)
theorem q7Y:vF X (.type "list") (λxs H Q=>∃p ys,xs=[.ref p]∧(SqL X.K H p ys∨SqT X.K H p ys)∧∀l,H l=none→Q (.ref l) (upd H l (.lst ys))):=by(
intro pins s σ H xs us Q I r h
obtain⟨p,ys,rfl,hq,q⟩:=h
obtain⟨u,rfl,rx⟩:=zT r
cases rx
have fin:∀(its:List Value),Vals ys its→ys.length≤sizeLine→∀(h':Heap) (c':Nat),(∀b o',s.heap.get? b=some o'→h'.get? b=some o')→h'.get? s.heap.objs.size=some { cls:=.type "list",dict:=none,data:=.seq its.toArray c',slots:=#[] }→EP X pins σ Q (.ref s.heap.objs.size) { s with heap:=h' }:=λits r' hz h' c' kp e=>⟨.ref s.heap.objs.size,_,I.laid (t':=s.toks) kp (kB _) (show jR X.prog X.w _ h' _ (.lst ys)from⟨hz,its,c',r',e⟩),rfl,q _ (I.hok.fresh (kB _))⟩
rcases hq with hq|hq
·obtain⟨its,r',pl,hz⟩:=I.list hq;have hlen:=r'.length;obtain⟨o,ho,hc,n,hd⟩:=pl.isList;exact call_list_seq p (.inl rfl) ho hc hd (λh' c' kp e=>fin its r' hz h' c' kp e) (by simp only[kN]<;>omega)
obtain⟨its,r',pl,hz⟩:=I.tuple hq
have hlen:=r'.length
obtain⟨o,ho,hc,n,hd⟩:=pl
exact call_list_seq p (.inr rfl) ho hc hd (λh' c' kp e=>fin its r' hz h' c' kp e) (by simp only[kN]<;>omega))
noncomputable def tyV(K:PySem.W.Frag)(T:String)(x:V)(H:Hp):Prop:=match x with
| .str _=>T="str"
| .int _=>T="int"
| .ref p=>(T="list"∧∃xs,SqL K H p xs)∨(T="tuple"∧∃o,K.lookup p=some o∧o.cls=.type "tuple"∧o.dict=none)∨(T="dict"∧((∃kvs,H p=some (.dK kvs))∨∃kvs,H p=some (.dT kvs)))∨(T="set"∧∃S n,H p=some (.set S n))
|_=>False
theorem qCY{pins:List (Addr×Obj)}{σ:St}{H:Hp}{s:Shared}{T:String}{x:V}{v:Value}(I:Inv X pins σ H s)(r:RelV x v)(ty:tyV X.K T x H):
 s.TypeIs v T∧∀a,v=.ref a→∃ob,s.heap.get? a=some ob∧ob.dict=none:=by(
cases x with
|str z=>obtain⟨t,rfl⟩:=r;cases(show T="str" from ty);exact⟨lK s z t,λ_ e=>nomatch e⟩
|int i=>obtain⟨t,rfl⟩:=r;cases(show T="int" from ty);exact⟨lL s i t,λ_ e=>nomatch e⟩
|ref p=>
 cases r;rcases ty with⟨rfl,xs,hq⟩|⟨rfl,o,hk,hc,hd⟩|⟨rfl,hk⟩|⟨rfl,S,n,hk⟩
 ·obtain⟨its,_,pl,_⟩:=I.list hq;refine⟨pl.isList.typeIs,λa e=>?_⟩;cases e;obtain⟨o,n,e,c,hd,_⟩:=pl;exact⟨o,e,hd⟩
 ·refine⟨⟨o,I.kIn p o hk,hc⟩,λa e=>?_⟩;cases e;exact⟨o,I.kIn _ o hk,hd⟩
 ·have z:∃o,s.heap.get? p=some o∧o.ExactDict:=by
   rcases hk with⟨kvs,hk⟩|⟨kvs,hk⟩
   ·obtain⟨_,_,_,_,o,_,_,e,ex,_⟩:=I.hok p _ hk;exact⟨o,e,ex⟩
   obtain⟨_,_,_,_,o,_,_,e,ex,_⟩:=I.hok p _ hk;exact⟨o,e,ex⟩
  obtain⟨o,e,ex⟩:=z;refine⟨⟨o,e,ex.1⟩,λa e2=>?_⟩;cases e2;exact⟨o,e,ex.2.1⟩
 obtain⟨o,_,_,_,e,ex,_⟩:=I.hok p _ hk;refine⟨⟨o,e,ex.1⟩,λa e2=>?_⟩;cases e2;exact⟨o,e,ex.2.1⟩
|_=>exact False.elim ty)
noncomputable def tBM0(K:PySem.W.Frag)(T:String)(r:V→List V→Hp→VK→Prop)(to:TE):TE:=λσ H Q=>to σ H λx H1=>tyV K T x H1∧r x [] H1 Q
noncomputable def tBM(K:PySem.W.Frag)(T:String)(r:V→List V→Hp→VK→Prop)(to:TE)(t:TA):TE:=λσ H Q=>to σ H λx H1=>tyV K T x H1∧t σ H1 λxs H2=>r x xs H2 Q
variable{o e:Expr}{es:List Expr}{to:TE}{t:TA}{name:Str}{apos cpos:Pos}{T id:String}{r:V→List V→Hp→VK→Prop}
theorem qA6(pa:PlainAttrs T)(slot:Slot T name id)(hty:typeOf (.builtin id)=pure (.type "method_descriptor"))(hm:MtR X id r)(ho:PE X o to)
 (hbase:attributeBase o name X.env (eval o X.env)=eval o X.env:=by rfl) (hline:(apos.endLine==cpos.line)=true:=by rfl):PE X (.Call (.Attribute o name apos) [] [] cpos) (tBM0 X.K T r to):=by(
intro pins s σ H Q I h
refine wpAny_Call_method0_late hbase hline (thn (ho pins s σ H _ I h) λv s1 hZ=>?_)
obtain⟨x,H1,I1,r1,ty,q1⟩:=hZ
obtain⟨h1,h2⟩:=qCY I1 r1 ty
exact⟨T,id,pa,slot,hty,h1,h2,dE rfl (PySem.evalArgs_none (hm pins s1 σ H1 x [] v [] Q I1 r1 .nil q1))⟩)
theorem qCZ(pa:PlainAttrs T)(slot:Slot T name id)(hty:typeOf (.builtin id)=pure (.type "method_descriptor"))(hm:MtR X id r)(ho:PE X o to)(ha:PA X (e::es) t)
 (hbase:attributeBase o name X.env (eval o X.env)=eval o X.env:=by rfl)
 (hfew:((backTo cpos (starEach (e::es) X.env)).all (λx=>!x.1)&&(backToKw cpos (keywordEach [] X.env)).all (λx=>x.1.isSome)
  &&decide ((e::es).length+([]:List Keyword).length+(if([]:List Keyword).isEmpty then 0 else 1)<30))=true:=by rfl)
 (hline:(apos.endLine==cpos.line)=true:=by rfl) (hs:starEach (e::es) X.env=(false,eval e X.env)::starEach es X.env:=by rfl) (hplain:(backTo cpos (starEach es X.env)).any (·.1)=false:=by rfl):
 PE X (.Call (.Attribute o name apos) (e::es) [] cpos) (tBM X.K T r to t):=by(
intro pins s σ H Q I h
refine wpAny_Call_method_late hbase hfew hline rfl (thn (ho pins s σ H _ I h) λv s1 hZ=>?_)
obtain⟨x,H1,I1,r1,ty,q1⟩:=hZ
obtain⟨h1,h2⟩:=qCY I1 r1 ty
refine⟨T,id,pa,slot,hty,h1,h2,?_⟩
have hA:=ha cpos pins s1 σ H1 _ I1 q1
rw[hs]at hA ⊢
refine dE (by show(false||(backTo cpos (starEach es X.env)).any (·.1))=false;rw[hplain]<;>rfl) (rJ ?_)
exact thn hA λus s2 ⟨vs,H2,I2,r2,q2⟩=>hm pins s2 σ H2 x vs v us Q I2 r1 r2 q2)
end
noncomputable def MtM(X:Cx)(id:String)(r:V→List V→Hp→VK→Prop):Prop:=∀(pins:List (Addr×Obj)) (s:Shared) (σ:St) (H:Hp) (x:V) (xs:List V) (v:Value) (us:List Value) (Q:VK),Inv X pins σ H s→RelV x v→Vals xs us→r x xs H Q→wpAny (model X.prog X.w) X.A (call (.builtin id) (v::us)) (EP X pins σ Q) X.xe s
theorem Vals.one{x:V}{us:List Value}(h:Vals [x] us):∃u,us=[u]∧RelV x u:=by
 cases h with
 |cons r t=>cases t;exact⟨_,rfl,r⟩
theorem Vals.zero:∀{us:List Value},Vals [] us→us=[]
|_,.nil=>rfl
theorem Vals.rep{xs:List V}{us:List Value}(h:Vals xs us):∀k:Nat,Vals (List.replicate k xs).flatten (List.replicate k us).flatten
|0=>.nil
|k+1=>by rw[gW,gW,rD,rD];exact Vals.append h (Vals.rep h k)
theorem q78(its:List Value):∀(k:Nat) (acc:List Value),List.foldl (λx1 x2=>x1++x2) acc.toArray (List.replicate k its.toArray)=(acc++(List.replicate k its).flatten).toArray
|0,acc=>by simp
|k+1,acc=>by
 have e:acc.toArray++its.toArray=(acc++its).toArray:=by simp
 have e2:(acc++its)++(List.replicate k its).flatten=acc++(List.replicate (k+1) its).flatten:=by rw[gW,rD,rE]
 rw[←e2,←q78 its k (acc++its),←e,gW,wY]
section
variable{X:Cx}{pins:List (Addr×Obj)}{σ:St}{H:Hp}{s:Shared}{l b:Addr}{xs ys zs:List V}
theorem Inv.lset{its its':List Value}{n:Nat}{f:Array Value→Array Value}{t':Nat}(I:Inv X pins σ H s)(hH:H l=some (.lst xs))
 (e:s.heap.get? l=some { cls:=.type "list",data:=.seq its.toArray n }) (hf:f its.toArray=its'.toArray) (hv:Vals ys its') (hz:ys.length≤sizeLine):
 Inv X pins σ (upd H l (.lst ys)) { s with heap:=s.heap.update l (Obj.mapSeq f),toks:=t' }:=by(
have q:=PySem.IsL.update e f
rw[hf]at q
refine I.write (x:=l) (e:=l) (by rw[hH];exact trivial) (.inl rfl) (λb' u hb hu=>(mC s.heap (Obj.mapSeq f) (dO hb)).trans hu) ⟨_,q⟩ ?_
exact⟨hz,its',_,hv,q⟩)
theorem Inv.lnew{its:List Value}{t':Nat}(I:Inv X pins σ H s)(hv:Vals ys its)(hz:ys.length≤sizeLine):
 Inv X pins σ (upd H s.heap.objs.size (.lst ys)) { s with heap:=s.heap.push { cls:=.type "list",data:=.seq its.toArray },toks:=t' }:=I.laid (λ_ _ q=>hX _ q) (kB _) ⟨hz,its,0,hv,kR _ rfl⟩
theorem Inv.fresh(I:Inv X pins σ H s):H s.heap.objs.size=none:=I.hok.fresh (kB _)
theorem Inv.lstM(I:Inv X pins σ H s)(hH:H l=some (.lst xs)):xs.length≤sizeLine∧∃(its:List Value) (n:Nat),Vals xs its∧xs.length=its.length∧s.heap.get? l=some { cls:=.type "list",data:=.seq its.toArray n }:=by obtain⟨z,its,n,r,e⟩:=I.hok l _ hH;exact⟨z,its,n,r,r.length,e⟩
theorem qD0{n:Nat}(h:n≤sizeLine):Builtin.List.listTooLong n=false:=by unfold Builtin.List.listTooLong;exact hG (by omega)
end
section
variable{X:Cx}
noncomputable def qEL:V→List V→Hp→VK→Prop:=λx vs H Q=>∃l xs y,x=.ref l∧vs=[y]∧H l=some (.lst xs)∧xs.length<sizeLine∧Q .non (upd H l (.lst (xs++[y])))
theorem q1Z:MtM X "list.append" qEL:=by(
intro pins s σ H x vs v us Q I rx rv h
obtain⟨l,xs,y,rfl,rfl,hH,hz,q⟩:=h
cases rx
obtain⟨u,rfl,ru⟩:=rv.one
obtain⟨z,its,n,r,hl,e⟩:=I.lstM hH
refine sU F.slot_list_append ⟨_,e,rfl⟩ F.entry_list_append (F.args_list_append_2 _ _) (PySem.list_append l its.toArray n u (by rw[kN];omega)) ⟨e,?_⟩
refine⟨.non,_,I.lset (its':=its++[u]) hH e (by simp) (r.append (.cons ru .nil)) ?_,rfl,q⟩
rw[mU,wO]
omega)
noncomputable def qGN:V→List V→Hp→VK→Prop:=λx vs H Q=>∃l xs,x=.ref l∧vs=[]∧H l=some (.lst xs)∧Q .non (upd H l (.lst []))
theorem q94:MtM X "list.clear" qGN:=by(
intro pins s σ H x vs v us Q I rx rv h
obtain⟨l,xs,rfl,rfl,hH,q⟩:=h
cases rx
have hus:=rv.zero
subst hus
obtain⟨z,its,n,r,hl,e⟩:=I.lstM hH
refine sU F.slot_list_clear ⟨_,e,rfl⟩ F.entry_list_clear (F.args_list_clear_1 _) (AutoSeq1.list_clear_list_0 l its.toArray n (by rw[kN];omega)) ⟨e,?_⟩
exact⟨.non,_,I.lset (its':=[]) (ys:=[]) hH e rfl .nil (mI _),rfl,q⟩)
noncomputable def rCat:R2:=λx y H Q=>∃l b xs zs,x=.ref l∧y=.ref b∧H l=some (.lst xs)∧H b=some (.lst zs)∧xs.length+zs.length≤sizeLine∧∀p,H p=none→Q (.ref p) (upd H p (.lst (xs++zs)))
theorem qGO:OpR X (binaryOp .Add) rCat:=by(
intro pins s σ H x y v u Q I rx ry h
obtain⟨l,b,xs,zs,rfl,rfl,hH,hB,hz,q⟩:=h
cases rx
cases ry
obtain⟨z,its,n,r,hl,e⟩:=I.lstM hH
obtain⟨z2,its2,n2,r2,hl2,e2⟩:=I.lstM hB
refine PySem.P.add_list e e2 ?_ (by rw[kN,kN];omega)
have ea:its.toArray++its2.toArray=(its++its2).toArray:=by simp
rw[ea]
exact⟨.ref _,_,I.lnew (t':=s.toks) (r.append r2) (by rw[mU];omega),rfl,q _ I.fresh⟩)
noncomputable def rRep:R2:=λx y H Q=>∃l k xs,x=.ref l∧y=.int k∧H l=some (.lst xs)∧-(2 ^ 63)≤k∧k<2 ^ 63∧xs.length*k.toNat≤sizeLine∧∀p,H p=none→Q (.ref p) (upd H p (.lst (List.replicate k.toNat xs).flatten))
theorem qEM{α:Type}(xs:List α)(k:Nat):(List.replicate k xs).flatten.length=k*xs.length:=by(
induction k with
|zero=>simp
|succ k ih=>rw[gW,rD,mU,ih,Nat.succ_mul,Nat.add_comm])
theorem qGP:OpR X (binaryOp .Mult) rRep:=by(
intro pins s σ H x y v u Q I rx ry h
obtain⟨l,k,xs,rfl,rfl,hH,h1,h2,hz,q⟩:=h
cases rx
obtain⟨t,rfl⟩:=ry
obtain⟨z,its,n,r,hl,e⟩:=I.lstM hH
have hlen:its.toArray.size*k.toNat≤sizeLine:=by rw[kN,←hl];exact hz
have hcap:¬its.toArray.size*k.toNat>(2 ^ 63-1) / 8:=by
 have:(sizeLine:Nat)≤(2 ^ 63-1) / 8:=by decide
 omega
have hfit:¬(!Builtin.List.listFitsIndex k)=true:=by rw[fitsIndex_both h1 h2];exact kH
have hlong:¬Builtin.List.listTooLong (its.toArray.size*k.toNat)=true:=by rw[qD0 hlen];exact kH
have hnew:List.foldl (λx1 x2=>x1++x2) #[] (List.replicate (if its.toArray.isEmpty=true then 0 else k.toNat) its.toArray)=(List.replicate k.toNat its).flatten.toArray:=by
 have f0:∀m:Nat,List.foldl (λx1 x2=>x1++x2) #[] (List.replicate m its.toArray)=(List.replicate m its).flatten.toArray:=λm=>by have:=q78 its m [];rw[mV]at this;exact this
 rw[f0];cases its with
 |nil=>simp
 |cons a r'=>rw[kC (by simp)]
refine wpAny_binaryOp_repeat_ref (T:="list") (U:="int") (by decide) ⟨_,e,rfl⟩ (λs'=>lL s' k t) noFill_list_mul F.fills_int_mul nZ repeat_list F.slot_int_index.lookup
 (sU nZ (lL s k t) F.entry_int_rmul (F.args_int_rmul_2 _ _) (int___rmul___int_list k t l its.toArray n)
  ⟨e,rfl,⟨_,e,rfl⟩,sU F.slot_list_mul ⟨_,e,rfl⟩ F.entry_list_mul (F.args_list_mul_2 _ _) (AutoListH.list___mul___list_int_3 l its.toArray n k t hfit hcap hlong) ⟨e,?_⟩⟩)
rw[hnew]
exact⟨.ref _,_,I.lnew (t':=s.toks) (r.rep k.toNat) (by rw[qEM,wK];exact hz),rfl,q _ I.fresh⟩)
end
section
variable{κ:Type}[DecidableEq κ]
noncomputable def valV(kvs:List (κ×V))(k:κ):Option V:=(kvs.find? λkv=>decide (kv.1=k)).map (·.2)
noncomputable def putK(kvs:List (κ×V))(k:κ)(v:V):List (κ×V):=if(kvs.any λkv=>decide (kv.1=k))=true then kvs.map (λkv=>if kv.1=k then(kv.1,v)else kv)else kvs++[(k,v)]
noncomputable def q4A(kvs:List (κ×V))(k:κ):List (κ×V):=kvs.filter λkv=>decide (kv.1≠k)
theorem vH{p:κ×V}{r:List (κ×V)}{k:κ}(e:p.1=k):valV (p::r) k=some p.2:=by simp[valV,g7,e]
theorem uS{p:κ×V}{r:List (κ×V)}{k:κ}(e:¬p.1=k):valV (p::r) k=valV r k:=by simp[valV,g7,e]
theorem q5B(k:κ):∀kvs:List (κ×V),(kvs.any λkv=>decide (kv.1=k))=(valV kvs k).isSome
| []=>rfl
|p::r=>by
 rw[d9];by_cases e:p.1=k
 ·simp only[vH e,hI e,Bool.true_or,Option.isSome_some]
 rw[uS e,hG e,xC];exact q5B k r
theorem q3R(k j:κ)(y:V):∀kvs:List (κ×V),valV kvs k=none→valV (kvs++[(k,y)]) j=if j=k then some y else valV kvs j
| [],_=>by
 by_cases e:k=j
 ·rw[kG e.symm];exact vH (p:=(k,y)) e
 rw[kC (λz=>e z.symm)];exact uS (p:=(k,y)) e
|p::r,hn=>by
 rw[mM];have hk:¬p.1=k:=λz=>by rw[vH z]at hn;cases hn
 rw[uS hk]at hn;have ih:=q3R k j y r hn;by_cases e:p.1=j
 ·rw[vH e,vH e,kC (λz=>hk (e.trans z))]
 rw[uS e,uS e,ih]
theorem q15(kvs:List (κ×V))(k:κ)(v:V):(putK kvs k v).length≤kvs.length+1:=by(
unfold putK
split
·rw[hV];omega
rw[mU,mY,pP];omega)
theorem qD1{kvs:List (κ×V)}{k:κ}(v:V)(h:valV kvs k=none):putK kvs k v=kvs++[(k,v)]:=by unfold putK;rw[q5B,h];exact kC (by decide)
theorem RelO.isSome_eq{o:Option V}{u:Option Value}(r:RelO o u):o.isSome=u.isSome:=by(
cases o with
|none=>cases u with
 |none=>rfl
 |some _=>exact(show False from r).elim
|some _=>cases u with
 |none=>exact(show False from r).elim
 |some _=>rfl)
theorem RelO.getD{o:Option V}{u:Option Value}{d:V}{d':Value}(r:RelO o u)(rd:RelV d d'):RelV (o.getD d) (u.getD d'):=by(
cases o with
|none=>cases u with
 |none=>exact rd
 |some _=>exact(show False from r).elim
|some _=>cases u with
 |none=>exact(show False from r).elim
 |some _=>exact r)
theorem KV.val{kvs:List (κ×V)}{vs:List (κ×Value)}(r:KV kvs vs)(k:κ):RelO (valV kvs k) (valueAt vs k):=by(
unfold KV at r
induction r with
|nil=>exact True.intro
|@cons p q ps qs h t ih=>
 obtain⟨h1,h2⟩:=h;by_cases e:p.1=k
 ·have e':q.1=k:=h1.symm.trans e;have b:valueAt (q::qs) k=some q.2:=by simp[valueAt,g7,e']
  rw[vH e,b];exact h2
 have e':¬q.1=k:=λz=>e (h1.trans z);have b:valueAt (q::qs) k=valueAt qs k:=by simp[valueAt,g7,e']
 rw[uS e,b];exact ih)
theorem KV.any{kvs:List (κ×V)}{vs:List (κ×Value)}(r:KV kvs vs)(k:κ):(kvs.any λkv=>decide (kv.1=k))=vs.any λkv=>decide (kv.1=k):=by(
unfold KV at r
induction r with
|nil=>rfl
|cons h t ih=>rw[d9,d9,ih,h.1])
theorem KV.repl{kvs:List (κ×V)}{vs:List (κ×Value)}(r:KV kvs vs)(k:κ){y:V}{u:Value}(ry:RelV y u):
 KV (kvs.map λkv=>if kv.1=k then(kv.1,y)else kv) (vs.map λkv=>if kv.1=k then(kv.1,u)else kv):=by(
unfold KV at r ⊢
induction r with
|nil=>exact .nil
|@cons p q ps qs h t ih=>
 rw[mS,mS];refine .cons ?_ ih;obtain⟨h1,h2⟩:=h;by_cases e:p.1=k
 ·rw[kG e,kG (h1.symm.trans e)];exact⟨h1,ry⟩
 rw[kC e,kC (λz=>e (h1.trans z))];exact⟨h1,h2⟩)
theorem KV.put{kvs:List (κ×V)}{vs:List (κ×Value)}(r:KV kvs vs)(k:κ){y:V}{u:Value}(ry:RelV y u):KV (putK kvs k y) (stored vs k u):=by(
unfold putK stored
rw[r.any k]
by_cases e:(vs.any λkv=>decide (kv.1=k))=true
·rw[kG e,kG e];exact r.repl k ry
rw[kC e,kC e];exact Paired.snoc r ⟨rfl,ry⟩)
theorem KV.drop{kvs:List (κ×V)}{vs:List (κ×Value)}(r:KV kvs vs)(k:κ):KV (q4A kvs k) (without vs k):=by(
unfold KV at r ⊢
unfold q4A without
induction r with
|nil=>exact .nil
|@cons p q ps qs h t ih=>
 obtain⟨h1,h2⟩:=h;rw[gF,gF];by_cases e:p.1=k
 ·have a:¬decide (p.1≠k)=true:=by simp[e]
  have b:¬decide (q.1≠k)=true:=by simp[h1.symm.trans e]
  rw[kC a,kC b];exact ih
 have e':¬q.1=k:=λz=>e (h1.trans z);have a:decide (p.1≠k)=true:=by simp[e]
 have b:decide (q.1≠k)=true:=by simp[e']
 rw[kG a,kG b];exact .cons ⟨h1,h2⟩ ih)
theorem KV.keys{kvs:List (κ×V)}{vs:List (κ×Value)}(r:KV kvs vs):kvs.map (·.1)=vs.map (·.1):=by(
unfold KV at r
induction r with
|nil=>rfl
|cons h t ih=>rw[mS,mS,ih,h.1])
theorem KV.length{kvs:List (κ×V)}{vs:List (κ×Value)}(r:KV kvs vs):kvs.length=vs.length:=sO r
theorem qD2(kvs:List (κ×V))(k:κ):(q4A kvs k).length≤kvs.length:=mT _ _
end
theorem q34{P:Program}{w:World}{k:Key}{u:Value}(r:RelV (kV k) u):(jB P w).is k u=true:=by(
cases k with
|inl i=>obtain⟨t,e⟩:=(show ∃t,u=Value.int i t from r);subst e;exact q8V P w i t
|inr x=>obtain⟨t,e⟩:=(show ∃t,u=Value.str x t from r);subst e;exact q8W P w x t)
theorem q79{P:Program}{w:World}:∀{ks:List Key} {us:List Value},Vals (ks.map kV) us→ItemsAre (jB P w) ks us
| [],_,r=>by rw[nK]at r;cases r;exact .nil
|k::ks,_,r=>by
 rw[mS]at r;cases r with
 |cons h t=>exact .cons (q34 h) (q79 t)
noncomputable abbrev KT(H:Hp):List (List Key×V)→List (List Key×Addr×Value)→Prop:=Paired λp q=>p.1=q.1∧H q.2.1=some (.tup (p.1.map kV))∧RelV p.2 q.2.2
theorem KT.val{H:Hp}{kvs:List (List Key×V)}{xs:List (List Key×Addr×Value)}(r:KT H kvs xs)(k:List Key):RelO (valV kvs k) ((atKey xs k).map (·.2)):=by(
induction r with
|nil=>exact True.intro
|@cons p q ps qs h t ih=>
 obtain⟨h1,_,h2⟩:=h;by_cases e:p.1=k
 ·have e':q.1=k:=h1.symm.trans e;have b:atKey (q::qs) k=some q.2:=by simp[atKey,g7,e']
  rw[vH e,b];exact h2
 have e':¬q.1=k:=λz=>e (h1.trans z);have b:atKey (q::qs) k=atKey qs k:=by simp[atKey,g7,e']
 rw[uS e,b];exact ih)
theorem KT.repl{H:Hp}{kvs:List (List Key×V)}{xs:List (List Key×Addr×Value)}(r:KT H kvs xs)(k:List Key){y:V}{u:Value}(ry:RelV y u):
 KT H (kvs.map λkv=>if kv.1=k then(kv.1,y)else kv) (xs.map (putAt k u)):=by(
induction r with
|nil=>exact .nil
|@cons p q ps qs h t ih=>
 rw[mS,mS];refine .cons ?_ ih;obtain⟨h1,h2,h3⟩:=h;unfold putAt;by_cases e:p.1=k
 ·rw[kG e,kG (h1.symm.trans e)];exact⟨h1,h2,ry⟩
 rw[kC e,kC (λz=>e (h1.trans z))];exact⟨h1,h2,h3⟩)
theorem KT.put{H:Hp}{kvs:List (List Key×V)}{xs:List (List Key×Addr×Value)}(r:KT H kvs xs)(k:List Key){b:Addr}{y:V}{u:Value}(hb:H b=some (.tup (k.map kV)))(ry:RelV y u):
 KT H (putK kvs k y) (storedH xs k b u):=by(
have e:(kvs.any λkv=>decide (kv.1=k))=(atKey xs k).isSome:=by rw[q5B,(r.val k).isSome_eq,cO]
unfold putK storedH
rw[e]
by_cases q:(atKey xs k).isSome=true
·rw[kG q,kG q];exact r.repl k ry
rw[kC q,kC q];exact Paired.snoc r ⟨rfl,hb,ry⟩)
theorem KT.keeps{H H':Hp}{kvs:List (List Key×V)}{xs:List (List Key×Addr×Value)}(r:KT H kvs xs)(ht:∀b ys,H b=some (.tup ys)→H' b=some (.tup ys)):KT H' kvs xs:=Paired.mapP r λ_ _ z=>⟨z.1,ht _ _ z.2.1,z.2.2⟩
section
variable{P:Program}{w:World}{H:Hp}{h:Heap}{a:Addr}
theorem qFY{u:HO}(ok:HOk P w H h)(e:Rd H a u):jR P w H h a u:=e.ok ok
theorem q4B{kvs:List (Key×V)}(ok:HOk P w H h)(e:Rd H a (.dK kvs)):kvs.length≤sizeLine∧(a==sysModules)=false∧∃vs,KV kvs vs∧h.DictOf (jB P w) a vs:=show jR P w H h a (.dK kvs)from qFY ok e
theorem q5C{kvs:List (Key×V)}(ok:HOk P w H h)(e:H a=some (.dK kvs)):kvs.length≤sizeLine∧(a==sysModules)=false∧∃vs,KV kvs vs∧h.DictOf (jB P w) a vs:=q4B ok (.inl e)
theorem q3S{ks:List Key}(ok:HOk P w H h)(e:H a=some (.tup (ks.map kV))):(tupleKind (jB P w)).is h ks a:=by obtain⟨_,its,r,o,h1,h2,n,h3⟩:=(show jR P w H h a (.tup (ks.map kV))from ok a _ e);exact⟨o,its.toArray,n,h1,h2,h3,by simpa using q79 r⟩
theorem q5D{kvs:List (List Key×V)}(ok:HOk P w H h)(e:Rd H a (.dT kvs)):kvs.length≤sizeLine∧(a==sysModules)=false∧∃xs,KT H kvs xs∧h.DictOfH (tupleKind (jB P w)) a xs:=by(
obtain⟨z,y,xs,r,o,es,ep,h1,h2,h3,h4,h5⟩:=(show jR P w H h a (.dT kvs)from qFY ok e)
refine⟨z,y,xs,r,o,es,ep,h1,h2,h3,h4,λx hx=>?_,h5⟩
have all:∀{l:List (List Key×V)} {m:List (List Key×Addr×Value)},KT H l m→∀x∈m,(tupleKind (jB P w)).is h x.1 x.2.1:=by
 intro l m q;induction q with
 |nil=>intro x hx;exact nomatch hx
 |@cons p q ps qs hq t ih=>
  intro x hx;rcases kL.mp hx with e|hx
  ·subst e;exact q3S ok (by rw[←hq.1];exact hq.2.1)
  exact ih x hx
exact all r x hx)
theorem qIW{kvs:List (List Key×V)}(ok:HOk P w H h)(e:H a=some (.dT kvs)):kvs.length≤sizeLine∧(a==sysModules)=false∧∃xs,KT H kvs xs∧h.DictOfH (tupleKind (jB P w)) a xs:=q5D ok (.inl e)
end
noncomputable def DGet(H:Hp)(a:Addr)(y:V)(r:Option V):Prop:=(∃kvs k,Rd H a (.dK kvs)∧y=kV k∧r=valV kvs k)∨∃kvs k b,Rd H a (.dT kvs)∧y=.ref b∧H b=some (.tup (k.map kV))∧r=valV kvs k
noncomputable def DPut(H:Hp)(a:Addr)(y v:V)(H':Hp):Prop:=(∃kvs k,H a=some (.dK kvs)∧y=kV k∧kvs.length<sizeLine∧H'=upd H a (.dK (putK kvs k v)))∨∃kvs k b,H a=some (.dT kvs)∧y=.ref b∧H b=some (.tup (k.map kV))∧kvs.length<sizeLine∧H'=upd H a (.dT (putK kvs k v))
theorem DGet.k{H:Hp}{a:Addr}{kvs:List (Key×V)}{k:Key}(e:H a=some (.dK kvs)):DGet H a (kV k) (valV kvs k):=.inl ⟨kvs,k,.inl e,rfl,rfl⟩
theorem DPut.k{H:Hp}{a:Addr}{kvs:List (Key×V)}{k:Key}{v:V}(e:H a=some (.dK kvs))(hl:kvs.length<sizeLine):DPut H a (kV k) v (upd H a (.dK (putK kvs k v))):=.inl ⟨kvs,k,e,rfl,hl,rfl⟩
section
variable{X:Cx}{pins:List (Addr×Obj)}{σ:St}{H:Hp}{s:Shared}{a:Addr}{y v:V}{u r:Value}{o:Option V}{A:Around}{E:Value→Shared→Prop}
theorem Inv.big(I:Inv X pins σ H s):sysModules<s.heap.objs.size:=by have h:mainGlobals<s.heap.objs.size:=(I.mod.glob.keeps I.bk).lt;exact Nat.lt_trans (by decide) h
theorem qBV{Q:Value→Shared→Prop}(hu:A.units+1<cLine)(I:Inv X pins σ H s)(g:DGet H a y (some v))(ry:RelV y u)(h:∀w' s',Inv X pins σ H s'→RelV v w'→Q w' s'):
 wpAny (model X.prog X.w) A (getItem (.ref a) u) Q E s:=by(
rcases g with⟨kvs,k,e,ey,l⟩|⟨kvs,k,b,e,ey,eb,l⟩
·subst ey;obtain⟨z,hd,vs,rel,dd⟩:=q4B I.hok e;obtain⟨w',hw,rw'⟩:=RelO.some_of (v:=v) (o:=valueAt vs k) (by rw[l];exact rel.val k);exact wpAny_getItem_of (q34 ry) dd.mapOf hw (h w' _ (I.tok _) rw')
subst ey
cases(show u=Value.ref b from ry)
obtain⟨z,hd,xs,rel,dd⟩:=q5D I.hok e
obtain⟨w',hw,rw'⟩:=RelO.some_of (v:=v) (o:=(atKey xs k).map (·.2)) (by rw[l];exact rel.val k)
obtain⟨p,hp,hp2⟩:=mF.mp hw
refine wpAny_getItem_heap (d4 hu) (q3S I.hok eb) dd hp ?_
rw[hp2]
exact h w' _ (I.tok _) rw')
theorem d_in{Q:Value→Shared→Prop}(hu:A.units+1<cLine)(I:Inv X pins σ H s)(g:DGet H a y o)(ry:RelV y u)(h:∀s',Inv X pins σ H s'→Q (.bool o.isSome) s'):
 wpAny (model X.prog X.w) A (compareOp .In u (.ref a)) Q E s:=by(
rcases g with⟨kvs,k,e,ey,l⟩|⟨kvs,k,b,e,ey,eb,l⟩
·subst ey;obtain⟨z,hd,vs,rel,dd⟩:=q4B I.hok e;refine wpAny_in_of (q34 ry) hd dd.mapOf ?_;rw[←(rel.val k).isSome_eq,←l];exact h _ (I.tok _)
subst ey
cases(show u=Value.ref b from ry)
obtain⟨z,hd,xs,rel,dd⟩:=q5D I.hok e
refine wpAny_in_heap (d4 hu) (q3S I.hok eb) hd dd ?_
have q:=(rel.val k).isSome_eq
rw[cO]at q
rw[←q,←l]
exact h _ (I.tok _))
theorem qEN{Q:Value→Shared→Prop}(hu:A.units+1<cLine)(I:Inv X pins σ H s)(g:DGet H a y o)(ry:RelV y u)(h:∀s',Inv X pins σ H s'→Q (.bool (!o.isSome)) s'):
 wpAny (model X.prog X.w) A (compareOp .NotIn u (.ref a)) Q E s:=by(
rcases g with⟨kvs,k,e,ey,l⟩|⟨kvs,k,b,e,ey,eb,l⟩
·subst ey;obtain⟨z,hd,vs,rel,dd⟩:=q4B I.hok e;refine wpAny_notIn_of (q34 ry) hd dd.mapOf ?_;rw[←(rel.val k).isSome_eq,←l];exact h _ (I.tok _)
subst ey
cases(show u=Value.ref b from ry)
obtain⟨z,hd,xs,rel,dd⟩:=q5D I.hok e
refine wpAny_notIn_heap (d4 hu) (q3S I.hok eb) hd dd ?_
have q:=(rel.val k).isSome_eq
rw[cO]at q
rw[←q,←l]
exact h _ (I.tok _))
theorem q4W{h':Heap}{t':Nat}{ob:HO}(I:Inv X pins σ H s)(mu:Mut (H a))(hs:Heap.SameBut a s.heap h')(he:∃q,h'.get? a=some q)(new:jR X.prog X.w (upd H a ob) h' a ob):
 Inv X pins σ (upd H a ob) { s with heap:=h',toks:=t' }:=I.write (x:=a) (e:=a) mu (.inl rfl) (λb q hb z=>(hs.2 b hb).trans z) he new
theorem qA7{P:Program}{w:World}{H':Hp}{h':Heap}{kvs:List (Key×V)}{vs:List (Key×Value)}(z:kvs.length≤sizeLine)(hd:(a==sysModules)=false)(rel:KV kvs vs)(dd:h'.DictOf (jB P w) a vs):
 jR P w H' h' a (.dK kvs):=⟨z,hd,vs,rel,dd⟩
theorem qBW{H':Hp}{Q:Unit→Shared→Prop}(hu:A.units+1<cLine)(I:Inv X pins σ H s)(g:DPut H a y v H')(ry:RelV y u)(rv:RelV v r)(h:∀s',Inv X pins σ H' s'→Q () s'):
 wpAny (model X.prog X.w) A (setItem (.ref a) u r) Q E s:=by(
rcases g with⟨kvs,k,e,ey,l,eH⟩|⟨kvs,k,b,e,ey,eb,l,eH⟩
·subst ey eH;obtain⟨z,hd,vs,rel,dd⟩:=q5C I.hok e;have hz:vs.length≤sizeLine:=by rw[←rel.length];exact z
 have hl:(putK kvs k v).length≤sizeLine:=by have:=q15 kvs k v;omega
 refine wpAny_setItem_pairs (hsz:=hz) (q34 ry) dd λh' dd' hs=>h _ ?_;have he:∃q,h'.get? a=some q:=let⟨q,_,_,hq,_⟩:=dd';⟨q,hq⟩
 exact q4W I (by rw[e];exact True.intro) hs he (qA7 hl hd (rel.put k rv) dd')
subst ey eH
cases(show u=Value.ref b from ry)
obtain⟨z,hd,xs,rel,dd⟩:=qIW I.hok e
have hz:xs.length≤sizeLine:=by rw[←sO rel];exact z
have hl:(putK kvs k v).length≤sizeLine:=by have:=q15 kvs k v;omega
refine wpAny_setItem_heap (hsz:=hz) (d4 hu) (q3S I.hok eb) dd λh' dd' hs=>h _ ?_
obtain⟨q,es,ep,hq,h2,h3,h4,_,h5⟩:=dd'
refine q4W I (by rw[e];exact True.intro) hs ⟨q,hq⟩ ⟨hl,hd,_,(rel.put k eb rv).keeps λc ys ec=>?_,q,es,ep,hq,h2,h3,h4,h5⟩
rw[qE (jP ec e (λz=>nomatch z))]
exact ec)
end
section
variable{X:Cx}{pins:List (Addr×Obj)}{σ:St}{H:Hp}{s:Shared}{a:Addr}{kvs:List (Key×V)}{k:Key}{u:Value}{A:Around}{E:Value→Shared→Prop}
theorem qFZ{v:V}{more:List Value}{Q:Value→Shared→Prop}(I:Inv X pins σ H s)(e:H a=some (.dK kvs))(ry:RelV (kV k) u)(l:valV kvs k=some v)(hm:more=[]∨∃x,more=[x])
 (h:∀w' s',Inv X pins σ (upd H a (.dK (q4A kvs k))) s'→RelV v w'→Q w' s'):wpAny (model X.prog X.w) A (call (.builtin "dict.pop") (.ref a::u::more)) Q E s:=by(
obtain⟨z,hd,vs,rel,dd⟩:=q5C I.hok e
obtain⟨w',hw,rw'⟩:=RelO.some_of (v:=v) (o:=valueAt vs k) (by rw[←l];exact rel.val k)
have hp:(keyPart u).isSome=true:=by
 cases k with
 |inl i=>obtain⟨t,q⟩:=(show ∃t,u=Value.int i t from ry);subst q;rfl
 |inr x=>obtain⟨t,q⟩:=(show ∃t,u=Value.str x t from ry);subst q;rfl
have ha:argsOk "dict.pop" ⟨.ref a::u::more,[]⟩:=by
 rcases hm with q|⟨x,q⟩
 ·subst q;exact PySem.F.args_dict_pop_2 _ _
 subst q;exact cY _ _ _
refine cF rB dd.typeIs pH ha (meets_dict_pop_there (jB X.prog X.w) a (q34 ry) more hm hp)
 ⟨vs,w',dd,by rw[←rel.length];exact z,hw,λh' dd' hs=>h w' _ ?_ rw'⟩
have he:∃q,h'.get? a=some q:=let⟨q,_,_,hq,_⟩:=dd';⟨q,hq⟩
exact q4W I (by rw[e];exact True.intro) hs he (qA7 (mE (qD2 kvs k) z) hd (rel.drop k) dd'))
theorem qGQ{r:Value}{Q:Value→Shared→Prop}(I:Inv X pins σ H s)(e:H a=some (.dK kvs))(ry:RelV (kV k) u)(l:valV kvs k=none)(h:∀s',Inv X pins σ H s'→Q r s'):
 wpAny (model X.prog X.w) A (call (.builtin "dict.pop") [.ref a,u,r]) Q E s:=by(
obtain⟨z,hd,vs,rel,dd⟩:=q5C I.hok e
have hn:valueAt vs k=none:=RelO.none_of (by rw[←l];exact rel.val k)
have hp:(keyPart u).isSome=true:=by
 cases k with
 |inl i=>obtain⟨t,q⟩:=(show ∃t,u=Value.int i t from ry);subst q;rfl
 |inr x=>obtain⟨t,q⟩:=(show ∃t,u=Value.str x t from ry);subst q;rfl
exact cF rB dd.typeIs pH (cY _ _ _) (meets_dict_pop_default (jB X.prog X.w) a (q34 ry) hd hp r) ⟨vs,dd,hn,h _ (I.tok _)⟩)
theorem qIX{Q:Value→Shared→Prop}(I:Inv X pins σ H s)(e:Rd H a (.dK kvs))(h:∀t s',Inv X pins σ H s'→Q (.int kvs.length t) s'):wpAny (model X.prog X.w) A (call (.builtin "len") [.ref a]) Q E s:=by(
obtain⟨z,hd,vs,rel,dd⟩:=q4B I.hok e
refine call_len_dict hd dd (by rw[←rel.length];rw[gO]at z;omega) ?_
rw[←rel.length]
exact h _ _ (I.tok _))
end
noncomputable def NoSl(i:Expr):Prop:=∀ov iv,subscripted i false ov iv=operate [ov,iv] (getItem ov iv)
theorem qEO{prog:Program}{w:World}{A:Around}{E:Value→Shared→Prop}{s:Shared}{env:Env}{value slice:Expr}{pos:Pos}{T id:String}{Q:Value→Shared→Prop}
 (hl:typeLookup (.type T) "__getitem__"=pure (some (.builtin id))) (hs:NoSl slice)
 (h:wpAny (model prog w) A (eval value env) (λo s₁=>wpAny (model prog w) A (eval slice env) (λi s₂=>s₂.TypeIs o T∧wpAny (model prog w) A (getItem o i) Q E s₂) E s₁) E s):
 wpAny (model prog w) A (eval (.Subscript value slice pos) env) Q E s:=by(
refine lJ (gU h (λo s₁ h₁=>gU h₁ (λi s₂ h₂=>?_) λ_ _ x=>x) λ_ _ x=>x)
obtain⟨hT,h₂⟩:=h₂
unfold subscriptTail
refine kA ?_
rw[getitemInPython_of_ne hT.not_modules]
refine kA (wpAny_specialOf hT hl ?_)
have fin:wpAny (model prog w) A (subscripted slice false o i) (λr s₃=>wpAny (model prog w) A (letTemporaryGo value o r >>= λ_=>pure r) Q E s₃) E s₂:=by rw[hs o i];exact wpAny_operating (gU h₂ (λr s₃ h₃=>kA (wpAny_letTemporaryGo (kU h₃))) λ_ _ x=>x)
first
 |exact kU (kA fin)
 |exact kA (kU (kA fin))
 |exact kA fin)
theorem q95{X:Cx}{pins:List (Addr×Obj)}{σ:St}{H:Hp}{s:Shared}{a:Addr}{y:V}{o:Option V}(I:Inv X pins σ H s)(g:DGet H a y o):s.TypeIs (.ref a) "dict":=by(
rcases g with⟨kvs,k,e,_,_⟩|⟨kvs,k,b,e,_,_,_⟩
·obtain⟨_,_,vs,_,dd⟩:=q4B I.hok e;exact dd.typeIs
obtain⟨_,_,xs,_,dd⟩:=q5D I.hok e
exact dd.typeIs)
noncomputable def qIY(td ty:TE):TE:=λσ H Q=>td σ H λx H1=>ty σ H1 λy H2=>∃a v,x=.ref a∧DGet H2 a y (some v)∧Q v H2
noncomputable def tDIn(ty td:TE):TE:=λσ H Q=>ty σ H λy H1=>td σ H1 λx H2=>∃a o,x=.ref a∧DGet H2 a y o∧Q (.bl o.isSome) H2
noncomputable def qEP(ty td:TE):TE:=λσ H Q=>ty σ H λy H1=>td σ H1 λx H2=>∃a o,x=.ref a∧DGet H2 a y o∧Q (.bl (!o.isSome)) H2
noncomputable def qIZ(td ty tv:TE):TS:=λD σ H=>tv σ H λv H1=>td σ H1 λx H2=>ty σ H2 λy H3=>∃a H4,x=.ref a∧DPut H3 a y v H4∧D.nx σ H4
section
variable{X:Cx}{o i e value:Expr}{pos pos' tpos:Pos}{td ty tv:TE}
theorem qZ(hu:X.A.units+1<cLine)(ho:PE X o td)(hi:PE X i ty)(hs:NoSl i):PE X (.Subscript o i pos) (qIY td ty):=by(
intro pins s σ H Q I h
refine qEO PySem.F.slot_dict_getitem.lookup hs (thn (ho pins s σ H _ I h) λu s1 ⟨x,H1,I1,rx,q1⟩=>thn (hi pins s1 σ H1 _ I1 q1) λiv s2 hZ=>?_)
obtain⟨y,H2,I2,ry,a,v,ex,g,q2⟩:=hZ
subst ex
obtain rfl:u=Value.ref a:=rx
exact⟨q95 I2 g,qBV hu I2 g ry λw' s3 I3 rw'=>⟨v,H2,I3,rw',q2⟩⟩)
theorem q5E(hu:X.A.units+1<cLine)(hi:PE X i ty)(ho:PE X o td):PC X .In i o (tDIn ty td):=by(
intro pins s σ H Q I h
refine thn (hi pins s σ H _ I h) λiv s1 ⟨y,H1,I1,ry,q1⟩=>thn (ho pins s1 σ H1 _ I1 q1) λu s2 hZ=>?_
obtain⟨x,H2,I2,rx,a,ov,ex,g,q2⟩:=hZ
subst ex
obtain rfl:u=Value.ref a:=rx
exact d_in hu I2 g ry λs3 I3=>⟨.bl ov.isSome,H2,I3,rfl,q2⟩)
theorem qBX(hu:X.A.units+1<cLine)(hi:PE X i ty)(ho:PE X o td):PC X .NotIn i o (qEP ty td):=by(
intro pins s σ H Q I h
refine thn (hi pins s σ H _ I h) λiv s1 ⟨y,H1,I1,ry,q1⟩=>thn (ho pins s1 σ H1 _ I1 q1) λu s2 hZ=>?_
obtain⟨x,H2,I2,rx,a,ov,ex,g,q2⟩:=hZ
subst ex
obtain rfl:u=Value.ref a:=rx
exact qEN hu I2 g ry λs3 I3=>⟨.bl (!ov.isSome),H2,I3,rfl,q2⟩)
theorem vW(hu:X.A.units+1<cLine)(ho:PE X o td)(hi:PE X i ty)(hv:PE X value tv)(hs:swapsWith value (some (.Subscript o i pos')) pos.line X.env=pure false):
 PS X (.Assign [.Subscript o i pos'] value pos) (qIZ td ty tv):=by(
intro pins s σ H D I h
refine wpAny_Assign_Subscript (thn (hv pins s σ H _ I h) λr s1 ⟨v,H1,I1,rv,q1⟩=>thn (ho pins s1 σ H1 _ I1 q1) λu s2 ⟨x,H2,I2,rx,q2⟩=>thn (hi pins s2 σ H2 _ I2 q2) λiv s3 hZ=>?_) hs
obtain⟨y,H3,I3,ry,a,H4,ex,g,q3⟩:=hZ
subst ex
obtain rfl:u=Value.ref a:=rx
exact qBW hu I3 g ry rv λs4 I4=>⟨σ,H4,I4,q3⟩)
end
theorem q96{P:Program}{w:World}{H:Hp}(h:Heap)(hb:sysModules<h.objs.size):jR P w H (h.push { cls:=.type "dict",data:=.dict #[] }) h.objs.size (.dK []):=⟨mI _,g9.mpr (dO (kZ hb)),[],.nil,Heap.DictOf.new h⟩
noncomputable def qGR:TE:=λ_ H Q=>∀p,H p=none→Q (.ref p) (upd H p (.dK []))
section
variable{X:Cx}{pos:Pos}
theorem zG:PE X (.Dict [] [] pos) qGR:=λpins s σ H Q I h=>wpAny_Dict_empty ⟨.ref s.heap.objs.size,_,I.laid (a:=s.heap.objs.size) (o:=.dK []) (t':=s.toks) (λ_ _ q=>hX _ q) (kB _) (q96 s.heap I.big),rfl,h _ (I.hok.fresh (kB _))⟩
end
noncomputable def qA8:List (TE×TE)→St→Hp→(List (V×V)→Hp→Prop)→Prop
| [],_,H,Q=>Q [] H
|(tk,tv)::r,σ,H,Q=>tk σ H λx H1=>tv σ H1 λy H2=>qA8 r σ H2 λps H3=>Q ((x,y)::ps) H3
noncomputable abbrev VV:List (V×V)→List (Value×Value)→Prop:=Paired λp q=>RelV p.1 q.1∧RelV p.2 q.2
noncomputable def PPs(X:Cx)(pos:Pos)(keys:List (Option Expr))(values:List Expr)(trs:List (TE×TE)):Prop:=∀(pins:List (Addr×Obj)) (s:Shared) (σ:St) (H:Hp) (Q:List (V×V)→Hp→Prop),Inv X pins σ H s→qA8 trs σ H Q→wpAny (model X.prog X.w) X.A (evalPairs (pairTrees keys values X.env pos)) (λvs s'=>∃ps H',Inv X pins σ H' s'∧VV ps vs∧Q ps H') X.xe s
theorem qAZ{X:Cx}{pos:Pos}:PPs X pos [] [] []:=λpins s σ H Q I h=>pairTrees_nil_walk ⟨[],H,I,.nil,h⟩
theorem q0D{X:Cx}{pos:Pos}{k v:Expr}{ks:List (Option Expr)}{vs:List Expr}{tk tv:TE}{trs:List (TE×TE)}(hk:PE X k tk)(hv:PE X v tv)(hr:PPs X pos ks vs trs):
 PPs X pos (some k::ks) (v::vs) ((tk,tv)::trs):=λpins s σ H Q I h=>
 pairTrees_cons_walk (thn (hk pins s σ H _ I h) λu s1 ⟨x,H1,I1,rx,q1⟩=>thn (hv pins s1 σ H1 _ I1 q1) λw2 s2 ⟨y,H2,I2,ry,q2⟩=>thn (hr pins s2 σ H2 _ I2 q2) λws s3 ⟨ps,H3,I3,rel,q3⟩=>⟨(x,y)::ps,H3,I3,.cons ⟨rx,ry⟩ rel,q3⟩)
noncomputable def q0H(kvs more:List (Key×V)):List (Key×V):=more.foldl (λacc kv=>putK acc kv.1 kv.2) kvs
theorem KV.merge:∀{more:List (Key×V)} {rs:List (Key×Value)} {kvs:List (Key×V)} {vs:List (Key×Value)},KV more rs→KV kvs vs→KV (q0H kvs more) (merged vs rs):=by(
intro more rs kvs vs r
unfold KV at r
induction r generalizing kvs vs with
|nil=>intro q;exact q
|@cons p q ps qs h t ih=>
 intro r0;have e:KV (putK kvs p.1 p.2) (stored vs q.1 q.2):=by have:=r0.put p.1 h.2;rw[←h.1];exact this
 exact ih e)
theorem q2E:∀(more kvs:List (Key×V)),(q0H kvs more).length≤kvs.length+more.length
| [],kvs=>by show kvs.length≤kvs.length+0;omega
|p::r,kvs=>by have h1:=q2E r (putK kvs p.1 p.2);have h2:=q15 kvs p.1 p.2;show(q0H (putK kvs p.1 p.2) r).length≤_;rw[mY];omega
theorem q5F{P:Program}{w:World}:∀{kvs:List (Key×V)} {ws:List (Value×Value)},VV (kvs.map λkv=>(kV kv.1,kv.2)) ws→∃rs,Carries (jB P w) ws rs∧KV kvs rs
| [],_,r=>by rw[nK]at r;cases r;exact⟨[],True.intro,.nil⟩
|p::kvs,_,r=>by
 rw[mS]at r;cases r with
 |@cons a b as bs h t=>obtain⟨rs,c,q⟩:=q5F (P:=P) (w:=w) t;obtain⟨b1,b2⟩:=b;exact⟨(p.1,b2)::rs,⟨q34 h.1,rfl,c⟩,.cons ⟨rfl,h.2⟩ q⟩
noncomputable def qG0(trs:List (TE×TE)):TE:=λσ H Q=>∀p,H p=none→qA8 trs σ (upd H p (.dK [])) λps H2=>H2 p=some (.dK [])∧∃kvs:List (Key×V),ps=kvs.map (λkv=>(kV kv.1,kv.2))∧kvs.length≤15∧Q (.ref p) (upd H2 p (.dK (q0H [] kvs)))
theorem qB0{X:Cx}{pos:Pos}{keys:List (Option Expr)}{values:List Expr}{trs:List (TE×TE)}(h:PPs X pos keys values trs)(hall:keys.all (·.isSome)=true)(hl:keys.length=values.length)(h0:keys≠[])
 (h15:keys.length≤15):PE X (.Dict keys values pos) (qG0 trs):=by(
intro pins s σ H Q I q
have hn:=I.hok.fresh (kB s.heap.objs.size)
have I1:=I.laid (a:=s.heap.objs.size) (o:=.dK []) (h':=s.heap.push { cls:=.type "dict",data:=.dict #[] }) (t':=s.toks) (λ_ _ q=>hX _ q) (kB _) (q96 s.heap I.big)
refine wpAny_Dict_walk (knd:=jB X.prog X.w) hall hl h0 h15 (thn (h pins _ σ _ _ I1 (q _ hn)) λws s2 hZ=>?_)
obtain⟨ps,H2,I2,rel,e,kvs,ep,lk,q2⟩:=hZ
subst ep
obtain⟨rs,c,rk⟩:=q5F (P:=X.prog) (w:=X.w) rel
obtain⟨z,hd,vs0,r0,dd⟩:=q5C I2.hok e
cases r0
refine⟨rs,c,dd,λh' dd' hs=>⟨.ref s.heap.objs.size,_,?_,rfl,q2⟩⟩
have hz:(q0H [] kvs).length≤sizeLine:=by have h1:=q2E kvs [];rw[pP]at h1;rw[gO];omega
have he:∃q,h'.get? s.heap.objs.size=some q:=let⟨q,_,_,hq,_⟩:=dd';⟨q,hq⟩
exact q4W I2 (by rw[e];exact True.intro) hs he (qA7 hz hd (rk.merge .nil) dd'))
structure M1(X:Cx)(o:Expr)(m:Str)(apos:Pos)(e:Expr)(cpos:Pos):Prop where
base:attributeBase o m X.env (eval o X.env)=eval o X.env
few:((backTo cpos (starEach [e] X.env)).all (λx=>!x.1)&&(backToKw cpos (keywordEach [] X.env)).all (λx=>x.1.isSome)
 &&decide (([e]:List Expr).length+([]:List Keyword).length+(if([]:List Keyword).isEmpty then 0 else 1)<30))=true
line:(apos.endLine==cpos.line)=true
trees:backTo cpos (starEach [e] X.env)=[(false,eval e X.env)]
structure M2(X:Cx)(o:Expr)(m:Str)(apos:Pos)(e f:Expr)(cpos:Pos):Prop where
base:attributeBase o m X.env (eval o X.env)=eval o X.env
few:((backTo cpos (starEach [e,f] X.env)).all (λx=>!x.1)&&(backToKw cpos (keywordEach [] X.env)).all (λx=>x.1.isSome)
 &&decide (([e,f]:List Expr).length+([]:List Keyword).length+(if([]:List Keyword).isEmpty then 0 else 1)<30))=true
line:(apos.endLine==cpos.line)=true
trees:backTo cpos (starEach [e,f] X.env)=[(false,eval e X.env),(false,eval f X.env)]
noncomputable def IsD(H:Hp)(a:Addr):Prop:=(∃kvs,Rd H a (.dK kvs))∨∃kvs,Rd H a (.dT kvs)
theorem qA9{X:Cx}{pins:List (Addr×Obj)}{σ:St}{H:Hp}{s:Shared}{a:Addr}(I:Inv X pins σ H s)(d:IsD H a):
 s.TypeIs (.ref a) "dict"∧(∀b,Value.ref a=.ref b→∃ob,s.heap.get? b=some ob∧ob.dict=none)∧(a==sysModules)=false:=by(
rcases d with⟨kvs,e⟩|⟨kvs,e⟩
·obtain⟨_,hd,vs,_,dd⟩:=q4B I.hok e;refine⟨dd.typeIs,λb q=>?_,hd⟩;cases q;obtain⟨ob,_,_,h1,h2,_⟩:=dd;exact⟨ob,h1,h2.2.1⟩
obtain⟨_,hd,xs,_,dd⟩:=q5D I.hok e
refine⟨dd.typeIs,λb q=>?_,hd⟩
cases q
obtain⟨ob,_,_,h1,h2,_⟩:=dd
exact⟨ob,h1,h2.2.1⟩)
section
variable{X:Cx}{pins:List (Addr×Obj)}{σ:St}{H:Hp}{s:Shared}{a:Addr}{y d:V}{u r:Value}{o:Option V}{A:Around}{E:Value→Shared→Prop}
theorem qGS{Q:Value→Shared→Prop}(hu:A.units+1<cLine)(I:Inv X pins σ H s)(g:DGet H a y o)(ry:RelV y u)(h:∀w' s',Inv X pins σ H s'→RelV (o.getD .non) w'→Q w' s'):
 wpAny (model X.prog X.w) A (call (.builtin "dict.get") [.ref a,u]) Q E s:=by(
rcases g with⟨kvs,k,e,ey,l⟩|⟨kvs,k,b,e,ey,eb,l⟩
·subst ey;obtain⟨z,hd,vs,rel,dd⟩:=q4B I.hok e;refine cF wP dd.typeIs pI (cZ _ _) (meets_dict_get (jB X.prog X.w) a (q34 ry) hd) ⟨_,dd.mapOf,h _ _ (I.tok _) ?_⟩;rw[l];exact(rel.val k).getD rfl
subst ey
cases(show u=Value.ref b from ry)
obtain⟨z,hd,xs,rel,dd⟩:=q5D I.hok e
refine cF wP dd.typeIs pI (cZ _ _) (meetsH_dict_get (tupleKind (jB X.prog X.w)) a b hd) ⟨d4 hu,k,xs,q3S I.hok eb,dd,h _ _ (I.tok _) ?_⟩
rw[l]
exact(rel.val k).getD rfl)
end
noncomputable def qGT(td ty:TE):TE:=λσ H Q=>td σ H λx H1=>∃a,x=.ref a∧IsD H1 a∧ty σ H1 λy H2=>∃o,DGet H2 a y o∧Q (o.getD .non) H2
noncomputable def qGU(td ty:TE):TE:=λσ H Q=>td σ H λx H1=>∃a,x=.ref a∧IsD H1 a∧ty σ H1 λy H2=>∃kvs k v,H2 a=some (.dK kvs)∧y=kV k∧valV kvs k=some v∧Q v (upd H2 a (.dK (q4A kvs k)))
noncomputable def qGV(td ty tx:TE):TE:=λσ H Q=>td σ H λx H1=>∃a,x=.ref a∧IsD H1 a∧ty σ H1 λy H2=>tx σ H2 λz H3=>∃kvs k,H3 a=some (.dK kvs)∧y=kV k∧(∀v,valV kvs k=some v→Q v (upd H3 a (.dK (q4A kvs k))))∧(valV kvs k=none→Q z H3)
section
variable{X:Cx}{o e f:Expr}{apos cpos:Pos}{td ty tx:TE}
theorem q97(hu:X.A.units+1<cLine)(ho:PE X o td)(he:PE X e ty)(m:M1 X o "get" apos e cpos):PE X (.Call (.Attribute o "get" apos) [e] [] cpos) (qGT td ty):=by(
intro pins s σ H Q I h
refine cP m.base m.few m.line dX wP PySem.F.type_dict_get (thn (ho pins s σ H _ I h) λu s1 hZ=>?_)
obtain⟨x,H1,I1,rx,a,ex,d,q1⟩:=hZ
subst ex
obtain rfl:u=Value.ref a:=rx
obtain⟨t1,t2,_⟩:=qA9 I1 d
refine⟨t1,t2,?_⟩
rw[m.trees]
refine dE rfl (rJ (d0 (thn (he pins s1 σ H1 _ I1 q1) λiv s2 ⟨y,H2,I2,ry,ov,g,q2⟩=>wJ ?_)))
exact qGS hu I2 g ry λw' s3 I3 rw'=>⟨_,H2,I3,rw',q2⟩)
theorem qD3(ho:PE X o td)(he:PE X e ty)(m:M1 X o "pop" apos e cpos):PE X (.Call (.Attribute o "pop" apos) [e] [] cpos) (qGU td ty):=by(
intro pins s σ H Q I h
refine cP m.base m.few m.line dX rB pT (thn (ho pins s σ H _ I h) λu s1 hZ=>?_)
obtain⟨x,H1,I1,rx,a,ex,d,q1⟩:=hZ
subst ex
obtain rfl:u=Value.ref a:=rx
obtain⟨t1,t2,_⟩:=qA9 I1 d
refine⟨t1,t2,?_⟩
rw[m.trees]
refine dE rfl (rJ (d0 (thn (he pins s1 σ H1 _ I1 q1) λiv s2 ⟨y,H2,I2,ry,kvs,k,v,ea,ey,l,q2⟩=>wJ ?_)))
subst ey
exact qFZ I2 ea ry l (.inl rfl) λw' s3 I3 rw'=>⟨v,_,I3,rw',q2⟩)
theorem qD4(ho:PE X o td)(he:PE X e ty)(hf:PE X f tx)(m:M2 X o "pop" apos e f cpos):PE X (.Call (.Attribute o "pop" apos) [e,f] [] cpos) (qGV td ty tx):=by(
intro pins s σ H Q I h
refine cP m.base m.few m.line dX rB pT (thn (ho pins s σ H _ I h) λu s1 hZ=>?_)
obtain⟨x,H1,I1,rx,a,ex,d,q1⟩:=hZ
subst ex
obtain rfl:u=Value.ref a:=rx
obtain⟨t1,t2,_⟩:=qA9 I1 d
refine⟨t1,t2,?_⟩
rw[m.trees]
refine dE rfl (rJ (d0 (thn (he pins s1 σ H1 _ I1 q1) λiv s2 ⟨y,H2,I2,ry,q2⟩=>d0 (thn (hf pins s2 σ H2 _ I2 q2) λfv s3 ⟨z,H3,I3,rz,kvs,k,ea,ey,q3,q4⟩=>wJ ?_))))
subst ey
cases l:valV kvs k with
|some v=>exact qFZ I3 ea ry l (.inr ⟨fv,rfl⟩) λw' s4 I4 rw'=>⟨v,_,I4,rw',q3 v l⟩
|none=>exact qGQ I3 ea ry l λs4 I4=>⟨z,H3,I4,rz,q4 l⟩)
end
end L2
namespace Att
open PySem PySem.W PySem.Calls PyProof.Rows
theorem q4I{P:Params}{h:Heap}:∀(ns:List Int) (vs:List Value),WellAll P h vs (ns.map WData.int)→IntsAre vs ns:=by(
intro ns
induction ns with
|nil=>intro vs w;rw[nK]at w;cases w;exact .nil
|cons n ns ih=>
 intro vs w;rw[mS]at w;cases w with
 |cons a b=>cases a;exact .cons _ _ (ih _ b))
theorem qBY{l:OpenLaw}{n:Nat}(hn:l.most=some n){P:Params}{h:Heap}{args:List WData}{vals:List Value}
 (hpre:l.row.toRowW.claim.pre args=true) (hwl:WellAll P h vals args):
 ∃a vs ns,vals=[Value.ref a]∧args=[WData.list (ns.map WData.int)]∧h.get? a=some { cls:=.type "list",data:=.seq vs.toArray }∧IntsAre vs ns∧ns.length≤n:=by(
have hsh:WShape.hasAll [] args [.list .int]=true:=(pre_splitW hpre).1
have hc:l.pre.holds [] { args:=args } =true:=(pre_splitW hpre).2
obtain⟨d,r,rfl,h1,h2⟩:=hasAllW_cons hsh
obtain rfl:=hasAllW_nil h2
obtain⟨xs,rfl,h3⟩:=hasW_list h1
obtain⟨ns,rfl⟩:=items_int h3
have hlen:ns.length≤n:=by
 unfold OpenLaw.pre at hc;have h4:(WTm.not (.lt (.lit (.int (n:Int))) (.len (.arg 0)))).holds [] { args:=[.list (ns.map .int)] } =true:=by have h4:=(holds_andW hc).1;rw[hn]at h4;exact h4
 have h5:=condW_of h4 (w_not (w_lt w_lit (w_len_list (w_arg rfl))));rw[hV]at h5;refine Nat.le_of_not_lt λq=>?_;have q':(n:Int)<((ns.length:Nat):Int):=by omega
 first
  |(rw[hI q']at h5;exact absurd h5 (by decide))
  |(simp at h5;omega)
cases hwl with
|cons w1 w2=>
 cases w2;cases w1 with
 |list ho hall=>exact⟨_,_,ns,rfl,rfl,ho,q4I ns _ hall,hlen⟩)
theorem qBZ(l:OpenLaw)(args:List WData):l.row.toRowW.claim.post args (.bool true) args=true:=postW_of (r:=l.row.toRowW) (X:=(true==true))
  (show WShape.has [] (.bool true) .bool=true by first|rfl|decide|simp[WShape.has,WShape.arms,WShape.armsAll])
  (show(WTm.eq .res (.lit (.bool true))).value [] { args:=args,res:=some (.bool true),after:=args } =some (.bool (true==true))from w_eq_bool (w_res rfl) w_lit) rfl
theorem attach_call{l:OpenLaw}{n:Nat}{q:Program}{loose:List Str}{XP:(Str→Option Value)→Heap→Prop}{YP:World→Heap→Prop}{d:DefRec}
 (hn:l.most=some n) (hdf:d.params.defaults=[])
 (call:∀(w:World) (s₀ s₁:Shared) (mg mb:Str→Option Value) (fa:Addr) (o:Obj) (pm cd doc:Value) (a:Addr) (vs:List Value) (ns:List Int),Ground q loose [] XP w s₀ mg mb s₁.heap→YP w s₁.heap→s₁.heap.get? fa=some o→o.data=.func (docDef d.name d.params d.body d.scope pm cd doc)→s₁.heap.CodeRec cd d.name→mg d.name=some (.ref fa)→s₁.heap.get? a=some { cls:=.type "list",data:=.seq vs.toArray }→IntsAre vs ns→ns.length≤n→s₁.gens=#[]→codeAny (model l.prog w) callerA (.call (.ref fa) ⟨[.ref a],[]⟩) (λr s'=>r=.ok (.ret (.bool true))∧OldK s₁.heap s'.heap∧s'.os=s₁.os∧AllBare s'.gens) s₁):
 WalkO q loose XP YP l.row.toRowW d [] (λf vs=>PySem.call f vs):=by(
intro w s₀ s₁ mg mb G Y fa o pm cd doc dV kV ho hd hcd hD hmg hg args vals as hpre hlay hrd hwl hlo
obtain rfl:dV=.none:=Dflts.none hD hdf
obtain rfl:kV=.none:=Dflts.noKw hD
obtain⟨a,vs,ns,rfl,rfl,hobj,hints,hlen⟩:=qBY hn hpre hwl
refine enter_call (dP (call w s₀ s₁ mg mb fa o pm cd doc a vs ns G Y ho (fd_plain hd) hcd hmg hobj hints hlen hg) λr s' hq=>?_)
obtain⟨rfl,h2,h3,h4⟩:=hq
exact⟨.inl ⟨.bool true,.bool true,[],rfl,λ_=>rfl,.bool true,qBZ l _,λ_=>⟨List.Pairwise.nil,λ_ hm=>(nomatch hm)⟩⟩,h2,h3,h4⟩)
end Att
namespace L2
open PySem PySem.Spec PyProof.Rows
theorem q7A:∀{vs:List Value} {ns:List Int},IntsAre vs ns→Vals (ns.map V.int) vs
|_,_,.nil=>.nil
|_,_,.cons n t h=>.cons ⟨t,rfl⟩ (q7A h)
noncomputable def qV(s:Stmt)(j:Nat):Stmt:=match s with
| .ClassDef _ _ _ body _ _ _ _ _ _ _=>body.getD j (.Pass ⟨0,0,0,0⟩)
|_=>.Pass ⟨0,0,0,0⟩
noncomputable def yU(s:Stmt):Arguments:=match s with
| .FunctionDef _ a _ _ _ _ _ _ _ _=>a
|_=>{ posonlyargs:=[],args:=[],vararg:=none,kwonlyargs:=[],kw_defaults:=[],kwarg:=none,defaults:=[] }
noncomputable def yH(s:Stmt):List Stmt:=match s with
| .FunctionDef _ _ b _ _ _ _ _ _ _=>b
|_=>[]
noncomputable def qH(s:Stmt):Scope:=match s with
| .FunctionDef _ _ _ _ _ _ sc _ _ _=>sc
|_=>{ kind:=.function,names:=[],isGenerator:=false,isCoroutine:=false }
noncomputable abbrev CX0:CXT:=λ_ _ _ _ _ _=>False
noncomputable abbrev E0:XK:=λ_ _ _=>False
theorem qL{X:Cx}:q13 CX0 X E0:=λ_ _ _ _ _ _ _ h=>h.elim
theorem vR{A:Around}{k:Nat}(hr:Room k A):A.units+1<cLine:=cJ (Nat.add_le_add_left (by decide:1≤64) _) hr.units
section
variable{X:Cx}
theorem pv(i:Nat){x:Str}{pos:Pos}(hN:X.N[i]?=some x:=by rfl)(hv:Vis X.env.scope x:=by first|exact Or.inl rfl|exact Or.inr (Or.inl rfl)|exact Or.inr (Or.inr rfl))(hd:(x==("__debug__":Str))=false:=by decide)
 (hcd:(x==("__classdict__":Str))=false:=by decide):PE X (.Name x pos) (tVar i):=qGE hN hv hd hcd
end
theorem iteF{A B:Prop}(h:B):if false=true then A else B:=by rw[kC kH];exact h
theorem iteT{A B:Prop}(h:A):if true=true then A else B:=by rw[kG rfl];exact h
noncomputable def Same(H H':Hp):Prop:=∀b o,H b=some o→H' b=some o
theorem Same.refl(H:Hp):Same H H:=λ_ _ h=>h
theorem Same.trans{H H1 H2:Hp}(a:Same H H1)(b:Same H1 H2):Same H H2:=λc o h=>b c o (a c o h)
theorem Same.free{H H':Hp}(e:Same H H'){l:Addr}(h:H' l=Option.none):H l=Option.none:=by(
cases q:H l with
|none=>rfl
|some o=>rw[e l o q]at h;cases h)
theorem Same.seq{K:PySem.W.Frag}{H H':Hp}{a:Addr}{xs:List V}(e:Same H H')(h:SqL K H a xs):SqL K H' a xs:=by(
rcases h with(h|⟨o,h⟩)|h
·exact .inl (.inl (e _ _ h))
·exact .inl (.inr ⟨o,e _ _ h⟩)
exact .inr h)
section
variable{X:Cx}
theorem qC0:vF X (.builtin "len") (λxs H Q=>∃a kvs,xs=[V.ref a]∧H a=some (.dK kvs)∧Q (.int kvs.length) H):=by(
intro pins s σ H xs us Q I r h
obtain⟨a,kvs,rfl,ha,q⟩:=h
obtain⟨u,rfl,ru⟩:=zT r
cases ru
exact qIX I (.inl ha) λt s' I'=>⟨.int kvs.length,H,I',⟨t,rfl⟩,q⟩)
end
section
variable{X:Cx}
theorem q35:PGet X (rIxL X.K):=by(
intro pins s σ H o i ov iv Q I ro ri h
obtain⟨p,xs,k,z,rfl,rfl,hq,he,q⟩:=h
cases ro
obtain⟨t,rfl⟩:=ri
obtain⟨its,r,pl,hz⟩:=I.list hq
obtain⟨j,h1,h2,h3,h4,h5⟩:=q4V he
obtain⟨w,ew,rw'⟩:=r.get h2
have hl:=r.length
have hn:=q2P
have fin:EP X pins σ Q w s:=⟨z,H,I,rw',q⟩
by_cases h0:0≤k
·have hj:k.toNat=j:=by rw[p7 h0 h5]at h1;exact kJ h1
 exact wpAny_getItem_list pl.isList h0 (by lia) (by rw[hj];simpa using ew) fin
have hj:(k+(its.toArray.size:Int)).toNat=j:=by rw[pE (by lia) h4]at h1;rw[kN,←hl];exact kJ h1
exact pG pl.isList (by lia) (by rw[kN]<;>lia) (by lia) (by rw[hj];simpa using ew) fin)
end
noncomputable def isW:V→Bool
| .int _=>true
|_=>false
noncomputable def isI:V→Bool
| .int _=>true
| .bl _=>true
|_=>false
noncomputable def isB:V→Bool
| .bl _=>true
|_=>false
noncomputable def isS:V→Bool
| .str _=>true
|_=>false
inductive Knd(H:Hp):V→Prop where
|non:Knd H .non
|bl (b:Bool):Knd H (.bl b)
|int (i:Int):Knd H (.int i)
|str (x:Str):Knd H (.str x)
|lst {a:Addr} {xs:List V} (e:H a=some (.lst xs)):Knd H (.ref a)
|tup {a:Addr} {xs:List V} (e:H a=some (.tup xs)):Knd H (.ref a)
section
variable{K:PySem.W.Frag}{H:Hp}{x:V}
theorem qGW:PySem.W.kitOne K (.type "NoneType") (.type "int")=some false:=by kernel_rfl
theorem qGX:PySem.W.kitOne K (.type "bool") (.type "int")=some true:=by kernel_rfl
theorem qGY:PySem.W.kitOne K (.type "int") (.type "int")=some true:=by kernel_rfl
theorem qGZ:PySem.W.kitOne K (.type "str") (.type "int")=some false:=by kernel_rfl
theorem qH0:PySem.W.kitOne K (.type "list") (.type "int")=some false:=by kernel_rfl
theorem qH1:PySem.W.kitOne K (.type "tuple") (.type "int")=some false:=by kernel_rfl
theorem qH2:PySem.W.kitOne K (.type "NoneType") (.type "bool")=some false:=by kernel_rfl
theorem qH3:PySem.W.kitOne K (.type "bool") (.type "bool")=some true:=by kernel_rfl
theorem qH4:PySem.W.kitOne K (.type "int") (.type "bool")=some false:=by kernel_rfl
theorem qH5:PySem.W.kitOne K (.type "str") (.type "bool")=some false:=by kernel_rfl
theorem qH6:PySem.W.kitOne K (.type "list") (.type "bool")=some false:=by kernel_rfl
theorem qH7:PySem.W.kitOne K (.type "tuple") (.type "bool")=some false:=by kernel_rfl
theorem qH8:PySem.W.kitOne K (.type "NoneType") (.type "str")=some false:=by kernel_rfl
theorem qH9:PySem.W.kitOne K (.type "bool") (.type "str")=some false:=by kernel_rfl
theorem qHA:PySem.W.kitOne K (.type "int") (.type "str")=some false:=by kernel_rfl
theorem qHB:PySem.W.kitOne K (.type "str") (.type "str")=some true:=by kernel_rfl
theorem qHC:PySem.W.kitOne K (.type "list") (.type "str")=some false:=by kernel_rfl
theorem qHD:PySem.W.kitOne K (.type "tuple") (.type "str")=some false:=by kernel_rfl
theorem qHE:PySem.W.kitOne K (.type "tuple") (.type "tuple")=some true:=by kernel_rfl
theorem qAA:PySem.W.kitOne K (.type "list") (.type "list")=some true:=by kernel_rfl
theorem Knd.ty(k:Knd H x):∃t,TyOf K H x t∧PySem.W.kitOne K t (.type "int")=some (isI x)∧PySem.W.kitOne K t (.type "bool")=some (isB x)∧PySem.W.kitOne K t (.type "str")=some (isS x):=by(
cases k with
|non=>exact⟨_,.non,qGW,qH2,qH8⟩
|bl b=>exact⟨_,.bl b,qGX,qH3,qH9⟩
|int i=>exact⟨_,.int i,qGY,qH4,qHA⟩
|str y=>exact⟨_,.str y,qGZ,qH5,qHB⟩
|lst e=>exact⟨_,.lst e,qH0,qH6,qHC⟩
|tup e=>exact⟨_,.tup e,qH1,qH7,qHD⟩)
theorem qD5(x:V):(if isI x=true then !isB x else false)=isW x:=by cases x<;>rfl
end
noncomputable def yK(ns:List Int)(k:Int):Int:=ns.getD k.toNat 0
theorem qC1{ns:List Int}{k:Int}(h0:0≤k)(h:k<ns.length):atI (ns.map V.int) k=some (.int (yK ns k)):=by(
obtain⟨j,rfl⟩:=gJ h0
refine uR ?_
have hj:j<ns.length:=by lia
unfold yK
simp[hj])
theorem qAB{ns:List Int}{k:Int}(h0:0≤k)(h:¬k<ns.length):yK ns k=0:=by unfold yK;rw[kM,dJ (by lia)];rfl
theorem Same.upd{H:Hp}{p:Addr}{o:HO}(h:H p=none):Same H (upd H p o):=λb u e=>by rw[qE (qF e h)];exact e
noncomputable abbrev NewO(H:Hp)(o:HO)(Q:VK):Prop:=∀p H',H p=none→Same H H'→H' p=some o→Q (.ref p) H'
theorem NewO.at{H:Hp}{o:HO}{Q:VK}(q:NewO H o Q)(p:Addr)(n:H p=none):Q (.ref p) (upd H p o):=q p _ n (Same.upd n) qG
section
variable{X:Cx}{e:Expr}{es:List Expr}{t:TA}{pos:Pos}
noncomputable def qG1(t:TA):TE:=λσ H Q=>t σ H λxs H1=>xs.length≤sizeLine∧NewO H1 (.tup xs) Q
noncomputable def qD6(t:TA):TE:=λσ H Q=>t σ H λxs H1=>xs.length≤sizeLine∧NewO H1 (.lst xs) Q
theorem q0I{x1}(h:PA X es t):PE X (.Tuple es x1 pos) (qG1 t):=by(
intro pins s σ H Q I hq
refine wpAny_Tuple_spliced (thn (h pos pins s σ H _ I hq) λus s1 ⟨xs,H1,I1,r,z,q⟩=>⟨by rw[←r.length];exact z,?_⟩)
have hf:H1 s1.heap.objs.size=none:=I1.hok.fresh (kB _)
refine⟨.ref s1.heap.objs.size,upd H1 s1.heap.objs.size (.tup xs),I1.laid (t':=s1.toks) (λb u e=>hX _ e) (kB _) ?_,rfl,q.at _ hf⟩
exact⟨z,us,r,⟨_,kR _ rfl,rfl,_,rfl⟩⟩)
theorem yN(h:PA X es t):PE X (.List es pos) (qD6 t):=by(
intro pins s σ H Q I hq
refine wpAny_List_spliced (thn (h pos pins s σ H _ I hq) λus s1 ⟨xs,H1,I1,r,z,q⟩=>⟨by rw[←r.length];exact z,?_⟩)
have hf:H1 s1.heap.objs.size=none:=I1.hok.fresh (kB _)
refine⟨.ref s1.heap.objs.size,upd H1 s1.heap.objs.size (.lst xs),I1.laid (t':=s1.toks) (λb u e=>hX _ e) (kB _) ?_,rfl,q.at _ hf⟩
exact⟨z,us,0,r,kR _ rfl⟩)
noncomputable def qJ0:R2:=λx y H Q=>∃l b xs zs,x=.ref l∧y=.ref b∧H l=some (.lst xs)∧H b=some (.lst zs)∧xs.length+zs.length≤sizeLine∧NewO H (.lst (xs++zs)) Q
theorem q36:OpR X (binaryOp .Add) qJ0:=by intro pins s σ H x y v u Q I rx ry hZ;obtain⟨l,b,xs,zs,e1,e2,h1,h2,h3,q⟩:=hZ;exact qGO pins s σ H x y v u Q I rx ry ⟨l,b,xs,zs,e1,e2,h1,h2,h3,q.at⟩
noncomputable def qJ1:R2:=λx y H Q=>∃l k v,x=.ref l∧y=.int k∧H l=some (.lst [v])∧0≤k∧k≤100000∧NewO H (.lst (List.replicate k.toNat v)) Q
theorem q98{α:Type}(v:α):∀k:Nat,(List.replicate k [v]).flatten=List.replicate k v
|0=>rfl
|k+1=>by rw[gW,rD,q98 v k,gW];rfl
theorem q0J:OpR X (binaryOp .Mult) qJ1:=by(
intro pins s σ H x y v u Q I rx ry hZ
obtain⟨l,k,z,e1,e2,h1,h2,h3,q⟩:=hZ
refine qGP pins s σ H x y v u Q I rx ry ⟨l,k,[z],e1,e2,h1,by lia,by lia,?_,?_⟩
·rw[gO,wO];lia
rw[q98]
exact q.at)
theorem zX:vF X (.type "list") (λxs H Q=>∃p ys,xs=[.ref p]∧(SqL X.K H p ys∨SqT X.K H p ys)∧NewO H (.lst ys) Q):=by intro pins s σ H xs us Q I r hZ;obtain⟨p,ys,e,h,q⟩:=hZ;exact q7Y pins s σ H xs us Q I r ⟨p,ys,e,h,q.at⟩
end
noncomputable def qB1:Sp:=λvs H Q _=>∃x,vs=[x]∧Knd H x∧Q (.bl (isW x)) H
noncomputable def inB(x:V)(lo hi:Int):Bool:=match x with
| .int i=>decide (lo≤i)&&decide (i≤hi)
|_=>false
noncomputable def qD7:Sp:=λvs H Q _=>∃x lo hi,vs=[x,.int lo,.int hi]∧Knd H x∧Q (.bl (inB x lo hi)) H
noncomputable def qHF(K:PySem.W.Frag):Sp:=λvs H Q _=>∃a ns k,vs=[.ref a,.int k]∧SqL K H a (ns.map V.int)∧0≤k∧Q (.int (yK ns k)) H
end L2
namespace L2
open PySem
theorem lt2{vs:Array Value}{v:Value}(h:vs[2]?=some v):1<vs.size:=Nat.lt_of_succ_lt (rK.mp h).1
noncomputable def ExO(h:Heap)(e:Addr)(C:Value)(od:Option Addr)(vs:Array Value):Prop:=∃oe,h.get? e=some oe∧oe.cls=C∧oe.dict=od∧oe.data=.fields vs∧vs[2]?=some .none
noncomputable def TrO(h:Heap)(e T:Addr)(vs:Array Value)(f:Value):Prop:=vs[1]?=some (.ref T)∧T≠e∧∃oT ts,h.get? T=some oT∧oT.data=.fields ts∧ts[3]?=some f
noncomputable def Air(L:Addr)(h:Heap)(e:Addr)(C:Value)(od:Option Addr):Option Addr→Prop
|none=>∃vs,ExO h e C od vs∧vs[1]?=some .none
|some T=>∃vs f,ExO h e C od vs∧TrO h e T vs f∧(f=.none∨f=rawInt L)
noncomputable def Held(f:Value)(h:Heap)(e T:Addr)(C:Value)(od:Option Addr):Prop:=∃vs,ExO h e C od vs∧TrO h e T vs f
structure Chg(fr rs:List Addr)(h h':Heap):Prop where
keep:∀b o,b∉fr→b∉rs→h.get? b=some o→h'.get? b=some o
slot:∀b o,b∉rs→h.get? b=some o→∃sl,h'.get? b=some { o with slots:=sl }
there:∀b o,h.get? b=some o→∃o',h'.get? b=some o'
theorem Chg.refl{fr rs:List Addr}{h:Heap}:Chg fr rs h h:=⟨λ_ _ _ _ e=>e,λ_ o _ e=>⟨o.slots,e⟩,λ_ o e=>⟨o,e⟩⟩
theorem Chg.trans{fr rs:List Addr}{h h1 h2:Heap}(x:Chg fr rs h h1)(y:Chg fr rs h1 h2):Chg fr rs h h2:=⟨λb o f r e=>y.keep b o f r (x.keep b o f r e),λb o r e=>let⟨_,e1⟩:=x.slot b o r e;let⟨sl,e2⟩:=y.slot b _ r e1;⟨sl,e2⟩,λb o e=>let⟨_,e1⟩:=x.there b o e;y.there b _ e1⟩
theorem Chg.fresh{fr rs rs':List Addr}{h h1 h2:Heap}(x:Chg fr rs h h1)(y:Chg fr rs' h1 h2)(n:∀b∈rs',b∈rs∨h.get? b=none):Chg fr rs h h2:=by
 have m:∀b o,b∉rs→h.get? b=some o→b∉rs':=λb o r e z=>(n b z).elim r λq=>by rw[q]at e;cases e
 exact⟨λb o f r e=>y.keep b o f (m b o r e) (x.keep b o f r e),λb o r e=>let⟨_,e1⟩:=x.slot b o r e;let⟨sl,e2⟩:=y.slot b _ (m b o r e) e1;⟨sl,e2⟩,λb o e=>let⟨_,e1⟩:=x.there b o e;y.there b _ e1⟩
theorem Chg.slots{fr rs:List Addr}{h h':Heap}(x:Heap.SlotsOnly fr h h'):Chg fr rs h h':=⟨λb o f _ e=>(x.2.1 b f).trans e,λb o _ e=>x.2.2 b o e,λb o e=>let⟨sl,q⟩:=x.2.2 b o e;⟨_,q⟩⟩
theorem Chg.upd{fr rs:List Addr}{h:Heap}{a:Addr}{f:Obj→Obj}(ha:a∈rs)(hf:∀o,h.get? a=some o→(f o).isFreed=false):Chg fr rs h (h.update a f):=by(
have k:∀b o,b∉rs→h.get? b=some o→(h.update a f).get? b=some o:=λb o r e=>by exact(mC h f (λ(q:a=b)=>r (q▸ha))).trans e
refine⟨λb o _ r e=>k b o r e,λb o r e=>⟨o.slots,k b o r e⟩,λb o e=>?_⟩
by_cases q:b=a
·subst q;exact⟨_,rA f e (hf o e)⟩
exact⟨o,by rw[mC h f (dO q)];exact e⟩)
theorem Chg.push{fr rs:List Addr}{h:Heap}{o:Obj}:Chg fr rs h (h.push o):=⟨λb u _ _ e=>hX _ e,λb u _ e=>⟨u.slots,hX _ e⟩,λb u e=>⟨u,hX _ e⟩⟩
theorem qC2(o:Obj)(f:Array Value→Array Value):(o.mapFields f).dict=o.dict:=by obtain⟨c,d,dt,sl⟩:=o;cases dt<;>rfl
theorem ExO.set{h:Heap}{e:Addr}{C:Value}{od:Option Addr}{vs:Array Value}(x:ExO h e C od vs)(i:Nat)(v:Value)(hi:i≠2:=by decide):ExO (h.update e (Obj.mapFields (·.setIfInBounds i v))) e C od (vs.setIfInBounds i v):=by obtain⟨oe,h1,h2,h3,h4,h5⟩:=x;have hd:=wC h4 (·.setIfInBounds i v);exact⟨_,rA _ h1 (dL hd),(Obj.cls_mapFields _ _).trans h2,(qC2 _ _).trans h3,hd,(Array.getElem?_setIfInBounds_ne hi).trans h5⟩
theorem ExO.of{h h':Heap}{e:Addr}{C:Value}{od:Option Addr}{vs:Array Value}(x:ExO h e C od vs)(k:∀o,h.get? e=some o→h'.get? e=some o):ExO h' e C od vs:=let⟨oe,h1,r⟩:=x;⟨oe,k _ h1,r⟩
section
variable{M:Model}{A:Around}{E:Value→Shared→Prop}{s:Shared}{env:Env}{outer:List Env}{L e T:Addr}{C:Value}{od:Option Addr}{base:Heap}
theorem ExO.nofr{h:Heap}{l:List Env}{vs:Array Value}(x:ExO h e C od vs)(hl:h.FunFrames base l):e∉l.filterMap (·.frame):=λhm=>by(
obtain⟨_,o,ho,hn⟩:=hl.mem hm
obtain⟨oe,h1,_,_,h4,_⟩:=x
rw[h1]at ho
cases ho
exact hn _ h4)
theorem q99{head:Value}{hn:Bool}{vs:Array Value}{Q:Unit→Shared→Prop}(hfr:A.frames=some (env::outer))(hl:s.heap.FunFrames base (env::outer))(hf:env.frame=some L)(x:ExO s.heap e C od vs)
 (q:∀h' T,Chg ((env::outer).filterMap (·.frame)) [e] s.heap h'→Held (rawInt L) h' e T C od→s.heap.objs.size≤T→Q () { s with heap:=h' }):
 wpAny M A (do let a←frameOf env;let pl←entryPlaceOf L hn;let b←EntryCells.newEntry head a .none (rawInt L) .none pl;setField (.ref e) 1 b) Q E s:=by(
have ne:=x.nofr hl
refine kA (wpAny_frameOf_fun hfr hl hf λh1 so=>kA (wpAny_entryPlaceOf λpl hp=>?_))
unfold EntryCells.newEntry newFields
refine kA (nL ?_ (hp.sizeOk5 _ _ _ _ _))
have x1:ExO h1 e C od vs:=x.of λo z=>(so.2.1 e ne).trans z
have x2:=x1.of (h':=h1.push _) λo z=>hX { cls:=.type "traceback",dict:=none,data:=.fields ([head,.ref L,.none,rawInt L,.none]++(if pl.isEmpty then List.replicate 6 Value.none else pl)).toArray } z
obtain⟨oe,a1,a2,a3,a4,a5⟩:=id x2
refine p8 a1 a4 (lt2 a5) ?_
have hlt:e<h1.objs.size:=let⟨_,z,_⟩:=x1;kI z
have fresh:s.heap.objs.size≤h1.objs.size:=cE so.1.symm
refine q _ h1.objs.size (((Chg.slots so).trans Chg.push).trans (Chg.upd (kF.mpr rfl) λo z=>?_)) ⟨_,x2.set 1 _,?_,dZ hlt,{ cls:=.type "traceback",dict:=none,data:=.fields ([head,.ref L,.none,rawInt L,.none]++(if pl.isEmpty then List.replicate 6 Value.none else pl)).toArray },_,?_,rfl,?_⟩ fresh
·rw[a1]at z;cases z;exact dL (wC a4 _)
·simp[lt2 a5]
·rw[mC _ _ (kZ hlt)];exact kR h1 rfl
first|(simp;done)|(rcases hp with rfl|⟨_,_,_,_,_,_,_,rfl⟩<;>simp))
theorem qB2{tr:Option Addr}{Q:Unit→Shared→Prop}(hfr:A.frames=some (env::outer))(hl:s.heap.FunFrames base (env::outer))(hf:env.frame=some L)(x:Air L s.heap e C od tr)
 (q:∀h' T,Chg ((env::outer).filterMap (·.frame)) (e::tr.toList) s.heap h'→Held (rawInt L) h' e T C od→(T∈tr∨s.heap.objs.size≤T)→Q () { s with heap:=h' }):
 wpAny M A (noteFrame (.ref e) env) Q E s:=by(
unfold noteFrame
simp only[hf]
cases tr with
|none=>obtain⟨vs,x,h1⟩:=x;obtain⟨oe,a1,a2,a3,a4,a5⟩:=id x;refine kA (cQ a1 a4 h1 ?_);rw[kC (by decide)];exact q99 hfr hl hf x λh' T c hd n=>q h' T c hd (.inr n)
|some T=>
 obtain⟨vs,f,x,⟨t1,t2,oT,ts,t3,t4,t5⟩,hfl⟩:=x;obtain⟨oe,a1,a2,a3,a4,a5⟩:=id x;refine kA (cQ a1 a4 t1 ?_);rw[kG (by simp)];refine kA (cQ t3 t4 t5 ?_);rcases hfl with rfl|rfl
 ·rw[kC (by simp[rawInt])];refine kA (p8 t3 t4 (rK.mp t5).1 ?_);have k:∀b o,b≠T→s.heap.get? b=some o→(s.heap.update T (Obj.mapFields (·.setIfInBounds 3 Value.none))).get? b=some o:=λb o n z=>(mC _ _ (dO n)).trans z;have hl2:(s.heap.update T (Obj.mapFields (·.setIfInBounds 3 Value.none))).FunFrames base (env::outer):=hl.of_keeps λb o z nf=>⟨o,k b o (λw=>by subst w;rw[t3]at z;cases z;exact nf _ t4) z,rfl⟩;refine q99 (s:={ s with heap:=s.heap.update T (Obj.mapFields (·.setIfInBounds 3 Value.none)) }) hfr hl2 hf (x.of λo z=>k e o (dO t2) z) λh' T' c hd n=>q h' T' ?_ hd ?_
  ·refine(Chg.upd (a:=T) (by simp) λo z=>?_).fresh c λb hb=>.inl ?_
   ·rw[t3]at z;cases z;exact dL (wC t4 _)
   rw[kF.mp hb];exact kO
  exact .inr (mE (cE (Heap.size_after_update ..).symm) n)
 rw[kG (by simp)];exact kU (q _ T .refl ⟨vs,x,t1,t2,oT,ts,t3,t4,t5⟩ (.inl rfl)))
theorem q20{f:Value}{fr:Option Addr}{Q:Unit→Shared→Prop}(x:Held f s.heap e T C od)
 (q:∀h',Chg [] [T] s.heap h'→Held (fr.elim .none λf=>rawInt f) h' e T C od→Q () { s with heap:=h' }):wpAny M A (setFlight (.ref e) fr) Q E s:=by(
obtain⟨vs,x,t1,t2,oT,ts,t3,t4,t5⟩:=x
obtain⟨oe,a1,a2,a3,a4,a5⟩:=id x
have hz:=(rK.mp t5).1
unfold setFlight
refine kA (cQ a1 a4 t1 ?_)
rw[kG (by simp)]
have hd:=wC t4 (·.setIfInBounds 3 (fr.elim .none λf=>rawInt f))
refine p8 t3 t4 hz (q _ (Chg.upd (by simp) λo z=>?_) ⟨vs,x.of λo z=>?_,t1,t2,_,_,rA _ t3 (dL hd),hd,by simp[hz]⟩)
·rw[t3]at z;cases z;exact dL hd
exact(mC _ _ t2).trans z)
theorem Held.air{f:Value}{h:Heap}(x:Held f h e T C od)(hf:f=.none∨f=rawInt L):Air L h e C od (some T):=let⟨vs,a,b⟩:=x;⟨vs,f,a,b,hf⟩
theorem qD8{tr:Option Addr}{Q:Unit→Shared→Prop}(hfr:A.frames=some (env::outer))(hl:s.heap.FunFrames base (env::outer))(hf:env.frame=some L)(x:Air L s.heap e C od tr)
 (q:∀h' T,Chg ((env::outer).filterMap (·.frame)) (e::tr.toList) s.heap h'→Held .none h' e T C od→(T∈tr∨s.heap.objs.size≤T)→Q () { s with heap:=h' }):wpAny M A (leaving env (.ref e)) Q E s:=by(
unfold leaving
refine kA (qB2 hfr hl hf x λh' T c hd n=>q20 hd λh2 c2 hd2=>q h2 T ?_ hd2 n)
refine c.fresh (rs':=[T]) ⟨λb o _ r z=>c2.keep b o (by simp) r z,c2.slot,c2.there⟩ λb hb=>?_
rw[kF.mp hb]
exact n.imp (λz=>kD _ (by cases tr with|none=>cases z|some t=>cases z;exact kF.mpr rfl)) wT)
end
end L2
namespace L2
open PySem PySem.Spec PyProof.Rows
section
variable{P:Program}{w:World}{H:Hp}{h h':Heap}{a:Addr}{o:HO}
theorem jR.there(x:jR P w H h a o):∃ob,h.get? a=some ob:=by(
cases o with
|lst xs=>obtain⟨_,_,_,_,e⟩:=x;exact⟨_,e⟩
|tup xs=>obtain⟨_,_,_,_,e,_⟩:=x;exact⟨_,e⟩
|dK kvs=>obtain⟨_,_,_,_,o,_,_,e,_⟩:=x;exact⟨_,e⟩
|dT kvs=>obtain⟨_,_,_,_,o,_,_,e,_⟩:=x;exact⟨_,e⟩
|set S n=>obtain⟨o,_,_,_,e,_⟩:=x;exact⟨_,e⟩
|ins C dx fs=>obtain⟨_,_,_,e,_⟩:=x;exact⟨_,e⟩
|own y=>exact x
|xd fs=>obtain⟨_,⟨_,_,_,e,_⟩,_⟩:=x;exact⟨_,e⟩
|rng lo hi=>obtain⟨_,_,_,e⟩:=x;exact⟨_,e⟩
|frz ob u=>exact⟨_,x.1⟩
|tbl ps=>exact⟨_,show h.get? a=some _ from x⟩
|met f y=>exact⟨_,show h.get? a=some _ from x⟩
|ext φ=>exact x.2.1)
theorem HOk.free(x:HOk P w H h)(e:h.get? a=none):H a=none:=by(
cases q:H a with
|none=>rfl
|some o=>obtain⟨_,z⟩:=(x a o q).there;rw[e]at z;cases z)
theorem HOk.chg{fr rs:List Addr}(x:HOk P w H h)(c:Chg fr rs h h')(hf:∀b∈fr,H b=none)(hr:∀b∈rs,H b=none):HOk P w H h':=by(
intro a o e
refine(x a o e).stay (λb u hb z=>?_) (λ_ q=>q) λ_ _ q=>q
have n:H b≠none:=by
 rcases hb with rfl|q
 ·rw[e];intro y;cases y
 rw[q];intro y;cases y
exact c.keep b u (λm=>n (hf b m)) (λm=>n (hr b m)) z)
end
noncomputable def Recs(h:Heap)(rs:List Addr):Prop:=∀b∈rs,∃o vs,h.get? b=some o∧o.data=.fields vs
theorem Air.recs{L e:Addr}{h:Heap}{C:Value}{od tr:Option Addr}(x:Air L h e C od tr):Recs h (e::tr.toList):=by(
intro b hb
cases tr with
|none=>
 obtain⟨vs,⟨oe,a1,_,_,a4,_⟩,_⟩:=x;have e':b=e:=by simpa using hb
 subst e';exact⟨_,_,a1,a4⟩
|some T=>
 obtain⟨vs,f,⟨oe,a1,_,_,a4,_⟩,⟨_,_,oT,ts,t3,t4,_⟩,_⟩:=x;have e':b=e∨b=T:=by simpa using hb
 rcases e' with rfl|rfl
 ·exact⟨_,_,a1,a4⟩
 exact⟨_,_,t3,t4⟩)
noncomputable def Ours(X:Cx)(pins:List (Addr×Obj))(H:Hp)(rs:List Addr):Prop:=∀b∈rs,(X.s₀.heap.get? b=none∨b∈X.ex)∧H b=none∧∀p∈X.pn++pins,p.1≠b
section
variable{X:Cx}{pins:List (Addr×Obj)}{σ:St}{H:Hp}{s:Shared}{h':Heap}{rs:List Addr}
theorem Inv.chg{t':Nat}(I:Inv X pins σ H s)(c:Chg (frs X.stack) rs s.heap h')(o:Ours X pins H rs)(rc:Recs s.heap rs):Inv X pins σ H { s with heap:=h',toks:=t' }:=by(
obtain⟨m,hn,hv⟩:=I.loc
have nl:X.env.locals∉rs:=λz=>by obtain⟨ob,vs,e,d⟩:=rc _ z;obtain⟨o',es,ep,ho,hd,_⟩:=hn;rw[e]at ho;cases ho;rw[d]at hd;cases hd
have nc:∀c v,s.heap.IsCell c v→c∉rs:=λc v q z=>by obtain⟨ob,vs,e,d⟩:=rc _ z;obtain⟨o',ho,hd⟩:=q;rw[e]at ho;cases ho;rw[d]at hd;cases hd
have cellk:∀c v,s.heap.IsCell c v→h'.IsCell c v:=λa v q=>by have n:=nc a v q;obtain⟨o',ho,hd⟩:=q;obtain⟨sl,z⟩:=c.slot a o' n ho;exact⟨_,z,hd⟩
have old:∀b ob,X.s₀.heap.get? b=some ob→b∉X.ex→b∉rs:=λb ob q ne z=>by
 rcases(o b z).1 with y|y
 ·rw[q]at y;cases y
 exact ne y
have ns':h'.Ns X.env.locals m:=by obtain⟨o',es,ep,ho,r⟩:=hn;obtain⟨sl,z⟩:=c.slot _ o' nl ho;exact⟨_,es,ep,z,r⟩
refine⟨I.ok,I.os,I.bare,⟨λb ob q n nf ne=>?_,λb ob q n hf ne=>?_,I.base.free,λb ob q ne=>?_,I.base.tups,I.base.frzs,I.base.tbls⟩,⟨m,ns',λi x v e1 e2 e3=>?_⟩,λx a e=>?_,I.free,I.freeC,λp hp=>?_,I.hok.chg c I.stkFree λb hb=>(o b hb).2.1,I.len⟩
·refine c.keep b ob (λz=>?_) (old b ob q ne) (I.base.keep b ob q n nf ne);rcases kL.mp (I.stkSub b z)with rfl|y
 ·exact absurd (kI q) (pJ.mpr I.ok.above)
 exact nf y
·obtain⟨sl,z⟩:=I.base.slot b ob q n hf ne;obtain⟨sl',z'⟩:=c.slot b _ (old b ob q ne) z;exact⟨sl',z'⟩
·obtain⟨o',z⟩:=I.base.there b ob q ne;exact c.there b o' z
·obtain⟨u,r,lk⟩:=hv i x v e1 e2 e3;refine⟨u,r,lk.imp id λ⟨k,cc,l,q⟩=>⟨k,cc,l,cellk _ _ q⟩⟩
·obtain⟨v,q⟩:=I.cell x a e;exact⟨v,cellk _ _ q⟩
obtain⟨p1,p2,p3,p4,p5⟩:=I.pin p hp
refine⟨c.keep _ _ (λz=>?_) (λz=>(o _ z).2.2 p hp rfl) p1,p2,p3,p4,p5⟩
rcases kL.mp (I.stkSub _ z)with y|y
·exact p3 y
exact p4 y)
end
noncomputable def CXe(P:Program)(w:World):CXT:=λouter H s E e s'=>∃ea T C od H',e=.ref ea∧s'.os=s.os∧AllBare s'.gens∧Un (frs outer) [] H H' s.heap s'.heap∧HOk P w H' s'.heap∧Held .none s'.heap ea T C od∧(s.heap.get? ea=none∧s.heap.get? T=none)∧(H' ea=none∧H' T=none)∧E C od H'
noncomputable def q10(X:Cx)(ES:St→XK):Prop:=∀(pins:List (Addr×Obj)) (σ:St) (H:Hp) (s:Shared) (ea:Addr) (tr:Option Addr) (C:Value) (od:Option Addr),Inv X pins σ H s→Air X.env.locals s.heap ea C od tr→Ours X pins H (ea::tr.toList)→ES σ C od H→X.xe (.ref ea) s
noncomputable def qEQ(CX:CXT)(X:Cx)(ES:St→XK):Prop:=∀(pins:List (Addr×Obj)) (σ:St) (H:Hp) (s:Shared) (e:Value) (s':Shared),Inv X pins σ H s→CX X.stack H s (ES σ) e s'→X.xe e s'
theorem q10.passes{X:Cx}{ES:St→XK}(t:q10 X ES):qEQ (CXe X.prog X.w) X ES:=by(
intro pins σ H s e s' I hZ
obtain⟨ea,T,C,od,H',e1,ho,hg,u,hok,hd,⟨f1,f2⟩,⟨g1,g2⟩,q⟩:=hZ
subst e1
refine t pins σ H' s' ea (some T) C od (I.call' ho u hok hg λb hb=>by cases hb) (hd.air (.inl rfl)) (λb hb=>?_) q
have key:∀b,s.heap.get? b=none→H' b=none→(X.s₀.heap.get? b=none∨b∈X.ex)∧H' b=none∧∀p∈X.pn++pins,p.1≠b:=λb f g=>by
 refine⟨?_,g,λp hp z=>?_⟩
 ·by_cases y:b∈X.ex
  ·exact .inr y
  refine .inl ?_;cases z:X.s₀.heap.get? b with
  |none=>rfl
  |some ob=>obtain⟨o',z'⟩:=I.base.there b ob z y;rw[f]at z';cases z'
 have y:=(I.pin p hp).1;rw[z,f]at y;cases y
have e':b=ea∨b=T:=by simpa using hb
rcases e' with rfl|rfl
·exact key _ f1 g1
exact key _ f2 g2)
theorem yA{P:Program}{w:World}{K:PySem.W.Frag}{mg:Str→Option Value}{base:Heap}{N:List Str}{qual:Str}{scope:Scope}{f:Addr}{cd:Value}{A:Around}{outer:List Env}{s:Shared}{H:Hp}{E:XK}:
 q10 (cxOf (CXe P w) P w K mg base N qual scope f cd A outer s H E) (λ_=>E):=by(
intro pins σ H' s' ea tr C od I air ours q
refine qD8 (base:=base) I.ok.frames I.stack rfl air λh' T c hd n=>?_
have I2:=I.chg (t':=s'.toks) c ours air.recs
have out:∀b,s'.heap.objs.size≤b→s.heap.get? b=none:=λb z=>by
 cases y:s.heap.get? b with
 |none=>rfl
 |some ob=>obtain⟨o',y'⟩:=I.base.there b ob y (by intro m;cases m);exact absurd (kI y') (pJ.mpr z)
have own:∀b,b∈ea::tr.toList→s.heap.get? b=none∧H' b=none:=λb hb=>⟨(ours b hb).1.elim id (λz=>by cases z),(ours b hb).2.1⟩
have hT:s.heap.get? T=none∧H' T=none:=by
 rcases n with z|z
 ·exact own T (kD _ (by cases tr with|none=>cases z|some t=>cases z;exact kF.mpr rfl))
 exact⟨out T z,I.hok.fresh z⟩
exact⟨ea,T,C,od,H',rfl,I.os,I.bare,I2.base,I2.hok,hd,⟨(own ea (kO)).1,hT.1⟩,⟨(own ea (kO)).2,hT.2⟩,q⟩)
noncomputable def qHG(sp:Sp)(dvs:List V)(ES:St→XK)(t:TA):TE:=λσ H Q=>t σ H λvs H1=>sp (vs++dvs) H1 Q (ES σ)
noncomputable def qHH(C:Addr)(m:Str)(sp:Sp)(dvs:List V)(ES:St→XK)(ta:TE)(t:TA):TE:=λσ H Q=>ta σ H λx H1=>∃a dx fs,x=.ref a∧H1 a=some (.ins C dx fs)∧fs.lookup m=none∧t σ H1 λvs H2=>sp (x::(vs++dvs)) H2 Q (ES σ)
noncomputable def qHI(C:Addr)(sp:Sp)(dvs:List V)(ES:St→XK)(t:TA):TE:=λσ H Q=>t σ H λvs H1=>∀x dx,H1 x=none→H1 dx=none→dx≠x→sp (.ref x::(vs++dvs)) (upd (upd H1 dx (.own x)) x (.ins C dx [])) (λv H2=>v=.non∧Q (.ref x) H2) (ES σ)
theorem yB{X:Cx}:q10 X (λ_ _ _ _=>False):=λ_ _ _ _ _ _ _ _ _ _ _ h=>h.elim
section
variable{X:Cx}{k:Nat}{f C:Addr}{fd:FuncData}{ps:List Str}{sp:Sp}{dvs:List V}{ds:List Value}{E:XK}{ES:St→XK}{x m:Str}{p pos apos:Pos}{e o:Expr}{es:List Expr}{ta:TE}{t:TA}
theorem qB3{pins:List (Addr×Obj)}{σ:St}{H:Hp}{s:Shared}{Q:VK}{us:List Value}{vs:List V}(F:FnOk X.prog X.w X.K X.mg X.base (CXe X.prog X.w) k f fd ps sp)(hr:Room k X.A)(hb:yM X.K fd ps ds)(hd:Vals dvs ds)(tk:q10 X ES)
 (I:Inv X pins σ H s) (r:Vals vs us) (h:sp (vs++dvs) H Q (ES σ)):wpAny (model X.prog X.w) X.A (call (.ref f) us) (EP X pins σ Q) X.xe s:=by(
have r2:Vals (vs++dvs) (us++ds):=r.append hd
have hl:(us++ds).length=ps.length:=by rw[←r2.length];exact F.len _ _ _ _ h
refine wB (dP (F.run X.A X.stack s H ⟨us,[]⟩ (us++ds) (vs++dvs) Q (ES σ) hr I.env0 (hb s us I.kIn hl) r2 h) λr s' hq=>?_)
cases r with
|error e=>exact tk.passes pins σ H s e s' I hq
|ok fl=>
 cases fl with
 |ret u=>exact I.after hq
 |next=>exact False.elim hq
 |brk=>exact False.elim hq
 |cont=>exact False.elim hq)
theorem q9A(tk:q10 X ES)(F:FnOk X.prog X.w X.K X.mg X.base (CXe X.prog X.w) k f fd ps sp)(hr:Room k X.A)(hg:Gl X x)(hm:X.mg x=some (.ref f))(hk:PySem.W.keepIn X.K (.ref f)=true)(hb:yM X.K fd ps ds)(hd:Vals dvs ds)
 (ha:PA X (e::es) t) (hdb:(x==("__debug__":Str))=false:=by decide) (he:starEach (e::es) X.env=(false,eval e X.env)::starEach es X.env:=by rfl) (hpl:(backTo pos (starEach es X.env)).any (·.1)=false:=by rfl):
 PE X (.Call (.Name x p) (e::es) [] pos) (qHG sp dvs ES t):=by(
intro pins s σ H Q I h
refine gX (q1Y I hg hm ?_ hdb)
refine dH (h₀:=X.base) I.ok.mod.kin hk (thn (ha pos pins s σ H _ I h) λus s1 ⟨vs,H1,I1,r,q⟩=>⟨I1.kIn,?_⟩) he hpl
exact qB3 F hr hb hd tk I1 r q)
theorem yO{pl:Sem Bool}(tk:q10 X ES)(he:PE X o ta)(c:Cls X.K C)(hm:Meth X.K C m f)(F:FnOk X.prog X.w X.K X.mg X.base (CXe X.prog X.w) k f fd ps sp)(hr:Room k X.A)(hb:yM X.K fd ps ds)(hd:Vals dvs ds)(ha:PA X (e::es) t)
 (hst:starEach (e::es) X.env=(false,eval e X.env)::starEach es X.env:=by rfl) (hpl:(backTo pos (starEach es X.env)).any (·.1)=false:=by rfl)
 (ht:eval (.Call (.Attribute o m apos) (e::es) [] pos) X.env=(do
  let ov←eval o X.env
  standAt apos.atName
  let(f,first)←holding [ov] (getMethod ov m pl)
  callWith pos f first (backTo pos (starEach (e::es) X.env)) (backToKw pos (keywordEach [] X.env))):=by rfl):
 PE X (.Call (.Attribute o m apos) (e::es) [] pos) (qHH C m sp dvs ES ta t):=by(
intro pins s σ H Q I h
refine wN (pl:=pl) (thn (he pins s σ H _ I h) λu s1 hZ=>?_) ht
obtain⟨x,H1,I1,rx,a,dx,fs,ex,ea,l,q⟩:=hZ
subst ex
obtain rfl:u=Value.ref a:=rx
refine q2Q I1 ea c hm l ?_
refine dH (first:=[.ref a]) (h₀:=X.base) I.ok.mod.kin hm.kp (thn (ha pos pins s1 σ H1 _ I1 q) λus s2 ⟨vs,H2,I2,r,q2⟩=>⟨I2.kIn,?_⟩) hst hpl
exact qB3 (us:=.ref a::us) (vs:=.ref a::vs) F hr hb hd tk I2 (.cons rfl r) q2)
theorem qC3{pins:List (Addr×Obj)}{σ:St}{H:Hp}{s:Shared}{Q:VK}{us:List Value}{vs:List V}(M:Mk X.K C f)(F:FnOk X.prog X.w X.K X.mg X.base (CXe X.prog X.w) k f fd ps sp)(hr:Room (k+1) X.A)(hb:yM X.K fd ps ds)(hd:Vals dvs ds)
 (tk:q10 X ES) (I:Inv X pins σ H s) (r:Vals vs us)
 (h:∀x dx,H x=none→H dx=none→dx≠x→sp (.ref x::(vs++dvs)) (upd (upd H dx (.own x)) x (.ins C dx [])) (λv H2=>v=.non∧Q (.ref x) H2) (ES σ)):
 wpAny (model X.prog X.w) X.A (call (.ref C) us) (EP X pins σ Q) X.xe s:=by(
have hq:=h (s.heap.objs.size+1) s.heap.objs.size (I.hok.fresh (dF _)) (I.hok.fresh (kB _)) (kZ (rM _))
have I2:=Inv.made (C:=C) I
have r2:Vals (V.ref (s.heap.objs.size+1)::(vs++dvs)) (Value.ref (s.heap.objs.size+1)::(us++ds)):=.cons rfl (r.append hd)
have hl:(Value.ref (s.heap.objs.size+1)::us++ds).length=ps.length:=by have e:=r2.length;rw[F.len _ _ _ _ hq]at e;exact e.symm
refine wB (q91 (f:=f) I.kIn M.makes M.init (dU.mp M.fn) (dP (F.run _ X.stack _ _ ⟨Value.ref (s.heap.objs.size+1)::us,[]⟩ (Value.ref (s.heap.objs.size+1)::(us++ds)) _ _ (ES σ) (hr.make C us [])
 (I2.env0.make C us []) (hb _ (Value.ref (s.heap.objs.size+1)::us) I2.kIn hl) r2 hq) λr s' hq'=>?_))
cases r with
|error e=>exact tk.passes pins σ _ _ e s' I2 hq'
|ok fl=>
 cases fl with
 |ret u=>obtain⟨v,H',I3,rv,ev,q3⟩:=I2.after hq';subst ev;exact⟨rv,⟨V.ref (s.heap.objs.size+1),H',I3,rfl,q3⟩⟩
 |next=>exact False.elim hq'
 |brk=>exact False.elim hq'
 |cont=>exact False.elim hq')
theorem q37(tk:q10 X ES)(M:Mk X.K C f)(F:FnOk X.prog X.w X.K X.mg X.base (CXe X.prog X.w) k f fd ps sp)(hr:Room (k+1) X.A)(hg:Gl X x)(hm:X.mg x=some (.ref C))(hb:yM X.K fd ps ds)(hd:Vals dvs ds)
 (ha:PA X (e::es) t) (hdb:(x==("__debug__":Str))=false:=by decide) (he:starEach (e::es) X.env=(false,eval e X.env)::starEach es X.env:=by rfl) (hpl:(backTo pos (starEach es X.env)).any (·.1)=false:=by rfl):
 PE X (.Call (.Name x p) (e::es) [] pos) (qHI C sp dvs ES t):=by(
intro pins s σ H Q I h
refine gX (q1Y I hg hm ?_ hdb)
refine dH (h₀:=X.base) I.ok.mod.kin M.kp (thn (ha pos pins s σ H _ I h) λus s1 ⟨vs,H1,I1,r,q⟩=>⟨I1.kIn,?_⟩) he hpl
exact qC3 M F hr hb hd tk I1 r q)
end
structure FunD(K:PySem.W.Frag)(x qual:Str)(st:Stmt)(dV:Value)(f:Addr)(fd:FuncData):Prop where
ex:∃(oc:Value) (od:Option Addr) (kV doc pm:Value) (an:Option Addr) (cdv ct:Value) (osl:Array (Option Value)),fd=PySem.W.fnOf x qual (yU st) (yH st) (qH st) dV kV doc pm an cdv ct∧K.lookup f=some ⟨oc,od,.func fd,osl⟩∧PySem.W.codeIn K cdv qual=true
section
variable{P:Program}{w:World}{K:PySem.W.Frag}{mg:Str→Option Value}{base:Heap}{dV:Value}
theorem FunD.mk'{x qual:Str}{st:Stmt}{f:Addr}{oc:Value}{od an:Option Addr}{osl:Array (Option Value)}{kV doc pm cdv ct:Value}(l:K.lookup f=some ⟨oc,od,.func (PySem.W.fnOf x qual (yU st) (yH st) (qH st) dV kV doc pm an cdv ct),osl⟩)
 (c:PySem.W.codeIn K cdv qual=true):FunD K x qual st dV f (PySem.W.fnOf x qual (yU st) (yH st) (qH st) dV kV doc pm an cdv ct):=⟨⟨oc,od,kV,doc,pm,an,cdv,ct,osl,rfl,l,c⟩⟩
theorem FunD.okE{x qual:Str}{st:Stmt}{f:Addr}{fd:FuncData}{N ps:List Str}{k:Nat}{sp:Sp}(F:FunD K x qual st dV f fd)(S:FnScope N ps (qH st))(len:∀vs H Q E,sp vs H Q E→vs.length=ps.length)
 (hbody:∀(cdv:Value) (A:Around) (outer:List Env) (s:Shared) (H:Hp) (vs:List V) (Q:VK) (E:XK),Room k (A.deeper (envOfC qual (qH st) s.heap.objs.size f cdv))→sp vs H Q E→∃t,PSs (cxOf (CXe P w) P w K mg base N qual (qH st) f cdv A outer s H E) (yH st) t∧t { nx:=λ_ H'=>Q .non H',rt:=Q } (q2D N vs) H):FnOk P w K mg base (CXe P w) (k+1) f fd ps sp:=by obtain⟨oc,od,kV,doc,pm,an,cdv,ct,osl,rfl,lk,hcd⟩:=F.ex;exact qCV lk hcd S len λA outer s H vs Q E hr hsp=>hbody cdv A outer s H vs Q E hr hsp
theorem FunD.ok0{x qual:Str}{st:Stmt}{f:Addr}{fd:FuncData}{N ps:List Str}{k:Nat}{sp:Sp}(F:FunD K x qual st dV f fd)(S:FnScope N ps (qH st))
 (hbody:∀(cdv:Value) (A:Around) (outer:List Env) (s:Shared) (H:Hp) (vs:List V) (Q:VK) (E:XK),Room k (A.deeper (envOfC qual (qH st) s.heap.objs.size f cdv))→sp vs H Q E→∃t,PSs (cxOf CX0 P w K mg base N qual (qH st) f cdv A outer s H E).nox (yH st) t∧t { nx:=λ_ H'=>Q .non H',rt:=Q } (q2D N vs) H)(len:∀vs H Q E,sp vs H Q E→vs.length=ps.length:=by intro _ _ _ _ h;first|(cases h;subst_vars;rfl)|((repeat obtain⟨_,h⟩:=h);all_goals subst_vars;rfl)):FnOk P w K mg base CX0 (k+1) f fd ps sp:=by(
obtain⟨oc,od,kV,doc,pm,an,cdv,ct,osl,rfl,lk,hcd⟩:=F.ex
refine qCV lk hcd S len λA outer s H vs Q E hr hsp=>?_
obtain⟨t,h,q⟩:=hbody cdv A outer s H vs Q E hr hsp
exact⟨t,h.nox,q⟩)
end
noncomputable abbrev bmVE:List Value:=[.type "ValueError",.type "Exception",.type "BaseException",.type "object"]
noncomputable abbrev XCls(K:PySem.W.Frag)(C:Addr):Prop:=PySem.W.excIn K C bmVE "ValueError.__new__"=true
theorem qER{K:PySem.W.Frag}{C:Addr}(q:XCls K C):∃bm N nm qn bs hd sn sub ab col dd k0 k1 k2 k3 k5,K.lookup C=some (excClassObj nm qn C N bs bm hd sn sub ab col dd k0 k1 k2 k3 k5 "ValueError.__new__")∧PySem.W.tailIn K bmVE bm=true∧PySem.W.nsOkIn K N=true∧PySem.W.nsIn K N "__init__"=some none:=by(
unfold XCls PySem.W.excIn at q
split at q
·rename_i dd cd sl ho;split at q
 ·rename_i C' bm k0 k1 k2 k3 n k5 hm hs;obtain⟨nm,bs,mro,ns,qn,hd,sn,sub,ab,col,del⟩:=cd;obtain⟨l⟩:=sl;simp only[mH,dU,wL]at q hm hs;obtain⟨⟨⟨⟨⟨e1,e2⟩,e3⟩,e4⟩,e5⟩,e6⟩:=q;subst e1 e2 e3 hm hs;exact⟨bm,ns,nm,qn,bs,hd,sn,sub,ab,col,dd,k0,k1,k2,k3,k5,ho,e4,e5,e6⟩
 cases q
cases q)
noncomputable def qHJ(ES:St→XK)(C:Addr)(t:TA):TS:=λ_ σ H=>t σ H λvs H1=>vs.length≤sizeLine∧ES σ (.ref C) none H1
section
variable{X:Cx}{ES:St→XK}{C:Addr}{x:Str}{np cpos pos:Pos}{e:Expr}{es:List Expr}{t:TA}
theorem qD9{pins:List (Addr×Obj)}{σ:St}{H:Hp}{s:Shared}{h':Heap}{ea:Addr}{C:Value}{vs:List Value}(I:Inv X pins σ H s)(m:Heap.MadeExcOf s.heap h' ea C vs):
 Air X.env.locals h' ea C none none∧Ours X pins H [ea]:=by(
obtain⟨t,m1,m2,m3⟩:=m.there
refine⟨⟨_,⟨_,m1,rfl,rfl,rfl,by simp⟩,rfl⟩,λb hb=>?_⟩
rw[kF.mp hb]
refine⟨?_,I.hok.free m.new,λp hp z=>?_⟩
·by_cases y:ea∈X.ex
 ·exact .inr y
 refine .inl ?_;cases z:X.s₀.heap.get? ea with
 |none=>rfl
 |some ob=>obtain⟨o',z'⟩:=I.base.there ea ob z y;rw[m.new]at z';cases z'
have y:=(I.pin p hp).1
rw[z,m.new]at y
cases y)
theorem uG(tk:q10 X ES)(hc:X.calm=true)(hg:Gl X x)(hm:X.mg x=some (.ref C))(hx:XCls X.K C)(ha:PA X (e::es) t)(hdb:(x==("__debug__":Str))=false:=by decide)
 (he:starEach (e::es) X.env=(false,eval e X.env)::starEach es X.env:=by rfl) (hpl:(backTo cpos (starEach es X.env)).any (·.1)=false:=by rfl):
 PS X (.Raise (some (.Call (.Name x np) (e::es) [] cpos)) none pos) (qHJ ES C t):=by(
intro pins s σ H D I hq
obtain⟨bm,N,nm,qn,bs,hd,sn,sub,ab,col,dd,k0,k1,k2,k3,k5,lk,tl,ok,ni⟩:=qER hx
have kb:=I.mod.kin
have T0:=PySem.W.tail_of_in kb tl
have hN:X.base.Ns N (X.base.nsMap N):=.of_isNs (PySem.W.isNs_of_in kb ok)
have hni:=PySem.W.nsMap_none_of_in kb ok ni
have hplain:(backTo cpos (starEach (e::es) X.env)).any (·.1)=false:=by rw[he];show(false||(backTo cpos (starEach es X.env)).any (·.1))=false;rw[hpl];rfl
refine wpAny_Raise_call_subT (C:=C) (nm:=nm) (q:=qn) (N:=N) (bs:=bs) (bm:=bm) (hdct:=hd) (sn:=sn) (sub:=sub) (ab:=ab) (col:=col) (dd:=dd) (k0:=k0) (k1:=k1) (k2:=k2) (k3:=k3) (k5:=k5) (mN:=X.base.nsMap N)
 PySem.F.excBase_ValueError (T0.hasType (by decide)) (I.ok.hd hc) hplain hni (q1Y I hg hm ⟨rfl,?_⟩ hdb)
have h0:=ha cpos pins s σ H _ I hq
rw[he]at h0 ⊢
refine PySem.Calls.evalArgs_plain (gU h0 (λus s1 h1=>?_) λ_ _ y=>y)
obtain⟨vs,H1,I1,r,hz,hE⟩:=h1
refine⟨rfl,by rw[←r.length];exact hz,I1.bk _ _ (kb _ _ lk),?_,T0.keeps I1.bk,λh' ea m=>?_⟩
·obtain⟨o',es',ep',z,rr⟩:=hN;exact⟨o',es',ep',I1.bk _ _ z,rr⟩
obtain⟨air,ours⟩:=qD9 I1 m
refine tk pins σ H1 { s1 with heap:=h' } ea none (.ref C) none (I1.kept (t':=s1.toks) m.keeps) air ours hE)
end
noncomputable abbrev Cx.tr(X:Cx)(pins:List (Addr×Obj))(XE:Value→Shared→Prop):Cx:={ X with pn:=X.pn++pins,xe:=XE }
noncomputable abbrev Cx.sui(X:Cx)(e:Addr):Cx:={ X with A:=X.A.mark (some (.ref e)),calm:=false,xe:=λ_ _=>False }
theorem Chg.mono{fr fr' rs rs':List Addr}{h h':Heap}(c:Chg fr rs h h')(f:∀b∈fr,b∈fr')(r:∀b∈rs,b∈rs'):Chg fr' rs' h h':=⟨λb o a z e=>c.keep b o (λy=>a (f b y)) (λy=>z (r b y)) e,λb o z e=>c.slot b o (λy=>z (r b y)) e,c.there⟩
theorem Held.recs{f:Value}{e T:Addr}{h:Heap}{C:Value}{od:Option Addr}(x:Held f h e T C od):Recs h [e,T]:=by(
obtain⟨vs,⟨oe,a1,_,_,a4,_⟩,_,_,oT,ts,t3,t4,_⟩:=x
intro b hb
have e':b=e∨b=T:=by simpa using hb
rcases e' with rfl|rfl
·exact⟨_,_,a1,a4⟩
exact⟨_,_,t3,t4⟩)
section
variable{X:Cx}{pins:List (Addr×Obj)}{σ:St}{H:Hp}{s:Shared}{XE:Value→Shared→Prop}
theorem Inv.tr(I:Inv X pins σ H s)(XE:Value→Shared→Prop):Inv (X.tr pins XE) [] σ H s:=have ok:=I.ok
 ⟨⟨ok.mod,ok.kind,ok.glob,ok.blt,ok.above,ok.inj,ok.has,ok.cab,ok.hd,ok.frames,ok.stk,ok.exf,ok.bs,ok.bsz,ok.noex,ok.exfs,ok.funs,ok.frf⟩,I.os,I.bare,I.base,I.loc,I.cell,I.free,I.freeC,λp hp=>I.pin p (by simpa using hp),I.hok,I.len⟩
theorem Inv.untr{ps:List (Addr×Obj)}(I:Inv (X.tr pins XE) ps σ H s):Inv X pins σ H s:=have ok:=I.ok
 ⟨⟨ok.mod,ok.kind,ok.glob,ok.blt,ok.above,ok.inj,ok.has,ok.cab,ok.hd,ok.frames,ok.stk,ok.exf,ok.bs,ok.bsz,ok.noex,ok.exfs,ok.funs,ok.frf⟩,I.os,I.bare,I.base,I.loc,I.cell,I.free,I.freeC,λp hp=>I.pin p (mP _ hp),I.hok,I.len⟩
theorem Inv.sui(I:Inv X pins σ H s)(e:Addr):Inv (X.sui e) pins σ H s:=have ok:=I.ok
 ⟨⟨ok.mod,ok.kind,ok.glob,ok.blt,ok.above,ok.inj,ok.has,ok.cab,(λz=>by cases z),ok.frames,ok.stk,ok.exf,ok.bs,ok.bsz,ok.noex,ok.exfs,ok.funs,ok.frf⟩,I.os,I.bare,I.base,I.loc,I.cell,I.free,I.freeC,I.pin,I.hok,I.len⟩
theorem Inv.unsui{e:Addr}(hc:X.calm=true→X.A.handled=none)(I:Inv (X.sui e) pins σ H s):Inv X pins σ H s:=have ok:=I.ok
 ⟨⟨ok.mod,ok.kind,ok.glob,ok.blt,ok.above,ok.inj,ok.has,ok.cab,hc,ok.frames,ok.stk,ok.exf,ok.bs,ok.bsz,ok.noex,ok.exfs,ok.funs,ok.frf⟩,I.os,I.bare,I.base,I.loc,I.cell,I.free,I.freeC,I.pin,I.hok,I.len⟩
theorem SP.untr{D:Ends}{f:Flow}{s':Shared}(h:SP (X.tr pins XE) [] D f s'):SP X pins D f s':=by(
cases f with
|next=>obtain⟨σ',H',I,q⟩:=h;exact⟨σ',H',I.untr,q⟩
|brk=>obtain⟨σ',H',I,q⟩:=h;exact⟨σ',H',I.untr,q⟩
|cont=>obtain⟨σ',H',I,q⟩:=h;exact⟨σ',H',I.untr,q⟩
|ret u=>obtain⟨v,σ',H',I,r,q⟩:=h;exact⟨v,σ',H',I.untr,r,q⟩)
theorem SP.unsui{e:Addr}{D:Ends}{f:Flow}{s':Shared}(hc:X.calm=true→X.A.handled=none)(h:SP (X.sui e) pins D f s'):SP X pins D f s':=by(
cases f with
|next=>obtain⟨σ',H',I,q⟩:=h;exact⟨σ',H',I.unsui hc,q⟩
|brk=>obtain⟨σ',H',I,q⟩:=h;exact⟨σ',H',I.unsui hc,q⟩
|cont=>obtain⟨σ',H',I,q⟩:=h;exact⟨σ',H',I.unsui hc,q⟩
|ret u=>obtain⟨v,σ',H',I,r,q⟩:=h;exact⟨v,σ',H',I.unsui hc,r,q⟩)
end
noncomputable def qJ2(ea:Addr)(C:Value)(od:Option Addr):Heap→Prop:=λh=>∃o vs,h.get? ea=some o∧o.cls=C∧o.dict=od∧o.data=.fields vs
noncomputable abbrev XO(ea:Addr)(C:Value)(od:Option Addr):HO:=.ext (qJ2 ea C od)
noncomputable abbrev TH:=Ends→St→Hp→Addr→Value→Option Addr→Prop
noncomputable def PHs(X:Cx)(hs:List ExceptHandler)(t:TH):Prop:=∀(pins:List (Addr×Obj)) (s:Shared) (σ:St) (H:Hp) (D:Ends) (ea T:Addr) (C:Value) (od:Option Addr),Inv X pins σ H s→Held .none s.heap ea T C od→Ours X pins H [ea,T]→t D σ H ea C od→wpAny (model X.prog X.w) X.A (handleBy (.ref ea) X.env hs) (SP X pins D) X.xe s
section
variable{X:Cx}{ES:St→XK}
theorem qAC(tk:q10 X ES)(hf:X.env.frame=some X.env.locals:=by rfl):PHs X [] (λ_ σ H _ C od=>ES σ C od H):=by(
intro pins s σ H D ea T C od I hd ours q
refine wpAny_handleBy_nil ?_
unfold PySem.passOn
have rc:=hd.recs
obtain⟨vs,x,t1,t2,oT,ts,t3,t4,t5⟩:=id hd
obtain⟨oe,a1,a2,a3,a4,a5⟩:=id x
refine kA (cQ a1 a4 t1 ?_)
rw[kC (by simp)]
refine kA (q20 hd λh' c hd2=>wpAny_throw ?_)
rw[hf]at hd2
exact tk pins σ H { s with heap:=h' } ea (some T) C od (I.chg (t':=s.toks) (rs:=[ea,T]) (c.mono (by simp) (by simp)) ours rc) (hd2.air (.inr rfl)) ours q)
theorem Inv.pinX{pins:List (Addr×Obj)}{σ:St}{H:Hp}{s:Shared}{ea T:Addr}{C:Value}{od:Option Addr}{f:Value}(I:Inv X pins σ H s)(hd:Held f s.heap ea T C od)(ours:Ours X pins H [ea,T]):
 ∃oe oT,Inv X (pins++[(ea,oe),(T,oT)]) σ H s∧∀h':Heap,h'.get? ea=some oe→h'.get? T=some oT→Held f h' ea T C od:=by(
have rc:=hd.recs
obtain⟨vs,⟨oe,a1,a2,a3,a4,a5⟩,t1,t2,oT,ts,t3,t4,t5⟩:=hd
refine⟨oe,oT,I.pins_of λp hp=>?_,λh' z1 z2=>⟨vs,⟨oe,z1,a2,a3,a4,a5⟩,t1,t2,oT,ts,z2,t4,t5⟩⟩
have nl:∀b o ws,s.heap.get? b=some o→o.data=.fields ws→b≠X.env.locals∧b∉X.fs:=λb o ws e d=>by
 refine⟨λz=>?_,λz=>?_⟩
 ·obtain⟨m,⟨o',es,ep,ho,hd',_⟩,_⟩:=I.loc;rw[←z,e]at ho;cases ho;rw[d]at hd';cases hd'
 obtain⟨_,o',ho,hn⟩:=I.funs.mem z;rw[e]at ho;cases ho;exact hn _ d
rcases gA.mp hp with z|z
·exact I.pin p (kP _ z)
have z:p=(ea,oe)∨p=(T,oT):=by simpa using z
rcases z with rfl|rfl
·exact⟨a1,(ours ea (by simp)).2.1,(nl _ _ _ a1 a4).1,(nl _ _ _ a1 a4).2,λv q=>by rw[a4]at q;cases q⟩
exact⟨t3,(ours T (by simp)).2.1,(nl _ _ _ t3 t4).1,(nl _ _ _ t3 t4).2,λv q=>by rw[t4]at q;cases q⟩)
theorem q9B{ty:Expr}{c:V}{cv:Value}{pins:List (Addr×Obj)}{s:Shared}{σ:St}{H:Hp}{ea T:Addr}{C:Value}{od:Option Addr}{b:Bool}{R:Result→Shared→Prop}{pos:Pos}(hc:PE (X.sui ea) ty (tC c))(rc:RelV c cv)
 (I:Inv X pins σ H s) (hh:X.calm=true→X.A.handled=none) (hd:Held .none s.heap ea T C od) (ours:Ours X pins H [ea,T]) (hx:PySem.W.exmOne X.K C cv=some b) (q:∀s',Inv X pins σ H s'→Held .none s'.heap ea T C od→R (.ok (if b then .brk else .next)) s'):
 codeAny (model X.prog X.w) (X.A.mark (some (.ref ea))) (.handlers (.ref ea) [.ExceptHandler (some ty) none [] pos] X.env) R s:=by(
obtain⟨oe,oT,I1,back⟩:=I.pinX hd ours
refine codeAny_handlers_test (gU (hc _ s σ H (λv H'=>v=c∧H'=H) (I1.sui ea) ⟨rfl,rfl⟩) (λu s1 h1=>?_) λ_ _ z=>z.elim)
obtain⟨v,H',I2,r,e1,e2⟩:=h1
subst e1 e2
have e3:u=cv:=by
 cases v with
 |non=>exact r.trans rc.symm
 |bl b=>exact r.trans rc.symm
 |ref a=>exact r.trans rc.symm
 |ty n=>exact r.trans rc.symm
 |int i=>obtain⟨t,e⟩:=r;obtain⟨t',e'⟩:=rc;subst e';unfold PySem.W.exmOne at hx;split at hx<;>cases hx
 |str i=>obtain⟨t,e⟩:=r;obtain⟨t',e'⟩:=rc;subst e';unfold PySem.W.exmOne at hx;split at hx<;>cases hx
 |byt i=>obtain⟨t,e⟩:=r;obtain⟨t',e'⟩:=rc;subst e';unfold PySem.W.exmOne at hx;split at hx<;>cases hx
 |flt i=>obtain⟨t,e⟩:=r;obtain⟨t',e'⟩:=rc;subst e';unfold PySem.W.exmOne at hx;split at hx<;>cases hx
subst e3
have p1:=(I2.pin (ea,oe) (by simp)).1
have p2:=(I2.pin (T,oT) (by simp)).1
have hd1:=back _ p1 p2
obtain⟨vs,⟨oe',z1,z2,_⟩,_⟩:=id hd1
have LT:PySem.W.Looks (model X.prog X.w) s1.heap (typeOf (.ref ea)) C:=by rw[←z2];exact(xJ z1).andThen .now
have I3:Inv X pins σ H' s1:=(Inv.unsui hh I2).unpinned
exact(PySem.W.exm_one I2.kIn LT hx).here (q s1 I3 hd1))
theorem q7Z{ty:Expr}{c:V}{cv:Value}{b₀:Stmt}{suite:List Stmt}{pos:Pos}{rest:List ExceptHandler}{ts:TS}{tr:TH}(hc:∀ea,PE (X.sui ea) ty (tC c))(rc:RelV c cv)(hs:∀ea,PSs (X.sui ea) (b₀::suite) ts)(hr:PHs X rest tr):
 PHs X (.ExceptHandler (some ty) none (b₀::suite) pos::rest) (λD σ H ea C od=>∃b,PySem.W.exmOne X.K C cv=some b∧if b=true then ts D σ H else tr D σ H ea C od):=by(
intro pins s σ H D ea T C od I hd ours hZ
obtain⟨b,hx,q⟩:=hZ
refine wpAny_handleBy_cons (q9B (hc ea) rc I I.ok.hd hd ours hx λs' I' hd'=>?_) (by intro z;cases z)
cases b with
|false=>rw[kC (by simp)]at q;exact hr pins s' σ H D ea T C od I' hd' ours q
|true=>rw[kG rfl]at q;refine codeAny_handlers_suite (q20 hd' λh' c hd2=>?_);have I2:=I'.chg (t':=s'.toks) (rs:=[ea,T]) (c.mono (by simp) (by simp)) ours hd'.recs;exact gU (hs ea pins { s' with heap:=h' } σ H D (I2.sui ea) q) (λf s2 z=>z.unsui I.ok.hd) λ_ _ z=>z.elim)
noncomputable def tTry(tb:(St→XK)→TS)(th:TH):TS:=λD σ H=>tb (λσ' C od H'=>∀ea,H' ea=none→th D σ' H' ea C od) D σ H
theorem qAD{body:List Stmt}{h₀:ExceptHandler}{hs:List ExceptHandler}{pos:Pos}{tb:(St→XK)→TS}{th:TH}
 (hb:∀(pins:List (Addr×Obj)) (XE:Value→Shared→Prop) (ES:St→XK),q10 (X.tr pins XE) ES→PassesOwn (model X.prog X.w) X.A X.env XE→PSs (X.tr pins XE) body (tb ES)) (hh:PHs X (h₀::hs) th)
 (hfs:∃fr,X.stack=X.env::fr:=by exact⟨_,rfl⟩) (hf:X.env.frame=some X.env.locals:=by rfl):PS X (.Try body (h₀::hs) [] [] pos) (tTry tb th):=by(
intro pins s σ H D I q
refine wpAny_Try_except (gU (hb pins (λe s1=>wpAny (model X.prog X.w) X.A (noteFrame e X.env) (λ_ s2=>wpAny (model X.prog X.w) X.A (setFlight e none) (λ_ s3=>wpAny (model X.prog X.w) X.A (handleBy e X.env (h₀::hs)) (SP X pins D) X.xe s3) X.xe s2) X.xe s1)
 (λσ' C od H'=>∀ea,H' ea=none→th D σ' H' ea C od) ?_ PassesOwn.looking [] s σ H D (I.tr _) q) (λf s1 z=>?_) λe s1 z=>z)
·intro pins' σ' H' s' ea tr C od I' air ours y;obtain⟨fr,ek⟩:=hfs;have frames:X.A.frames=some (X.env::fr):=by rw[I.ok.frames,ek]
 have ff:s'.heap.FunFrames X.base (X.env::fr):=by rw[←ek];exact I'.stack
 refine qB2 frames ff hf air λh' T c hd n=>?_;have en:frs X.stack=(X.env::fr).filterMap (·.frame):=by rw[ek];rfl
 have I2:Inv (X.tr pins _) pins' σ' H' { s' with heap:=h' }:=I'.chg (t':=s'.toks) (by show Chg (frs X.stack) _ _ _;rw[en];exact c) ours air.recs;have oT:Ours (X.tr pins λe s1=>wpAny (model X.prog X.w) X.A (noteFrame e X.env) (λ_ s2=>wpAny (model X.prog X.w) X.A (setFlight e none) (λ_ s3=>wpAny (model X.prog X.w) X.A (handleBy e X.env (h₀::hs)) (SP X pins D) X.xe s3) X.xe s2) X.xe s1) pins' H' [ea,T]:=by
  intro b hb;have hb:b=ea∨b=T:=by simpa using hb
  rcases hb with rfl|rfl
  ·exact ours b (by simp)
  rcases n with z|z
  ·exact ours b (kD _ (by cases tr with|none=>cases z|some t=>cases z;exact kF.mpr rfl))
  refine⟨?_,I'.hok.fresh z,λp hp w=>?_⟩
  ·by_cases y:b∈X.ex
   ·exact .inr y
   refine .inl ?_;cases w:X.s₀.heap.get? b with
   |none=>rfl
   |some ob=>obtain⟨o',w'⟩:=I'.base.there b ob w y;exact absurd (kI w') (pJ.mpr z)
  have w':=(I'.pin p hp).1;rw[w]at w';exact absurd (kI w') (pJ.mpr z)
 refine q20 hd λh2 c2 hd2=>?_;have I3:=I2.chg (t':=s'.toks) (rs:=[ea,T]) (c2.mono (by simp) (by simp)) oT hd.recs;exact hh pins _ σ' H' D ea T C od I3.untr hd2 (λb hb=>⟨(oT b hb).1,(oT b hb).2.1,λp hp=>(oT b hb).2.2 p (mP _ hp)⟩) (y ea (ours ea (by simp)).2.1)
have z:=z.untr
cases f with
|next=>obtain⟨σ',H',I',y⟩:=z;exact qM pins s1 σ' H' D I' y
|_=>exact z)
end
noncomputable def NewX(ea:Addr)(C:Value)(od:Option Addr):Heap→Prop:=λh=>∃vs sl,h.get? ea=some ⟨C,od,.fields vs,sl⟩∧vs[2]?=some .none∧vs[1]?=some .none
noncomputable abbrev XN(ea:Addr)(C:Value)(od:Option Addr):HO:=.ext (NewX ea C od)
noncomputable def qG2(X:Cx)(pins:List (Addr×Obj))(a:Addr):Prop:=(X.s₀.heap.get? a=none∨a∈X.ex)∧∀p∈X.pn++pins,p.1≠a
section
variable{X:Cx}{pins:List (Addr×Obj)}{σ:St}{H:Hp}{s:Shared}{a:Addr}
theorem Inv.young(I:Inv X pins σ H s)(e:s.heap.get? a=none):qG2 X pins a:=by(
refine⟨?_,λp hp z=>?_⟩
·by_cases y:a∈X.ex
 ·exact .inr y
 refine .inl ?_;cases z:X.s₀.heap.get? a with
 |none=>rfl
 |some ob=>obtain⟨o',z'⟩:=I.base.there a ob z y;rw[e]at z';cases z'
have y:=(I.pin p hp).1
rw[z,e]at y
cases y)
theorem Inv.trackG{o:HO}(I:Inv X pins σ H s)(n:H a=none)(y:qG2 X pins a)(nl:a≠X.env.locals)(nc:∀x c,X.env.cells.lookup x=some c→c≠a)(new:jR X.prog X.w (upd H a o) s.heap a o):Inv X pins σ (upd H a o) s:=by(
have ne:∀b o',X.s₀.heap.get? b=some o'→b∉X.ex→b≠a:=λb o' z x q=>by
 subst q;rcases y.1 with w|w
 ·rw[z]at w;cases w
 exact x w
have nt:∀b u,H b=some u→b≠a:=λb u z q=>by rw[q,n]at z;cases z
refine⟨I.ok,I.os,I.bare,⟨I.base.keep,I.base.slot,λb o' z m x=>?_,I.base.there,λb xs z=>?_,λb o' u z=>?_,λb ps z=>?_⟩,I.loc,I.cell,?_,λx c z=>?_,λp hp=>?_,λb u z=>?_,I.len⟩
·rw[qE (ne b o' z x)];exact I.base.free b o' z m x
·have w:=I.base.tups b xs z;rw[qE (nt _ _ w)];exact w
·have w:=I.base.frzs b o' u z;rw[qE (nt _ _ w)];exact w
·obtain⟨more,w⟩:=I.base.tbls b ps z;exact⟨more,by rw[qE (nt _ _ w)];exact w⟩
·rw[qE (dO nl)];exact I.free
·rw[qE (nc x c z)];exact I.freeC x c z
·obtain⟨p1,p2,p3,p4,p5⟩:=I.pin p hp;exact⟨p1,by rw[qE (y.2 p hp)];exact p2,p3,p4,p5⟩
by_cases q:b=a
·subst q;rw[qG]at z;cases z;exact new
rw[qE q]at z
refine(I.hok b u z).stay (λ_ _ _ g=>g) (λc g=>?_) λc xs g=>?_
·rw[qE (nt _ _ g)];exact g
rw[qE (nt _ _ g)];exact g)
end
noncomputable def qDA:List Value→Bool
| .ref _::r=>qDA r
|l=>l==bmVE
noncomputable def veIn(K:PySem.W.Frag)(C:Addr):Bool:=(PySem.W.clsIn K C).any (λcd=>qDA cd.mro)
structure XAt(K:PySem.W.Frag)(C:Addr):Prop where
hd:PySem.W.hasDictIn K C=true
sa:PySem.W.findIn K (.ref C) "__setattr__"=some (some (.builtin "object.__setattr__"))
mro:veIn K C=true
structure XRd(K:PySem.W.Frag)(C:Addr):Prop where
ga:PySem.W.findIn K (.ref C) "__getattribute__"=some (some (.builtin "BaseException.__getattribute__"))
gn:PySem.W.findIn K (.ref C) "__getattr__"=some none
mb:PySem.W.mroIn K C (.type "BaseException")=some true
hd:PySem.W.hasDictIn K C=true
cls:PySem.W.findIn K (.ref C) "__class__"=some (some (.builtin "object.__class__"))
cget:PySem.W.specialIn K (.builtin "object.__class__") "__get__"=some (some (.builtin "getset_descriptor.__get__"))
ctk:PySem.W.takesIn K (.builtin "object.__class__")=some true
mo:PySem.W.mroIn K C (.type "object")=some true
noncomputable def XAny(H:Hp)(ea:Addr)(C:Value)(od:Option Addr):Prop:=H ea=some (XO ea C od)∨H ea=some (XN ea C od)
section
variable{X:Cx}{pins:List (Addr×Obj)}{σ:St}{H:Hp}{s:Shared}{ea C:Addr}{od:Option Addr}
theorem XAny.at{C:Value}(x:XAny H ea C od)(I:Inv X pins σ H s):∃o vs,s.heap.get? ea=some o∧o.cls=C∧o.dict=od∧o.data=.fields vs:=by(
rcases x with e|e
·exact(I.hok ea _ e).1
obtain⟨vs,sl,z,_⟩:=(I.hok ea _ e).1
exact⟨_,vs,z,rfl,rfl,rfl⟩)
theorem qES{A:Around}{E:Value→Shared→Prop}{K:PySem.W.Frag}{prog:Program}{w:World}{s:Shared}{x:Addr}{ox:Obj}{od:Option Obj}{name:Str}{tk:Tok}{fill b:Bool}{Q:Value→Shared→Prop}(X:K.In s.heap)(J:PySem.W.InstAt s.heap x ox C od)(c:XRd K C)
 (h:∀A',wpAny (model prog w) A' (Builtin.«object.__getattribute__» ⟨[.ref x,.str name tk],[]⟩) (λfin s'=>∃v,fin=.done (.ret v)∧PySem.W.handedIn v=true∧Q v s') (λ_ _=>False) s):wpAny (model prog w) A (getAttrBy (.ref x) (.str name tk) fill b) Q E s:=by(
obtain⟨hh,g,d,t,os⟩:=s
have L0:=J.type (M:=model prog w)
have L1:=wU (M:=model prog w) X c.ga
have L2:=wU (M:=model prog w) X c.gn
have SF:=PySem.F.excAttr_ValueError.ga
unfold getAttrBy
refine g0 (kA (L0.at (kA (L1.at ?_))))
show wpAny _ _ (getAttrByItsOwn (.ref x) (.str name tk) (.ref C) (.builtin "BaseException.__getattribute__") fill b) _ _ _
unfold getAttrByItsOwn
refine kA ?_
show wpAny _ _ (typeLookup (.ref C) "__getattr__") _ _ _
refine L2.at ?_
refine kA (sQ (g0 ?_))
have e1:callGetattribute (.ref x) (.str name tk) (.builtin "BaseException.__getattribute__") b=boundAndCalled (.builtin "BaseException.__getattribute__") (.ref x) (.str name tk):=by unfold callGetattribute;rw[kC (by cases b<;>exact Bool.noConfusion)]
rw[e1]
unfold boundAndCalled
rw[SF.bind (.ref x)]
refine kA (kU ?_)
refine wB (p9 SF.plain PySem.F.entry_bexc_ga ?_)
have su:PySem.W.Looks (model prog w) hh (isInstance (.ref x) (.type "BaseException")) true:=J.type.andThen (PySem.W.looks_mroIn X c.mb)
have hk:builtinKind "BaseException.__getattribute__"=some .slot:=by decide+kernel
have hs:splitId "BaseException.__getattribute__"=some ("BaseException","__getattribute__"):=by decide+kernel
refine @PySem.W.check_slot (model prog w) _ _ ⟨hh,g,d,t,os⟩ "BaseException.__getattribute__" "BaseException" "__getattribute__" (.ref x) [.str name tk] [] _ hk hs su (PySem.F.args_bexc_ga (.ref x) (.str name tk)) ?_
refine gU (h _) (λfin s' z=>?_) (λ_ _ z=>z.elim)
obtain⟨v,rfl,z1,z2⟩:=z
exact PySem.W.handed_on z1 z2)
end
noncomputable def clsV:V→Option Value
| .ref a=>some (.ref a)
| .ty n=>some (.type n)
|_=>none
theorem qDB{c:V}{cv u:Value}(h:clsV c=some cv)(r:RelV c u):u=cv:=by cases c<;>first|(cases h;exact r)|cases h
noncomputable def KndT(K:PySem.W.Frag)(H:Hp)(x:V)(t:Value):Prop:=TyOf K H x t∨∃ea C od,x=.ref ea∧t=.ref C∧XAny H ea (.ref C) od∧XRd K C∧(od=none∨∃dx fs,od=some dx∧H dx=some (.xd fs))
theorem qHK{K:PySem.W.Frag}{x D:Addr}{ox:Obj}{od:Option Obj}(c:XRd K D):PySem.W.KitX K (.ref x) (.ref D) (λh=>PySem.W.InstAt h x ox D od) where
ty:=λ_ _ _ I=>I.type
it:=λ_ _ X _=>by
 obtain⟨cd,hc,_⟩:=wQ c.hd;unfold PySem.W.clsIn at hc;split at hc
 ·rename_i ho;intro A' Q' E' s' k q;unfold isType loadHead;exact kA (wpAny_loadPart (k _ _ (X _ _ ho)) (kU q))
 cases hc
ne:=λh tp dd its n sl X htp=>by
 obtain⟨cd,hc,_⟩:=wQ c.hd;refine Bool.eq_false_iff.mpr λq=>?_;have e:D=tp:=Value.ref.inj (dU.mp q);subst e;unfold PySem.W.clsIn at hc;split at hc
 ·rename_i ho;have z:=(X _ _ ho).symm.trans htp;cases z
 cases hc
ca:=fun {prog w _ _ _ s} X I k=>by
 have hf:PySem.W.findObj K D od "__class__"=some (.bind (.builtin "getset_descriptor.__get__") (.builtin "object.__class__")):=by obtain⟨cd,hc,_⟩:=wQ c.hd;unfold PySem.W.findObj;rw[hc,wR,c.cls,wR];dsimp only;rw[c.cget,wR];dsimp only;rw[c.ctk,wR]
 unfold getAttr? getAttrBy?;refine kA (wpAny_mkText (kA (sQ (qES (s:={ s with toks:=s.toks+1 }) X I c λA'=>?_))));have L0:=I.type (M:=model prog w);have L1:=PySem.W.looks_find (M:=model prog w) X I hf;obtain⟨hh,gg,d,t,os⟩:=s;refine kA (kU (kA (kU (kA (L0.at (kA (L1.at ?_)))))));show wpAny _ _ (holding [.builtin "object.__class__"] (call (.builtin "getset_descriptor.__get__") [.builtin "object.__class__",.ref x,.ref D]) >>= ret) _ _ _;exact kA (g0 (wB (PySem.W.class_get (s:=⟨hh,gg,d,t+1,os⟩) (ox:=ox) (od:=od) X I c.mo (kU ⟨_,rfl,rfl,kU k⟩))))
theorem jY{X:Cx}:vF X (.builtin "isinstance") (λxs H Q=>∃x c cv t b,xs=[x,c]∧clsV c=some cv∧KndT X.K H x t∧PySem.W.kitOne X.K t cv=some b∧Q (.bl b) H):=by(
intro pins s σ H xs us Q I r h
obtain⟨x,c,cv,t,b,rfl,hc,ty,e,q⟩:=h
obtain⟨u,w',rfl,ru,rw'⟩:=qCS r
cases qDB hc rw'
rcases ty with ty|⟨ea,C,od,rfl,rfl,hx,ca,hd⟩
·exact qBS I ru ty e λtk=>⟨.bl b,H,I.tok tk,rfl,q⟩
obtain rfl:u=Value.ref ea:=ru
obtain⟨o,vs,e1,e2,e3,e4⟩:=hx.at I
have hno:PySem.W.notCls o=true:=by rw[PySem.W.notCls,e4]
have J:∃oD,PySem.W.InstAt s.heap ea o C oD:=by
 rcases hd with rfl|⟨dx,fs,rfl,hdx⟩
 ·exact⟨none,e1,e2,hno,by rw[e3];exact True.intro⟩
 obtain⟨mA,n1,rl⟩:=I.hok dx _ hdx;obtain⟨oD,g1,g2⟩:=q73 n1;exact⟨some oD,e1,e2,hno,by rw[e3];exact g1⟩
obtain⟨oD,J⟩:=J
exact gB (qHK ca) I.kIn J e (λz=>nomatch z) λtk=>⟨.bl b,H,I.tok tk,rfl,q⟩)
structure BIni(K:PySem.W.Frag)(W:Addr):Prop where
rd:PySem.W.readsIn K W (.type "type")=true
fd:PySem.W.findCls K (.ref W) (.type "type") "__init__"=some (.val (.builtin "ValueError.__init__"))
ga:PySem.W.specialIn K (.ref W) "__getattribute__"=some (some (.builtin "type.__getattribute__"))
end L2
namespace L2
open PySem
structure Keep(F:List Addr)(H H':Hp):Prop where
k:∀b o,b∉F→H b=some o→H' b=some o
tp:∀b xs,H b=some (.tup xs)→H' b=some (.tup xs)
theorem Keep.refl{F:List Addr}{H:Hp}:Keep F H H:=⟨λ_ _ _ e=>e,λ_ _ e=>e⟩
theorem Keep.trans{F:List Addr}{H H1 H2:Hp}(a:Keep F H H1)(b:Keep F H1 H2):Keep F H H2:=⟨λx o n e=>b.k x o n (a.k x o n e),λx xs e=>b.tp x xs (a.tp x xs e)⟩
theorem Keep.mono{F F':List Addr}{H H':Hp}(a:Keep F H H')(s:∀b∈F,b∈F'):Keep F' H H':=⟨λx o n e=>a.k x o (λm=>n (s x m)) e,a.tp⟩
theorem Keep.upd{F:List Addr}{H:Hp}{p:Addr}{o u:HO}(h:H p=some u)(nt:∀xs,u≠ .tup xs)(m:p∈F):Keep F H (upd H p o):=by(
refine⟨λb x n e=>?_,λb xs e=>?_⟩
·rw[qE (λ(z:b=p)=>n (z▸m))];exact e
rw[qE (jP e h (λz=>nt xs z.symm))];exact e)
theorem Keep.same{F:List Addr}{H H':Hp}(s:Same H H'):Keep F H H':=⟨λb o _ e=>s b o e,λb xs e=>s b _ e⟩
theorem Keep.none{F:List Addr}{H H':Hp}(a:Keep F H H'){b:Addr}(n:b∉F)(e:H' b=Option.none):H b=Option.none:=by(
cases q:H b with
|none=>rfl
|some o=>rw[a.k b o n q]at e;cases e)
structure CM where
bl:Int
pg:Int
mo:Int
lim:List (Key×V)
bo:List V
cl:List Int
dc:List Int
br:List Bool
lf:Option Int
rc:List (Str×Int×Bool)
structure CA where
dx:Addr
li:Addr
bo:Addr
cl:Addr
dc:Addr
br:Addr
rc:Addr
noncomputable def lfV:Option Int→V
| .none=>.non
| .some i=>.int i
noncomputable def chF(a:CA)(m:CM):List (Str×V):=[("blocks",.int m.bl),("pages",.int m.pg),("most",.int m.mo),("limits",.ref a.li),("borne",.ref a.bo),("clearings",.ref a.cl),("deed_counts",.ref a.dc),("broken",.ref a.br),("deeds_left",lfV m.lf),("record",.ref a.rc)]
noncomputable def trip(H:Hp)(v:V)(d:Str×Int×Bool):Prop:=∃p,v=.ref p∧H p=some (.tup [.str d.1,.int d.2.1,.bl d.2.2])
noncomputable abbrev Recd(H:Hp):List V→List (Str×Int×Bool)→Prop:=Paired (trip H)
theorem Recd.keep{F:List Addr}{H H':Hp}(k:Keep F H H'){rs:List V}{ds:List (Str×Int×Bool)}(r:Recd H rs ds):Recd H' rs ds:=Paired.mapP r λv d ⟨p,e,h⟩=>⟨p,e,k.tp _ _ h⟩
theorem _root_.PySem.Paired.len{α β:Type}{F:α→β→Prop}:∀{l₁:List α} {l₂:List β},Paired F l₁ l₂→l₁.length=l₂.length
|_,_,.nil=>rfl
|_,_,.cons _ t=>dB (· + 1) t.len
theorem Paired.snoc{α β:Type}{F:α→β→Prop}:∀{l₁:List α} {l₂:List β} {a:α} {b:β},Paired F l₁ l₂→F a b→Paired F (l₁++[a]) (l₂++[b])
|_,_,_,_,.nil,h=>.cons h .nil
|_,_,_,_,.cons r t,h=>.cons r (Paired.snoc t h)
noncomputable def foot(c:Addr)(a:CA):List Addr:=[c,a.bo,a.cl,a.dc,a.br,a.rc]
structure ChipAt(C:Addr)(H:Hp)(c:Addr)(a:CA)(m:CM):Prop where
ins:H c=some (.ins C a.dx (chF a m))
li:H a.li=some (.dK m.lim)
bo:H a.bo=some (.lst m.bo)
cl:H a.cl=some (.lst (m.cl.map V.int))
dc:H a.dc=some (.lst (m.dc.map V.int))
br:H a.br=some (.lst (m.br.map V.bl))
rc:∃rs,H a.rc=some (.lst rs)∧Recd H rs m.rc
nd:[a.bo,a.cl,a.dc,a.br,a.rc].Nodup
structure CM.Ok(m:CM):Prop where
bl1:2≤m.bl
bl2:m.bl≤16
pg1:1≤m.pg
pg2:m.pg≤16
nbo:(m.bo.length:Int)=m.bl*m.pg
ncl:(m.cl.length:Int)=m.bl
ndc:(m.dc.length:Int)=m.bl
nbr:(m.br.length:Int)=m.bl
lim:∀b v,valV m.lim (Sum.inl b)=some v→∃n,v=.int n
nrc:m.rc.length≤1000000
section
variable{C c:Addr}{a:CA}{m:CM}{H H':Hp}
theorem ChipAt.ne(h:ChipAt C H c a m):c≠a.bo∧c≠a.cl∧c≠a.dc∧c≠a.br∧c≠a.rc:=by obtain⟨rs,e,_⟩:=h.rc;exact⟨jP h.ins h.bo (by intro z;cases z),jP h.ins h.cl (by intro z;cases z),jP h.ins h.dc (by intro z;cases z),jP h.ins h.br (by intro z;cases z),jP h.ins e (by intro z;cases z)⟩
theorem ChipAt.nel(h:ChipAt C H c a m):a.li≠c∧a.li≠a.bo∧a.li≠a.cl∧a.li≠a.dc∧a.li≠a.br∧a.li≠a.rc:=by obtain⟨rs,e,_⟩:=h.rc;exact⟨jP h.li h.ins (by intro z;cases z),jP h.li h.bo (by intro z;cases z),jP h.li h.cl (by intro z;cases z),jP h.li h.dc (by intro z;cases z),jP h.li h.br (by intro z;cases z),jP h.li e (by intro z;cases z)⟩
theorem ChipAt.dst(h:ChipAt C H c a m):(a.bo≠a.cl∧a.bo≠a.dc∧a.bo≠a.br∧a.bo≠a.rc)∧(a.cl≠a.dc∧a.cl≠a.br∧a.cl≠a.rc)∧(a.dc≠a.br∧a.dc≠a.rc)∧a.br≠a.rc:=by(
have:=h.nd
simp only[gC,kL,gY,not_or,or_false]at this
obtain⟨⟨a1,a2,a3,a4⟩,⟨b1,b2,b3⟩,⟨c1,c2⟩,d1,_⟩:=this
exact⟨⟨a1,a2,a3,a4⟩,⟨b1,b2,b3⟩,⟨c1,c2⟩,d1⟩)
theorem ChipAt.keep{F:List Addr}(h:ChipAt C H c a m)(k:Keep F H H')(n:∀b∈a.li::foot c a,b∉F):ChipAt C H' c a m:=by obtain⟨rs,e,r⟩:=h.rc;exact⟨k.k _ _ (n _ (by simp[foot])) h.ins,k.k _ _ (n _ (by simp)) h.li,k.k _ _ (n _ (by simp[foot])) h.bo,k.k _ _ (n _ (by simp[foot])) h.cl,k.k _ _ (n _ (by simp[foot])) h.dc,k.k _ _ (n _ (by simp[foot])) h.br,⟨rs,k.k _ _ (n _ (by simp[foot])) e,r.keep k⟩,h.nd⟩
theorem ChipAt.same(h:ChipAt C H c a m)(s:Same H H'):ChipAt C H' c a m:=h.keep (F:=[]) (Keep.same s) (by simp)
theorem ChipAt.setBo(h:ChipAt C H c a m)(v:List V):ChipAt C (upd H a.bo (.lst v)) c a { m with bo:=v }:=by(
obtain⟨n1,n2,n3,n4,n5⟩:=h.ne
obtain⟨l0,l1,l2,l3,l4,l5⟩:=h.nel
obtain⟨⟨a1,a2,a3,a4⟩,⟨b1,b2,b3⟩,⟨c1,c2⟩,d1⟩:=h.dst
obtain⟨rs,e,r⟩:=h.rc
have k:Keep [a.bo] H (upd H a.bo (.lst v)):=Keep.upd h.bo (λ_ z=>by cases z) (by simp)
exact⟨by rw[qE n1];exact h.ins,by rw[qE l1];exact h.li,qG,by rw[qE a1.symm];exact h.cl,by rw[qE a2.symm];exact h.dc,by rw[qE a3.symm];exact h.br,⟨rs,by rw[qE a4.symm];exact e,r.keep k⟩,h.nd⟩)
theorem ChipAt.setDc(h:ChipAt C H c a m)(v:List Int):ChipAt C (upd H a.dc (.lst (v.map V.int))) c a { m with dc:=v }:=by(
obtain⟨n1,n2,n3,n4,n5⟩:=h.ne
obtain⟨l0,l1,l2,l3,l4,l5⟩:=h.nel
obtain⟨⟨a1,a2,a3,a4⟩,⟨b1,b2,b3⟩,⟨c1,c2⟩,d1⟩:=h.dst
obtain⟨rs,e,r⟩:=h.rc
have k:Keep [a.dc] H (upd H a.dc (.lst (v.map V.int))):=Keep.upd h.dc (λ_ z=>by cases z) (by simp)
exact⟨by rw[qE n3];exact h.ins,by rw[qE l3];exact h.li,by rw[qE a2];exact h.bo,by rw[qE b1];exact h.cl,qG,by rw[qE c1.symm];exact h.br,⟨rs,by rw[qE c2.symm];exact e,r.keep k⟩,h.nd⟩)
theorem ChipAt.addRc{p:Addr}{rs:List V}{d:Str×Int×Bool}(h:ChipAt C H c a m)(e:H a.rc=some (.lst rs))(hp:H p=some (.tup [.str d.1,.int d.2.1,.bl d.2.2])):ChipAt C (upd H a.rc (.lst (rs++[.ref p]))) c a { m with rc:=m.rc++[d] }:=by(
obtain⟨n1,n2,n3,n4,n5⟩:=h.ne
obtain⟨l0,l1,l2,l3,l4,l5⟩:=h.nel
obtain⟨⟨a1,a2,a3,a4⟩,⟨b1,b2,b3⟩,⟨c1,c2⟩,d1⟩:=h.dst
obtain⟨rs',e',r⟩:=h.rc
rw[e]at e'
cases e'
have k:Keep [a.rc] H (upd H a.rc (.lst (rs++[.ref p]))):=Keep.upd e (λ_ z=>by cases z) (by simp)
exact⟨by rw[qE n5];exact h.ins,by rw[qE l5];exact h.li,by rw[qE a4];exact h.bo,by rw[qE b3];exact h.cl,by rw[qE c2];exact h.dc,by rw[qE d1];exact h.br,⟨_,qG,Paired.snoc (r.keep k) ⟨p,rfl,k.tp _ _ hp⟩⟩,h.nd⟩)
end
noncomputable def CM.deed(m:CM)(w:Str)(pl b:Int)(f:Bool):CM:={ m with lf:=m.lf.map (· - 1),dc:=m.dc.set b.toNat (m.dc.getD b.toNat 0+1),rc:=m.rc++[(w,pl,!f)],br:=if f then m.br.set b.toNat true else m.br }
noncomputable def CM.new(bl pg mo:Int)(lim:List (Key×V)):CM:=⟨bl,pg,mo,lim,List.replicate (bl*pg).toNat .non,List.replicate bl.toNat 0,List.replicate bl.toNat 0,List.replicate bl.toNat false,none,[]⟩
theorem qHL{m:CM}{p:Int}(ok:m.Ok)(p0:0≤p)(p1:p≤m.bl*m.pg-1):0≤p / m.pg∧p / m.pg<m.bl:=by have:=ok.pg1;exact⟨Int.ediv_nonneg p0 (by lia),Int.ediv_lt_of_lt_mul (by lia) (by lia)⟩
theorem lf0{m:CM}:decide (lfV m.lf=V.int 0)=decide (m.lf=some 0):=by(
cases e:m.lf with
|none=>rfl
|some i=>
 show decide (V.int i=V.int 0)=_;by_cases z:i=0
 ·subst z;rfl
 rw[hG (λq=>z (by injection q)),hG (λq=>z (by injection q))])
theorem qET{m:CM}:scal (lfV m.lf) (.int 0)=true:=by cases m.lf<;>rfl
theorem getB{m:CM}{b:Int}(h0:0≤b)(h:b<(m.br.length:Int)):atI (m.br.map V.bl) b=some (.bl (m.br.getD b.toNat false)):=by(
obtain⟨j,rfl⟩:=gJ h0
refine uR ?_
have hj:j<m.br.length:=by lia
simp[hj])
theorem getI{xs:List Int}{b:Int}(h0:0≤b)(h:b<(xs.length:Int)):atI (xs.map V.int) b=some (.int (xs.getD b.toNat 0)):=by(
obtain⟨j,rfl⟩:=gJ h0
refine uR ?_
have hj:j<xs.length:=by lia
simp[hj])
theorem getV{xs:List V}{b:Int}(h0:0≤b)(h:b<(xs.length:Int)):atI xs b=some (xs.getD b.toNat .non):=by(
obtain⟨j,rfl⟩:=gJ h0
refine uR ?_
have hj:j<xs.length:=by lia
simp[hj])
theorem ixOk{n:Nat}{b:Int}(h0:0≤b)(h:b<(n:Int)):ixN n b=some b.toNat:=by unfold ixN;rw[kG h0,kG h]
theorem CM.Ok.deed{m:CM}(ok:m.Ok){w:Str}{pl b:Int}{f:Bool}(h:m.rc.length<1000000):(m.deed w pl b f).Ok:=by(
refine⟨ok.bl1,ok.bl2,ok.pg1,ok.pg2,ok.nbo,ok.ncl,?_,?_,ok.lim,?_⟩
·show((m.dc.set _ _).length:Int)=m.bl;rw[gD];exact ok.ndc
·show(((if f then m.br.set b.toNat true else m.br)).length:Int)=m.bl;cases f with
 |true=>rw[kG rfl,gD];exact ok.nbr
 |false=>exact ok.nbr
show(m.rc++[_]).length≤1000000
rw[mU,wO]
lia)
noncomputable def qEU:Sp:=λvs H Q _=>∃x y,vs=[x,y]∧Knd H x∧Knd H y∧Q (.bl (inB x 2 16&&inB y 1 16)) H
theorem Paired.at{α β:Type}{F:α→β→Prop}:∀{l₁:List α} {l₂:List β} {i:Nat} {a:α},Paired F l₁ l₂→l₁[i]?=some a→∃b,l₂[i]?=some b∧F a b
|_,_,0,_,.cons r _,e=>by simp at e;subst e;exact⟨_,rfl,r⟩
|_,_,i+1,_,.cons _ t,e=>by have e2:=c7.symm.trans e;obtain⟨b,h1,h2⟩:=Paired.at t e2;exact⟨b,c7.trans h1,h2⟩
|_,_,_,_,.nil,e=>by simp at e
theorem qHM{bl pg mo:Int}{lim:List (Key×V)}(b1:2≤bl)(b2:bl≤16)(p1:1≤pg)(p2:pg≤16)(hl:∀b v,valV lim (Sum.inl b)=some v→∃n,v=V.int n):(CM.new bl pg mo lim).Ok:=by(
have h:0≤bl*pg:=lM (by lia) (by lia)
refine⟨b1,b2,p1,p2,?_,?_,?_,?_,hl,by show 0≤1000000;decide⟩
·show((List.replicate (bl*pg).toNat V.non).length:Int)=bl*pg;rw[m7];lia
·show((List.replicate bl.toNat (0:Int)).length:Int)=bl;rw[m7];lia
·show((List.replicate bl.toNat (0:Int)).length:Int)=bl;rw[m7];lia
show((List.replicate bl.toNat false).length:Int)=bl
rw[m7]
lia)
noncomputable def Up(x:Addr)(H H':Hp):Prop:=∀b o,b≠x→H b=some o→H' b=some o
section
variable{x C dx:Addr}{fs:List (Str×V)}{H H':Hp}
theorem Up.of{o:HO}(s:Same H H'):Up x H (upd H' x o):=λb u n e=>by rw[qE n];exact s b u e
theorem Up.free(u:Up x H H'){b:Addr}(n:b≠x)(e:H' b=none):H b=none:=by(
cases q:H b with
|none=>rfl
|some o=>rw[u b o n q]at e;cases e)
end
end L2
namespace L2
open PySem PySem.Spec PyProof.Rows
noncomputable def tMid(t u:TS):TS:=λD σ H=>∃M:St→Hp→Prop,t { D with nx:=M } σ H∧∀σ' H',M σ' H'→u D σ' H'
section
variable{X:Cx}{st:Stmt}{rest:List Stmt}{t u:TS}{e:Expr}{te:TE}{tt:TT}
theorem q21(h1:PS X st t)(h2:PSs X rest u):PSs X (st::rest) (tMid t u):=by(
intro pins s σ H D I hZ
obtain⟨M,a,b⟩:=hZ
refine kA (thn (h1 pins s σ H _ I a) λf s1 z=>?_)
cases f with
|next=>obtain⟨σ',H',I',q⟩:=z;exact h2 pins s1 σ' H' D I' (b σ' H' q)
|brk=>exact kU z
|cont=>exact kU z
|ret v=>exact kU z)
end
theorem q5G{a b:Int}:decide (V.int a=V.int b)=decide (a=b):=by(
by_cases e:a=b
·subst e;simp
rw[hG e,hG (λz=>e (by injection z))])
section
variable{X:Cx}{pins:List (Addr×Obj)}{σ:St}{H:Hp}{s:Shared}{h':Heap}
theorem Inv.turnedN{t':Nat}{fp:List Addr}(I:Inv X pins σ H s)(k:∀b o,b∉fp→s.heap.get? b=some o→h'.get? b=some o)(hf:∀b∈fp,FpOk X pins H b):Inv X pins σ H { s with heap:=h',toks:=t' }:=by(
have nit:∀b u,H b=some u→b∉fp:=λb u e z=>by rw[(hf b z).1]at e;cases e
refine I.step (g':=s.gens) (d':=s.drawn) (ch:=fp) (λb hb=>?_) (λb o _ _ hc e _=>k b o hc e) (λb o _ _ hc e _=>⟨o.slots,k b o hc e⟩) (λ_ _ _ _ n=>n)
 (λb o hc e=>⟨o,k b o hc e⟩) (λ_ _ e=>e) (λ_ _ _ e=>e) (λb ps e=>⟨#[],by rw[e];simp⟩) (λm hm=>?_) (λb u e=>?_) I.bare
·obtain⟨f0,f1,f2,f3,f4,f5⟩:=hf b hb;exact⟨f3,f1,f4,f5⟩
·obtain⟨o,es,ep,ho,r⟩:=hm;exact⟨o,es,ep,k _ o (λz=>(hf _ z).2.1 rfl) ho,r⟩
refine(I.hok b u e).stay (λc v hc q=>k c v ?_ q) (λ_ q=>q) λ_ _ q=>q
rcases hc with z|z
·rw[z];exact nit b u e
exact nit c _ z)
end
end L2
namespace L2
open PySem
theorem yZ{es rest:List Expr}{x1}{p:Pos}{env:Env}:starEach (.Tuple es x1 p::rest) env=(false,eval (.Tuple es x1 p) env)::starEach rest env:=rfl
theorem q5H{es rest:List Expr}{p:Pos}{env:Env}:starEach (.List es p::rest) env=(false,eval (.List es p) env)::starEach rest env:=rfl
end L2
namespace L2
open PySem PySem.Spec PyProof.Rows
inductive Eqv(K:PySem.W.Frag)(H:Hp):Nat→V→V→Prop where
|flat {n:Nat} {x:V} (f:vQ x=true):Eqv K H n x x
|lst {n:Nat} {a b:Addr} {xs ys:List V} (ha:SqL K H a xs) (hb:SqL K H b ys) (hl:xs.length=ys.length) (hi:∀(i:Nat) x y,xs[i]?=some x→ys[i]?=some y→Eqv K H n x y):Eqv K H (n+1) (.ref a) (.ref b)
|tup {n:Nat} {a b:Addr} {xs ys:List V} (ha:SqT K H a xs) (hb:SqT K H b ys) (hl:xs.length=ys.length) (hi:∀(i:Nat) x y,xs[i]?=some x→ys[i]?=some y→Eqv K H n x y):Eqv K H (n+1) (.ref a) (.ref b)
theorem qDC{x:V}(f:vQ x=true):eqV x x=true:=by(
cases x with
|non=>rfl
|bl b=>cases b<;>rfl
|int i=>show(i==i)=true;exact beq_self_eq_true i
|str z=>show(z==z)=true;exact beq_self_eq_true z
|_=>exact absurd (show false=true from f) kH)
theorem zH{n:Nat}:(List.range n).all (λ_=>true)=true:=by simp
section
variable{X:Cx}{pins:List (Addr×Obj)}{σ:St}{H:Hp}{s:Shared}
theorem Vals.atN{xs:List V}{us:List Value}(r:Vals xs us){j:Nat}(h:j<us.length):∃x,xs[j]?=some x∧RelV x us[j]:=by(
have e:xs[j]?=some (xs[j]'(by rw[r.length];exact h)):=hZ _
obtain⟨u,hu,ru⟩:=r.get e
rw[hZ h]at hu
cases hu
exact⟨_,e,ru⟩)
theorem Eqv.at(I:Inv X pins σ H s){n:Nat}{y x:V}(h:Eqv X.K H n y x):∀{A:Around} {u v:Value},RelV y u→RelV x v→A.units+n<cLine→SeqAt.EqAt A s u v true:=by(
induction h with
|flat f=>intro A u v ru rv _;have e:=qCW (A:=A) (s:=s) ru rv f f;rw[qDC f]at e;exact e
|@lst n a b xs ys ha hb hl hi ih=>
 intro A u v ru rv hu;cases ru;cases rv;by_cases hab:a=b
 ·subst hab;exact pO _
 obtain⟨i1,r1,p1,_⟩:=I.list ha;obtain⟨i2,r2,p2,_⟩:=I.list hb;have l1:=r1.length;have l2:=r2.length;refine sV hab ?_;have e:=SeqAt.RcAt.lists (A:=A) (e:=λ_=>true) p1.isList p2.isList (by simp;lia) (by lia) (λj h1 h2=>?_)
 ·rw[zH]at e;exact e
 obtain⟨x1,e1,q1⟩:=r1.atN (j:=j) (by simpa using h1);obtain⟨x2,e2,q2⟩:=r2.atN (j:=j) (by simpa using h2);exact ih j x1 x2 e1 e2 (by simpa using q1) (by simpa using q2) (by show A.units+1+n<cLine;lia)
|@tup n a b xs ys ha hb hl hi ih=>
 intro A u v ru rv hu;cases ru;cases rv;by_cases hab:a=b
 ·subst hab;exact pO _
 obtain⟨i1,r1,p1,_⟩:=I.tuple ha;obtain⟨i2,r2,p2,_⟩:=I.tuple hb;have l1:=r1.length;have l2:=r2.length;refine sV hab ?_;have e:=SeqAt.RcAt.tuples (A:=A) (e:=λ_=>true) (show s.heap.IsTuple a i1.toArray from p1) (show s.heap.IsTuple b i2.toArray from p2) (by lia) (λj h1 h2=>?_)
 ·rw[zH,cV,show(i1.toArray.size==i2.toArray.size)=true by simp;lia]at e;exact e
 obtain⟨x1,e1,q1⟩:=r1.atN (j:=j) (by simpa using h1);obtain⟨x2,e2,q2⟩:=r2.atN (j:=j) (by simpa using h2);exact ih j x1 x2 e1 e2 (by simpa using q1) (by simpa using q2) (by show A.units+1+n<cLine;lia))
theorem q7B{x:V}(f:vQ x=true):scal x x=true:=by(
cases x with
|non=>rfl
|bl b=>rfl
|int i=>rfl
|str z=>rfl
|_=>exact absurd (show false=true from f) kH)
noncomputable def qG3(K:PySem.W.Frag)(r:Bool):R2:=λx y H Q=>Eqv K H 6 x y∧Q (.bl r) H
theorem qDD(hu:X.A.units+64<cLine):OpR X (compareOp .Eq) (qG3 X.K true):=by(
intro pins s σ H x y v u Q I rx ry hZ
obtain⟨h,q⟩:=hZ
cases h with
|flat f=>exact vG pins s σ H x x v u Q I rx ry ⟨q7B f,by rw[hI rfl];exact q⟩
|@lst _ a b xs ys ha hb hl hi=>cases rx;cases ry;obtain⟨i1,r1,p1,_⟩:=I.list ha;obtain⟨i2,r2,p2,_⟩:=I.list hb;have l1:=r1.length;have l2:=r2.length;refine lA (e:=λ_=>true) p1.isList p2.isList (by simp;lia) (by lia) (λj h1 h2=>?_) ⟨.bl true,H,I,by rw[zH];rfl,q⟩;obtain⟨x1,e1,q1⟩:=r1.atN (j:=j) (by simpa using h1);obtain⟨x2,e2,q2⟩:=r2.atN (j:=j) (by simpa using h2);exact(hi j x1 x2 e1 e2).at I (by simpa using q1) (by simpa using q2) (by show X.A.units+1+5<cLine;lia)
|@tup _ a b xs ys ha hb hl hi=>cases rx;cases ry;obtain⟨i1,r1,p1,_⟩:=I.tuple ha;obtain⟨i2,r2,p2,_⟩:=I.tuple hb;have l1:=r1.length;have l2:=r2.length;refine SeqAt.eq_tupleAt (e:=λ_=>true) (show s.heap.IsTuple a i1.toArray from p1) (show s.heap.IsTuple b i2.toArray from p2) (by lia) (λj h1 h2=>?_) ⟨.bl true,H,I,by rw[zH,cV,show(i1.toArray.size==i2.toArray.size)=true by simp;lia];rfl,q⟩;obtain⟨x1,e1,q1⟩:=r1.atN (j:=j) (by simpa using h1);obtain⟨x2,e2,q2⟩:=r2.atN (j:=j) (by simpa using h2);exact(hi j x1 x2 e1 e2).at I (by simpa using q1) (by simpa using q2) (by show X.A.units+1+5<cLine;lia))
theorem qDE(hu:X.A.units+64<cLine):OpR X (compareOp .NotEq) (qG3 X.K false):=by(
intro pins s σ H x y v u Q I rx ry hZ
obtain⟨h,q⟩:=hZ
cases h with
|flat f=>exact q2C pins s σ H x x v u Q I rx ry ⟨q7B f,by rw[hI rfl];exact q⟩
|@lst _ a b xs ys ha hb hl hi=>cases rx;cases ry;obtain⟨i1,r1,p1,_⟩:=I.list ha;obtain⟨i2,r2,p2,_⟩:=I.list hb;have l1:=r1.length;have l2:=r2.length;refine SeqAt.RcNeAt.lists (e:=λ_=>true) p1.isList p2.isList (by simp;lia) (by lia) (λj h1 h2=>?_) _ _ _ _ ⟨.bl false,H,I,by rw[zH];rfl,q⟩;obtain⟨x1,e1,q1⟩:=r1.atN (j:=j) (by simpa using h1);obtain⟨x2,e2,q2⟩:=r2.atN (j:=j) (by simpa using h2);exact(hi j x1 x2 e1 e2).at I (by simpa using q1) (by simpa using q2) (by show X.A.units+1+5<cLine;lia)
|@tup _ a b xs ys ha hb hl hi=>cases rx;cases ry;obtain⟨i1,r1,p1,_⟩:=I.tuple ha;obtain⟨i2,r2,p2,_⟩:=I.tuple hb;have l1:=r1.length;have l2:=r2.length;refine SeqAt.RcNeAt.tuples (e:=λ_=>true) (show s.heap.IsTuple a i1.toArray from p1) (show s.heap.IsTuple b i2.toArray from p2) (by lia) (λj h1 h2=>?_) _ _ _ _ ⟨.bl false,H,I,by rw[zH,cV,show(i1.toArray.size==i2.toArray.size)=true by simp;lia];rfl,q⟩;obtain⟨x1,e1,q1⟩:=r1.atN (j:=j) (by simpa using h1);obtain⟨x2,e2,q2⟩:=r2.atN (j:=j) (by simpa using h2);exact(hi j x1 x2 e1 e2).at I (by simpa using q1) (by simpa using q2) (by show X.A.units+1+5<cLine;lia))
end
end L2
namespace L2
open PySem
theorem q7C{K:PySem.W.Frag}{H:Hp}{n:Nat}{a b:Addr}{xs:List V}(ha:SqT K H a xs)(hb:SqT K H b xs)(f:∀x∈xs,vQ x=true):Eqv K H (n+1) (.ref a) (.ref b):=.tup ha hb rfl λi x y hx hy=>by  have e:=kJ (hx.symm.trans hy);subst e;exact .flat (f x (mJ hx))
end L2
namespace L2
open PySem PySem.Spec PyProof.Rows
noncomputable def clOf(env:Env):List (Str×NameKind)→List (Str×Addr)→List (Str×Addr)
| [],cs=>cs
|(n,k)::r,cs=>clOf env r (if(k==NameKind.free)=true then(match env.cells.lookup n with|some a=>(n,a)::cs|none=>cs)else cs)
theorem q5I{scope:Scope}{env:Env}(h:∀y∈scope.names,y.2=.free→∃c,env.cells.lookup y.1=some c):closureFor scope env=pure (clOf env scope.names []):=by(
unfold closureFor
have go:∀(l:List (Str×NameKind)) (cs:List (Str×Addr)),(∀y∈l,y.2=.free→∃c,env.cells.lookup y.1=some c)→(forIn l cs λx r=>(match x with|(name,kind)=>if(kind==NameKind.free)=true then do let a←cellOf env name;pure (ForInStep.yield ((name,a)::r))else pure (ForInStep.yield r):Sem (ForInStep (List (Str×Addr)))))=pure (clOf env l cs):=by
 intro l;induction l with
 |nil=>intro cs _;rfl
 |cons y r ih=>
  intro cs hl;obtain⟨n,k⟩:=y;rw[lB];by_cases hk:(k==NameKind.free)=true
  ·obtain⟨c,e⟩:=hl (n,k) kO (by simpa using hk);have e2:cellOf env n=pure c:=by unfold cellOf;rw[e]
   show(bind (if(k==NameKind.free)=true then _ else _) _:Sem _)=_;rw[kG hk,e2];show(forIn r ((n,c)::cs) _:Sem _)=pure (clOf env r (if(k==NameKind.free)=true then(match env.cells.lookup n with|some a=>(n,a)::cs|none=>cs)else cs));rw[kG hk,e];exact ih _ λy hy=>hl y (kD _ hy)
  show(bind (if(k==NameKind.free)=true then _ else _) _:Sem _)=_;rw[kC hk];show(forIn r cs _:Sem _)=pure (clOf env r (if(k==NameKind.free)=true then(match env.cells.lookup n with|some a=>(n,a)::cs|none=>cs)else cs));rw[kC hk];exact ih _ λy hy=>hl y (kD _ hy)
exact(dB (λz:Sem (List (Str×Addr))=>z >>= λs=>pure s) (go scope.names [] h)).trans rfl)
theorem q5J{env:Env}{x:Str}{c:Addr}:∀(l:List (Str×NameKind)) (cs:List (Str×Addr)),(cs.lookup x=some c→env.cells.lookup x=some c)→(clOf env l cs).lookup x=some c→env.cells.lookup x=some c
| [],cs,hcs,h=>hcs h
|(n,k)::r,cs,hcs,h=>by
 refine q5J r _ ?_ h;intro q;split at q
 ·cases e:env.cells.lookup n with
  |none=>rw[e]at q;exact hcs q
  |some a=>
   rw[e]at q;have q:List.lookup x ((n,a)::cs)=some c:=q;rw[gZ]at q;cases z:x==n with
   |true=>
    rw[z]at q;have z':x=n:=by simpa using z
    rw[z',e,←q]
   |false=>rw[z]at q;exact hcs q
 exact hcs q
theorem q5K{env:Env}{x:Str}{c:Addr}(e:env.cells.lookup x=some c):∀(l:List (Str×NameKind)) (cs:List (Str×Addr)),((x,NameKind.free)∈l∨cs.lookup x=some c)→(clOf env l cs).lookup x=some c
| [],cs,h=>h.resolve_left (by simp)
|(n,k)::r,cs,h=>by
 refine q5K e r _ ?_;by_cases hn:(x==n)=true
 ·have z':x=n:=by simpa using hn
  by_cases hk:(k==NameKind.free)=true
  ·refine .inr ?_;rw[kG hk,←z',e];show List.lookup x ((x,c)::cs)=some c;simp
  rcases h with h|h
  ·rcases kL.mp h with q|q
   ·cases q;exact absurd (by simp) hk
   exact .inl q
  rw[kC hk];exact .inr h
 have nx:x≠n:=λz=>hn (by simp[z]);rcases h with h|h
 ·rcases kL.mp h with q|q
  ·cases q;exact absurd rfl nx
  exact .inl q
 refine .inr ?_;split
 ·cases en:env.cells.lookup n with
  |none=>exact h
  |some a=>
   show List.lookup x ((n,a)::cs)=some c;have hn:(x==n)=false:=by simpa using nx
   rw[gZ,hn];exact h
 exact h
theorem q9C{env:Env}{x:Str}:∀{names:List (Str×NameKind)},(∀y∈names,y.2≠ .cell)→((names.map λ(n,k)=>if(k==NameKind.free&&env.scope.kind== .function&&env.kindOf n==some .cell)then(n,NameKind.cell)else(n,k)).lookup x=some .cell∨(names.map λ(n,k)=>if(k==NameKind.free&&env.scope.kind== .function&&env.kindOf n==some .cell)then(n,NameKind.cell)else(n,k)).lookup x=some .free)→(x,NameKind.free)∈names
| [],_,h=>by simp at h
|(n,k)::r,hc,h=>by
 have ih:=@q9C env x r λy hy=>hc y (kD _ hy);rw[mS]at h;by_cases hq:(k==NameKind.free&&env.scope.kind== .function&&env.kindOf n==some .cell)=true
 ·have hk:k=.free:=by rw[mH,mH]at hq;simpa using hq.1.1
  simp only[kG hq,gZ]at h;cases hx:x==n with
  |true=>
   have e:x=n:=by simpa using hx
   rw[e,hk];exact kO
  |false=>simp only[hx]at h;exact kD _ (ih h)
 simp only[kC hq,gZ]at h;cases hx:x==n with
 |true=>
  simp only[hx]at h;have e:x=n:=by simpa using hx
  rcases h with h|h
  ·cases h;exact absurd rfl (hc _ kO)
  cases h;rw[e];exact kO
 |false=>simp only[hx]at h;exact kD _ (ih h)
theorem q9D{env:Env}{x:Str}(hk:env.scope.kind=.function)(he:env.kindOf x=some .cell):∀{names:List (Str×NameKind)},names.lookup x=some .free→(names.map λ(n,k)=>if(k==NameKind.free&&env.scope.kind== .function&&env.kindOf n==some .cell)then(n,NameKind.cell)else(n,k)).lookup x=some .cell
| [],h=>by simp at h
|(n,k)::r,h=>by
 have ih:=@q9D env x hk he r;rw[mS];rw[gZ]at h;cases hx:x==n with
 |true=>
  simp only[hx]at h;have e:x=n:=by simpa using hx
  cases h;subst e;show List.lookup x ((if(NameKind.free==NameKind.free&&env.scope.kind==ScopeKind.function&&env.kindOf x==some NameKind.cell)=true then(x,NameKind.cell)else(x,NameKind.free))::_)=_;rw[kG (by rw[hk,he];rfl),gZ];simp
 |false=>
  simp only[hx]at h;show List.lookup x ((if(k==NameKind.free&&env.scope.kind==ScopeKind.function&&env.kindOf n==some NameKind.cell)=true then(n,NameKind.cell)else(n,k))::_)=_;by_cases hq:(k==NameKind.free&&env.scope.kind== .function&&env.kindOf n==some .cell)=true
  ·rw[kG hq,gZ];simp only[hx];exact ih h
  rw[kC hq,gZ];simp only[hx];exact ih h
noncomputable abbrev vI(X:Cx)(N:List Str)(scope:Scope)(C:Addr)(fp:List Addr)(s:Shared)(H:Hp)(xe:Value→Shared→Prop):Cx:={ X with N:=N,s₀:=s,H₀:=H,env:=compEnvC scope (clOf X.env scope.names []) C X.env,outer:=X.stack,ex:=fp,fn:=λ_=>false,xe:=xe }
noncomputable def pick(ix:List Nat)(σ:St):St:=ix.map λi=>σ.getD i none
noncomputable def q7D(XN:List Str)(kd:Str→Option NameKind)(names:List (Str×NameKind))(N:List Str)(ix:List Nat):Bool:=(List.range ix.length).all λj=>match N[j]?,ix[j]? with
 |some x,some i=>decide (XN[i]?=some x)&&decide (names.lookup x=some .free)&&decide (kd x=some .cell)
 |_,_=>false
theorem qDF{XN:List Str}{kd:Str→Option NameKind}{names:List (Str×NameKind)}{N:List Str}{ix:List Nat}(h:q7D XN kd names N ix=true){j:Nat}(hj:j<ix.length){x:Str}(hx:N[j]?=some x):
 ∃i,ix[j]?=some i∧XN[i]?=some x∧names.lookup x=some .free∧kd x=some .cell:=by(
unfold q7D at h
rw[gK]at h
have q:=h j (k7.mpr hj)
rw[hx,hZ hj]at q
simp only[mH,kQ]at q
exact⟨_,hZ hj,q.1.1,q.1.2,q.2⟩)
theorem qEV{X:Cx}{pins:List (Addr×Obj)}{σ:St}{H:Hp}{s:Shared}(I:Inv X pins σ H s){N:List Str}{ix:List Nat}{scope:Scope}{fp:List Addr}{xe:Value→Shared→Prop}(hf:∀b∈fp,FpOk X pins H b)(ho:∀b∈fp,∃o,s.heap.get? b=some o)
 (hk:scope.kind=.function) (hc:∀y∈scope.names,y.2≠ .cell) (hfr:∀y∈scope.names,y.2=.free→X.env.kindOf y.1=some .cell) (hcap:q7D X.N X.env.kindOf scope.names N ix=true) (hN:ix.length≤N.length) {h₁:Heap} {tk n:Nat} {m:Str→Option Value}
 (hn:h₁.Ns (s.heap.objs.size+1) m) (hkp:∀b u,s.heap.get? b=some u→h₁.get? b=some u) (hD:h₁.get? s.heap.objs.size=some { cls:=.type "list",data:=.seq ([]:List Value).toArray n }):
 Inv (vI X N scope (s.heap.objs.size+1) fp s H xe) [] (pick ix σ++List.replicate (N.length-ix.length) none) (upd H s.heap.objs.size (.lst [])) { s with heap:=h₁,toks:=tk }:=by(
have fresh:H s.heap.objs.size=none:=I.hok.fresh (kB _)
have fresh1:H (s.heap.objs.size+1)=none:=I.hok.fresh (dF _)
have cel:∀x c,(clOf X.env scope.names []).lookup x=some c→X.env.cells.lookup x=some c:=λx c e=>q5J _ _ (by intro q;simp at q) e
have clt:∀x c,(clOf X.env scope.names []).lookup x=some c→c<s.heap.objs.size:=λx c e=>by obtain⟨v,q⟩:=I.cell x c (cel x c e);exact q.lt
refine⟨⟨I.ok.mod,hk,I.ok.glob,I.ok.blt,dF _,λx y c h1 h2=>I.ok.inj x y c (cel x c h1) (cel y c h2),λx hx=>?_,λx c h=>absurd h kH,I.ok.hd,I.ok.frames,.inl rfl,λb hb=>⟨?_,λx c e=>?_⟩,I.bs,mE I.ok.bsz I.sz,λb o e hb=>?_,λb hb z=>?_,I.stack,I.stkFree⟩,rfl,I.bare,Un.laid hkp (kB _) fresh,⟨m,hn,λi x v e1 e2 e3=>?_⟩,λx c e=>?_,?_,λx c e=>?_,λp hp=>?_,I.hok.laid hkp (kB _) ⟨by simp,[],n,.nil,hD⟩,?_⟩
·have hx:(x,NameKind.free)∈scope.names:=q9C hc hx;obtain⟨c,e⟩:=I.ok.has x (.inl (hfr _ hx rfl));exact⟨c,q5K e _ _ (.inl hx)⟩
·obtain⟨o,e⟩:=ho b hb;exact kZ (rF (kI e))
·exact(hf b hb).2.2.2.2.1 x c (cel x c e)
·rcases(hf b hb).2.2.2.1 with z|z
 ·exact I.ok.noex b o e z
 exact absurd (kY (kI e) (mE I.ok.bsz z)) (gT _)
·rcases kL.mp (I.stkSub b z)with z|z
 ·exact(hf b hb).2.1 z
 exact(hf b hb).2.2.1 z
·have hi:i<ix.length:=by
  by_cases hi:i<ix.length
  ·exact hi
  rw[mQ (by simpa[pick]using hi),g5]at e2;split at e2<;>cases e2
 obtain⟨i0,q1,q2,q3,q4⟩:=qDF hcap hi e1;rw[gM (by simpa[pick]using hi)]at e2;have e2:σ[i0]?=some (some v):=by
  unfold pick at e2;rw[kW,q1]at e2;have e2:σ.getD i0 none=some v:=kJ e2;rw[kM]at e2;cases z:σ[i0]? with
  |none=>rw[z]at e2;cases e2
  |some y=>rw[z]at e2;exact dB some e2
 obtain⟨mX,_,lX⟩:=I.loc;obtain⟨u,r,l⟩:=lX i0 x v q2 e2 (.inr (.inl q4));refine⟨u,r,.inr ⟨.inl (q9D I.ok.kind q4 q3),?_⟩⟩;rcases l with⟨l,_⟩|⟨_,c,e,z⟩
 ·rw[q4]at l;cases l
 obtain⟨o,e',d⟩:=z;exact⟨c,q5K e _ _ (.inl (m8 q3)),o,hkp _ _ e',d⟩
·obtain⟨v,o,e',d⟩:=I.cell x c (cel x c e);exact⟨v,o,hkp _ _ e',d⟩
·show upd H s.heap.objs.size (.lst []) (s.heap.objs.size+1)=none;rw[qE (dZ (rM _))];exact fresh1
·rw[qE (kZ (clt x c e))];exact I.freeC x c (cel x c e)
·obtain⟨p1,p2,p3,p4,p5⟩:=I.pin p (mP _ (by simpa using hp));have lt:=kI p1;exact⟨hkp _ _ p1,by rw[qE (kZ lt)];exact p2,kZ (rF lt),λz=>(kL.mp (I.stkSub _ z)).elim p3 p4,p5⟩
show _=N.length
rw[mU,m7]
simp only[pick,hV]
lia)
noncomputable def PIf(X:Cx)(ifs:List Expr)(t:TT):Prop:=∀(pins:List (Addr×Obj)) (s:Shared) (σ:St) (H:Hp) (Q:Bool→Hp→Prop),Inv X pins σ H s→t σ H Q→wpAny (model X.prog X.w) X.A (forIn ifs true λc r=>if r=true then do let ok←isTrue c X.env (eval c X.env);pure (ForInStep.yield ok)else pure (ForInStep.yield r)) (TP X pins σ Q) X.xe s
noncomputable def q16:TT:=λ_ H Q=>Q true H
theorem q9E{A B:Hp→Prop}{σ:St}{H:Hp}(h:A H):q16 σ H (λb H6=>if b=true then A H6 else B H6):=by show if true=true then A H else B H;rw[kG rfl];exact h
theorem vX{X:Cx}:PIf X [] q16:=λpins s σ H Q I h=>kU ⟨H,I,h⟩
theorem vY{X:Cx}{c:Expr}{t:TT}(hc:PT X c t):PIf X [c] t:=λpins s σ H Q I h=>by(
rw[lB]
show wpAny _ _ (bind (if true=true then _ else _) _) _ _ _
rw[kG rfl]
refine kA (kA (thn (hc pins s σ H Q I h) λb s1 q=>?_))
exact kU (kU q))
noncomputable def tLC(wi:TI)(g:TG)(tc:TT)(te:TE)(ix:List Nat)(k:Nat):TE:=λσ H Q=>wi σ H λJ H1=>∀D H2,H1 D=none→Same H1 H2→H2 D=some (.lst [])→∃W:Nat→Nat→Hp→Prop,(∃m,W 0 m H2)∧∀i m H3,W i m H3→(J.stop i H3∧Q (.ref D) H3)∨(J.go i H3∧∃N:Hp→Prop,(∀H',N H'→∃m',m'<m∧W (i+1) m' H')∧∀x H4,J.yld i H3 x H4→g x (pick ix σ++List.replicate k none) H4 λσ5 H5=>tc σ5 H5 λb H6=>
   if b=true then te σ5 H6 (λv H7=>∃vs,H7 D=some (.lst vs)∧vs.length<sizeLine∧N (upd H7 D (.lst (vs++[v]))))else N H6)
noncomputable def Own(g:TG)(k:Nat):Prop:=∀x σ H Q,g x σ H Q→g x σ H λσ' H'=>Q σ' H'∧σ'.length=σ.length∧∀j,j<k→σ'[j]?=σ[j]?
noncomputable def OwnS(g:TGs)(k:Nat):Prop:=∀(xs:List V) (σ:St) (H:Hp) (Q:St→Hp→Prop) (σ0:St),σ.length=σ0.length→(∀j,j<k→σ[j]?=σ0[j]?)→g xs σ H Q→g xs σ H λσ' H'=>Q σ' H'∧σ'.length=σ0.length∧∀j,j<k→σ'[j]?=σ0[j]?
theorem qEW{k:Nat}:OwnS gNil k:=λxs σ H Q σ0 h1 h2 ⟨e,q⟩=>⟨e,q,h1,h2⟩
theorem q9F{i k:Nat}{u:TGs}(h:k≤i)(hu:OwnS u k):OwnS (qFV (zF i) u) k:=λxs σ H Q σ0 h1 h2 ⟨v,r,e,q⟩=>⟨v,r,e,hu r (σ.set i (some v)) H Q σ0 (gD.trans h1) (λj hj=>by rw[rG (by lia)];exact h2 j hj) q⟩
theorem qEX{K:PySem.W.Frag}{n k:Nat}{g:TGs}(h:OwnS g k):Own (gTup K n g) k:=λx σ H Q ⟨a,xs,e1,e2,e3,q⟩=>⟨a,xs,e1,e2,e3,h xs σ H Q σ rfl (λ_ _=>rfl) q⟩
theorem yC{i k:Nat}(h:k≤i):Own (zF i) k:=λx σ H Q q=>⟨q,gD,λj hj=>by rw[rG (by lia)]⟩
theorem qEY{P:Program}{w:World}{A:Around}{R:Result→Shared→Prop}{s:Shared}{elt tg iter:Expr}{ifs:List Expr}{sc:Scope}{pos:Pos}{it acc:Value}{env:Env}(J:Nat→Shared→Prop)
 (turn:∀n s1,J n s1→wpAny (model P w) A (pyNext it) (λr s2=>match r with
  |none=>R (.ok .next) s2
  |some v=>wpAny (model P w) A (letOwnedTupleGo tg it v) (λ_ s3=>wpAny (model P w) A (assign tg env v) (λ_ s4=>
   wpAny (model P w) A (forIn ifs true λc r=>if r=true then do let ok←isTrue c env (eval c env);pure (ForInStep.yield ok)else pure (ForInStep.yield r)) (λok s5=>
    if ok=true then wpAny (model P w) A (eval elt env) (λx s6=>wpAny (model P w) A (call (.builtin "list.append") [acc,x]) (λ_ s7=>∃m,m<n∧J m s7) (notedBy (model P w) A env λe s'=>R (.error e) s') s6) (notedBy (model P w) A env λe s'=>R (.error e) s') s5
    else ∃m,m<n∧J m s5) (notedBy (model P w) A env λe s'=>R (.error e) s') s4) (notedBy (model P w) A env λe s'=>R (.error e) s') s3) (notedBy (model P w) A env λe s'=>R (.error e) s') s2) (notedBy (model P w) A env λe s'=>R (.error e) s') s1)
 (n:Nat) (h:J n s):codeAny (model P w) A (.compLoop (.ListComp elt [⟨tg,iter,ifs,0⟩] sc pos) 0 it acc env) R s:=by(
refine codeAny_loop rfl J (λm s1 hJ=>?_) n h
show wpAny _ A ((compTurn _ 0 it acc env).onRaise (λx=>do noteFrame x env;theTreesLotGoes x)) _ _ s1
refine wpAny_noted ?_
rw[compTurn_list]
refine kA (cU (kA (thn (turn m s1 hJ) λr s2 h2=>?_)))
cases r with
|none=>exact kU h2
|some v=>
 refine kA (thn h2 λ_ s3 h3=>kA (thn h3 λ_ s4 h4=>kA (thn h4 λok s5 h5=>?_)));cases ok with
 |false=>exact kU ⟨rfl,h5⟩
 |true=>exact kA (kA (thn h5 λx s6 h6=>kA (thn h6 λ_ s7 h7=>kU (kU ⟨rfl,h7⟩)))))
structure TurnC(ok:Cx→Prop)(P:Program)(w:World)(K:PySem.W.Frag)(tg:Expr)(J:It)(fp:List Addr)(it:Addr)(tn:Nat→Heap→Prop):Prop where
obj:∀i h,tn i h→∀b∈fp,∃o,h.get? b=some o∧∀v,o.data≠ .cell v
keep:∀i h h',tn i h→(∀b∈fp,∀o,h.get? b=some o→h'.get? b=some o)→tn i h'
item:∀(X:Cx),X.prog=P→X.w=w→X.K=K→ok X→∀(i:Nat) (pins:List (Addr×Obj)) (s:Shared) (σ:St) (H:Hp) (E:Value→Shared→Prop),Inv X pins σ H s→(∀b∈fp,FpOk X pins H b)→tn i s.heap→J.go i H→wpAny (model P w) X.A (pyNext (.ref it)) (λr s1=>∃u,r=some u∧wpAny (model P w) X.A (letOwnedTupleGo tg (.ref it) u) (λ_ s2=>∃x H',Inv X pins σ H' s2∧RelV x u∧J.yld i H x H'∧tn (i+1) s2.heap∧∀b∈fp,H' b=none) E s1) E s
done:∀(X:Cx),X.prog=P→X.w=w→X.K=K→ok X→∀(i:Nat) (pins:List (Addr×Obj)) (s:Shared) (σ:St) (H:Hp) (E:Value→Shared→Prop),Inv X pins σ H s→(∀b∈fp,FpOk X pins H b)→tn i s.heap→J.stop i H→wpAny (model P w) X.A (pyNext (.ref it)) (λr s1=>r=none∧Inv X pins σ H s1) E s
self:∀(A:Around) (i:Nat) (s:Shared) (Q:Value→Shared→Prop) (E:Value→Shared→Prop),tn i s.heap→Q (.ref it) s→wpAny (model P w) A (pyIter (.ref it)) Q E s
noncomputable def PIc(ok:Cx→Prop)(X:Cx)(tg iter:Expr)(wi:TI):Prop:=∀(pins:List (Addr×Obj)) (s:Shared) (σ:St) (H:Hp) (R:It→Hp→Prop),Inv X pins σ H s→wi σ H R→wpAny (model X.prog X.w) X.A (eval iter X.env) (λv s1=>wpAny (model X.prog X.w) X.A (pyIter v) (λitv s2=>∃(it:Addr) (fp:List Addr) (tn:Nat→Heap→Prop) (J:It) (H':Hp),itv=.ref it∧Inv X pins σ H' s2∧TurnC ok X.prog X.w X.K tg J fp it tn∧tn 0 s2.heap∧(∀b∈fp,FpOk X pins H' b)∧R J H') X.xe s1) X.xe s
theorem PI.c{X:Cx}{tg iter:Expr}{wi:TI}(h:PI X tg iter wi):PIc (λX=>X.calm=true) X tg iter wi:=λpins s σ H R I q=>thn (h pins s σ H R I q) λv s1 h1=>thn h1 λitv s2 ⟨it,fp,tn,J,H',a,b,T,r⟩=>⟨it,fp,tn,J,H',a,b,⟨T.obj,T.keep,T.item,T.done,T.self⟩,r⟩
theorem qB4{X:Cx}{elt iter tg:Expr}{ifs:List Expr}{scope:Scope}{pos cp:Pos}{wi:TI}{g:TG}{tc:TT}{te:TE}{use:Option (Value→Sem Unit)}{QQ:Value→Shared→Prop}{pins:List (Addr×Obj)}{s:Shared}{σ:St}{H:Hp}{Q:VK}(N:List Str)(ix:List Nat)(ok:Cx→Prop)(hok:∀C fp s H xe,ok (vI X N scope C fp s H xe))(hi:PIc ok X tg iter wi)
 (hg:∀C fp s H xe,PG (vI X N scope C fp s H xe) tg g) (hif:∀C fp s H xe,PIf (vI X N scope C fp s H xe) ifs tc) (he:∀C fp s H xe,PE (vI X N scope C fp s H xe) elt te)
 (hk:scope.kind=.function) (hc:∀y∈scope.names,y.2≠ .cell) (hfr:∀y∈scope.names,y.2=.free→X.env.kindOf y.1=some .cell) (hcap:q7D X.N X.env.kindOf scope.names N ix=true) (hN:ix.length≤N.length)
 (hnames:∀x∈scope.names,x.2=.local→scope.names.lookup x.1=some .local) (hown:Own g ix.length) (I:Inv X pins σ H s) (h:tLC wi g tc te ix (N.length-ix.length) σ H Q)
 (hfin:∀(C D:Addr) (H':Hp) (s':Shared) (m:Str→Option Value),s'.heap.Ns C m→FpOk X pins H' C→(∀h',Heap.SameBut C s'.heap h'→Inv X pins σ H' { s' with heap:=h' })→Q (.ref D) H'→compPost (model X.prog X.w) X.A X.xe use QQ (.ref D) C (.ok .next) s')
 (hs:∀x,foldedSetIterable iter X.env x=pure x:=by intro _;rfl):
 wpAny (model X.prog X.w) X.A (comprehension (.ListComp elt [⟨tg,iter,ifs,0⟩] scope pos) scope X.env cp (newList []) false (eval iter X.env) use) QQ X.xe s:=by(
refine wpAny_comprehension_free (use:=use) (cl:=clOf X.env scope.names []) rfl hs (q5I λy hy hyf=>I.ok.has _ (.inl (hfr y hy hyf))) hk hnames (thn (hi pins s σ H _ I h) λv s1 h1=>thn h1 λitv s2 h2=>?_)
obtain⟨it,fp,tn,J,H2,e,I2,T,st2,f2,q2⟩:=h2
subst e
refine nL (sD hc (by intro y hy;simp at hy) (λh₁ hns₁ hsb₁=>?_) hk)
dsimp only at hns₁ hsb₁ ⊢
rw[rH]at hns₁ hsb₁ ⊢
have old:∀b o,s2.heap.get? b=some o→h₁.get? b=some o:=λb o e=>hsb₁.extBut b o (kZ (rF (kI e))) (hX _ (hX _ e))
have hacc:h₁.get? s2.heap.objs.size=some { cls:=.type "list",data:=.seq ([]:List Value).toArray }:=hsb₁.extBut _ _ (kZ (rM _)) (hX _ (kR _ rfl))
have fob:∀b∈fp,∃o,s2.heap.get? b=some o:=λb hb=>let⟨o,e,_⟩:=T.obj _ _ st2 b hb;⟨o,e⟩
have fresh:H2 s2.heap.objs.size=none:=I2.hok.fresh (kB _)
obtain⟨W,⟨m0,w0⟩,turn⟩:=q2 s2.heap.objs.size (upd H2 s2.heap.objs.size (.lst [])) fresh (Same.upd fresh) qG
have fin:∀{pY σ' H' s'},Inv (vI X N scope (s2.heap.objs.size+1) fp s2 H2 (notedBy (model X.prog X.w) X.A (compEnvC scope (clOf X.env scope.names []) (s2.heap.objs.size+1) X.env) λe s'=>compPost (model X.prog X.w) X.A X.xe use QQ (.ref s2.heap.objs.size) (s2.heap.objs.size+1) (.error e) s')) pY σ' H' s'→Q (.ref s2.heap.objs.size) H'→compPost (model X.prog X.w) X.A X.xe use QQ (.ref s2.heap.objs.size) (s2.heap.objs.size+1) (.ok .next) s':=fun {pY σ' H' s'} J q=>by
 obtain⟨m,hm,_⟩:=id J.loc;refine hfin (s2.heap.objs.size+1) s2.heap.objs.size H' s' m hm (I2.fpOk (dF _) J.free) (λh' sb=>?_) q;have eb:∀b o,b≠s2.heap.objs.size+1→s'.heap.get? b=some o→h'.get? b=some o:=λb o nb e=>sb.extBut b o nb e;have low:∀b o,s2.heap.get? b=some o→b≠s2.heap.objs.size+1:=λb o e=>kZ (rF (kI e));have u:=J.base;have nC:H' (s2.heap.objs.size+1)=none:=J.free;refine I2.call' (ch:=fp) (s':={ s' with heap:=h' }) J.os ⟨λb o e n1 n2 n3=>eb b o (low b o e) (u.keep b o e n1 n2 n3),λb o e n1 n2 n3=>?_,u.free,λb o e n1=>?_,u.tups,u.frzs,u.tbls⟩ (λb o e=>?_) J.bare λb hb=>⟨(f2 b hb).2.2.2.1,(f2 b hb).2.1,(f2 b hb).2.2.2.2.1,(f2 b hb).2.2.2.2.2⟩
 ·obtain⟨sl,q1⟩:=u.slot b o e n1 n2 n3;exact⟨sl,eb b _ (low b o e) q1⟩
 ·obtain⟨o',q1⟩:=u.there b o e n1;exact⟨o',eb b _ (low b o e) q1⟩
 refine(J.hok b o e).stay (λc v hc q1=>eb c v ?_ q1) (λ_ q1=>q1) λ_ _ q1=>q1;rcases hc with rfl|z
 ·exact qF e nC
 exact qF z nC
have IY:Inv (vI X N scope (s2.heap.objs.size+1) fp s2 H2 (notedBy (model X.prog X.w) X.A (compEnvC scope (clOf X.env scope.names []) (s2.heap.objs.size+1) X.env) λe s'=>compPost (model X.prog X.w) X.A X.xe use QQ (.ref s2.heap.objs.size) (s2.heap.objs.size+1) (.error e) s')) [] (pick ix σ++List.replicate (N.length-ix.length) none) (upd H2 s2.heap.objs.size (.lst [])) { s2 with heap:=h₁,toks:=s2.toks+([]:List (Str×Value)).length }:=qEV I2 f2 fob hk hc hfr hcap hN hns₁ old hacc
generalize hY:vI X N scope (s2.heap.objs.size+1) fp s2 H2 (notedBy (model X.prog X.w) X.A (compEnvC scope (clOf X.env scope.names []) (s2.heap.objs.size+1) X.env) λe s'=>compPost (model X.prog X.w) X.A X.xe use QQ (.ref s2.heap.objs.size) (s2.heap.objs.size+1) (.error e) s')=Y at IY fin
have hgY:PG Y tg g:=hY▸hg _ _ _ _ _
have hifY:PIf Y ifs tc:=hY▸hif _ _ _ _ _
have heY:PE Y elt te:=hY▸he _ _ _ _ _
have hP:Y.prog=X.prog:=by rw[←hY]
have hw:Y.w=X.w:=by rw[←hY]
have hK:Y.K=X.K:=by rw[←hY]
have hcl:ok Y:=hY▸hok _ _ _ _ _
have stat:∀{H':Hp},(∀b∈fp,H' b=none)→∀b∈fp,FpOk Y [] H' b:=fun {H'} hn b hb=>by
 rw[←hY];refine⟨hn b hb,?_,λz=>?_,.inl hb,λx c e=>?_,λp hp=>(f2 b hb).2.2.2.2.2 p (mP _ (by simpa using hp))⟩
 ·obtain⟨o,e⟩:=fob b hb;exact kZ (rF (kI e))
 ·rcases kL.mp (I2.stkSub b z)with z|z
  ·exact(f2 b hb).2.1 z
  exact(f2 b hb).2.2.1 z
 exact(f2 b hb).2.2.2.2.1 x c (q5J _ _ (by intro q;simp at q) e)
have loop:codeAny (model X.prog X.w) X.A (.compLoop (.ListComp elt [⟨tg,iter,ifs,0⟩] scope pos) 0 (.ref it) (.ref s2.heap.objs.size) (compEnvC scope (clOf X.env scope.names []) (s2.heap.objs.size+1) X.env))
 (compPost (model X.prog X.w) X.A X.xe use QQ (.ref s2.heap.objs.size) (s2.heap.objs.size+1)) { s2 with heap:=h₁,toks:=s2.toks+([]:List (Str×Value)).length }:=by
 refine qEY (λn s'=>∃i H',Inv Y [] (pick ix σ++List.replicate (N.length-ix.length) none) H' s'∧tn i s'.heap∧(∀b∈fp,H' b=none)∧W i n H') ?_ m0
  ⟨0,_,IY,T.keep _ _ _ st2 (λb hb o e=>old b o e),λb hb=>by obtain⟨o,e⟩:=fob b hb;rw[qE (kZ (kI e))];exact(f2 b hb).1,w0⟩
 rintro n s3 ⟨i,H3,I3,st3,fr3,w3⟩
 rcases turn i n H3 w3 with⟨stop,qn⟩|⟨go,NN,hNN,step⟩
 ·have d:=T.done Y hP hw hK hcl i [] s3 _ H3 Y.xe I3 (stat fr3) st3 stop;subst hY;refine thn d λr s4 hZ=>?_;obtain⟨hr,I4⟩:=hZ;subst hr;exact fin I4 qn
 have d:=T.item Y hP hw hK hcl i [] s3 _ H3 Y.xe I3 (stat fr3) st3 go;have again:∀{p5:List (Addr×Obj)} {s5 s8:Shared} {σ6:St} {H8:Hp},p5=q57 fp s5.heap→tn (i+1) s5.heap→σ6.length=(pick ix σ++List.replicate (N.length-ix.length) none).length→(∀j,j<ix.length→σ6[j]?=(pick ix σ++List.replicate (N.length-ix.length) none)[j]?)→Inv Y ([]++p5) σ6 H8 s8→NN H8→∃m',m'<n∧∃i H',Inv Y [] (pick ix σ++List.replicate (N.length-ix.length) none) H' s8∧tn i s8.heap∧(∀b∈fp,H' b=none)∧W i m' H':=fun {p5 s5 s8 σ6 H8} e5 st5 l6 k6 I8 q8=>by
  subst e5;obtain⟨m',hm,w8⟩:=hNN _ q8;refine⟨m',hm,i+1,H8,I8.unpinned.weak l6.symm (λj v e=>?_),T.keep _ _ _ st5 λb hb o e=>(I8.pin (b,o) (kP _ (kP _ (v3 hb e)))).1,λb hb=>?_,w8⟩
  ·by_cases hj:j<ix.length
   ·rw[k6 j hj];exact e
   rw[mQ (by simpa[pick]using hj),g5]at e;split at e<;>cases e
  obtain⟨o,e,_⟩:=T.obj _ _ st5 b hb;exact(I8.pin (b,o) (kP _ (kP _ (v3 hb e)))).2.1
 have tail:∀(r:Option Value) (s4:Shared),(∃u,r=some u∧wpAny (model Y.prog Y.w) Y.A (letOwnedTupleGo tg (.ref it) u) (λ_ s2=>∃x H',Inv Y [] (pick ix σ++List.replicate (N.length-ix.length) none) H' s2∧RelV x u∧J.yld i H3 x H'∧tn (i+1) s2.heap∧∀b∈fp,H' b=none) Y.xe s4)→(match r with
  |none=>compPost (model X.prog X.w) X.A X.xe use QQ (.ref s2.heap.objs.size) (s2.heap.objs.size+1) (.ok .next) s4
  |some v=>wpAny (model Y.prog Y.w) Y.A (letOwnedTupleGo tg (.ref it) v) (λ_ s₁=>wpAny (model Y.prog Y.w) Y.A (assign tg Y.env v) (λ_ s₂=>
   wpAny (model Y.prog Y.w) Y.A (forIn ifs true λc r=>if r=true then do let ok←isTrue c Y.env (eval c Y.env);pure (ForInStep.yield ok)else pure (ForInStep.yield r)) (λok s₃=>
    if ok=true then wpAny (model Y.prog Y.w) Y.A (eval elt Y.env) (λx s₄=>wpAny (model Y.prog Y.w) Y.A (call (.builtin "list.append") [.ref s2.heap.objs.size,x]) (λ_ s₅=>∃m,m<n∧∃i H',Inv Y [] (pick ix σ++List.replicate (N.length-ix.length) none) H' s₅∧tn i s₅.heap∧(∀b∈fp,H' b=none)∧W i m H') Y.xe s₄) Y.xe s₃
    else ∃m,m<n∧∃i H',Inv Y [] (pick ix σ++List.replicate (N.length-ix.length) none) H' s₃∧tn i s₃.heap∧(∀b∈fp,H' b=none)∧W i m H') Y.xe s₂) Y.xe s₁) Y.xe s4):=by
  rintro r s4 ⟨u,rfl,h4⟩
  dsimp only;refine thn h4 λ_ s5 hZ=>?_;obtain⟨x,H5,I5,r5,y5,st5,fr5⟩:=hZ;have I5':=I5.pinned (stat fr5) (T.obj _ _ st5);refine thn (hgY _ s5 _ H5 x u _ I5' r5 (hown _ _ _ _ (step x H5 y5))) λ_ s6 hZ=>?_;obtain⟨σ6,H6,I6,q6,l6,k6⟩:=hZ;refine thn (hifY _ s6 σ6 H6 _ I6 q6) λb s7 hZ=>?_;obtain⟨H7,I7,q7⟩:=hZ;cases b with
  |false=>rw[kC (by decide)]at q7 ⊢;exact again rfl st5 l6 k6 I7 q7
  |true=>rw[kG rfl]at q7 ⊢;refine thn (heY _ s7 σ6 H7 _ I7 q7) λy s8 hZ=>?_;obtain⟨v,H8,I8,r8,vs,e8,hz,q8⟩:=hZ;refine thn (q1Z (X:=Y) _ s8 σ6 H8 (.ref s2.heap.objs.size) [v] (.ref s2.heap.objs.size) [y] (λ_ H9=>NN H9) I8 rfl (.cons r8 .nil) ⟨s2.heap.objs.size,vs,v,rfl,rfl,e8,hz,q8⟩) λ_ s9 hZ=>?_;obtain⟨_,H9,I9,_,q9⟩:=hZ;exact again rfl st5 l6 k6 I9 q9
 subst hY;exact thn d tail
exact codeAny_compStart_list loop (T.self X.A 0 _ _ _ (T.keep _ _ _ st2 λb hb o e=>old b o e) loop))
theorem qJ3{X:Cx}{elt iter tg:Expr}{ifs:List Expr}{scope:Scope}{pos:Pos}{wi:TI}{g:TG}{tc:TT}{te:TE}(N:List Str)(ix:List Nat)(hcalm:X.calm=true)(hi:PI X tg iter wi)
 (hg:∀C fp s H xe,PG (vI X N scope C fp s H xe) tg g) (hif:∀C fp s H xe,PIf (vI X N scope C fp s H xe) ifs tc) (he:∀C fp s H xe,PE (vI X N scope C fp s H xe) elt te)
 (hk:scope.kind=.function) (hc:∀y∈scope.names,y.2≠ .cell) (hfr:∀y∈scope.names,y.2=.free→X.env.kindOf y.1=some .cell) (hcap:q7D X.N X.env.kindOf scope.names N ix=true) (hN:ix.length≤N.length)
 (hnames:∀x∈scope.names,x.2=.local→scope.names.lookup x.1=some .local) (hown:Own g ix.length) (hs:∀x,foldedSetIterable iter X.env x=pure x:=by intro _;rfl):
 PE X (.ListComp elt [⟨tg,iter,ifs,0⟩] scope pos) (tLC wi g tc te ix (N.length-ix.length)):=by intro pins s σ H Q I h;rw[eval_ListComp];exact qB4 N ix _ (λ_ _ _ _ _=>hcalm) hi.c hg hif he hk hc hfr hcap hN hnames hown I h (λC D H' s' m hm fok inv q=>⟨m,hm,λh' sb=>⟨.ref D,H',inv h' sb,rfl,q⟩⟩) hs
noncomputable def qB5(XN:List Str)(kd:Str→Option NameKind)(sc:Scope)(N:List Str)(ix:List Nat):Bool:=decide (sc.kind=.function)&&sc.names.all (λy=>decide (y.2≠ .cell)&&(decide (y.2≠ .free)||decide (kd y.1=some .cell))&&(decide (y.2≠ .local)||decide (sc.names.lookup y.1=some .local)))&&q7D XN kd sc.names N ix&&decide (ix.length≤N.length)
theorem yV{X:Cx}{elt iter tg:Expr}{ifs:List Expr}{scope:Scope}{pos:Pos}{wi:TI}{g:TG}{tc:TT}{te:TE}(N:List Str)(ix:List Nat)(hcalm:X.calm=true)(hi:PI X tg iter wi)
 (hg:∀C fp s H xe,PG (vI X N scope C fp s H xe) tg g) (hif:∀C fp s H xe,PIf (vI X N scope C fp s H xe) ifs tc) (he:∀C fp s H xe,PE (vI X N scope C fp s H xe) elt te)
 (ok:qB5 X.N X.env.kindOf scope N ix=true) (hown:Own g ix.length) (hs:∀x,foldedSetIterable iter X.env x=pure x:=by intro _;rfl):
 PE X (.ListComp elt [⟨tg,iter,ifs,0⟩] scope pos) (tLC wi g tc te ix (N.length-ix.length)):=by(
unfold qB5 at ok
rw[mH,mH,mH,gK]at ok
obtain⟨⟨⟨h1,h2⟩,h3⟩,h4⟩:=ok
have h2':∀y∈scope.names,y.2≠ .cell∧(y.2≠ .free∨X.env.kindOf y.1=some .cell)∧(y.2≠ .local∨scope.names.lookup y.1=some .local):=λy hy=>by have q:=h2 y hy;rw[mH,mH,d7,d7,kQ,kQ,kQ,kQ,kQ]at q;exact⟨q.1.1,q.1.2,q.2⟩
exact qJ3 N ix hcalm hi hg hif he (m6 h1) (λy hy=>(h2' y hy).1) (λy hy e=>(h2' y hy).2.1.resolve_left (λz=>z e)) h3 (m6 h4) (λy hy e=>(h2' y hy).2.2.resolve_left (λz=>z e)) hown hs)
theorem q9G{lo:Int}{n:Nat}{D:Addr}{H2:Hp}{g:TG}{tc:TT}{te:TE}{σ0:St}{Q:VK}(Pv:Nat→Hp→Prop)(h0:Pv 0 H2)
 (hs:∀(i:Nat) H,i<n→Pv i H→g (.int (lo+i)) σ0 H λσ5 H5=>tc σ5 H5 λb H6=>if b=true then te σ5 H6 (λv H7=>∃vs,H7 D=some (.lst vs)∧vs.length<sizeLine∧Pv (i+1) (upd H7 D (.lst (vs++[v]))))else Pv (i+1) H6) (hd:∀H,Pv n H→Q (.ref D) H):
 ∃W:Nat→Nat→Hp→Prop,(∃m,W 0 m H2)∧∀i m H3,W i m H3→((Itr lo n).stop i H3∧Q (.ref D) H3)∨((Itr lo n).go i H3∧∃N:Hp→Prop,(∀H',N H'→∃m',m'<m∧W (i+1) m' H')∧∀x H4,(Itr lo n).yld i H3 x H4→g x σ0 H4 λσ5 H5=>tc σ5 H5 λb H6=>
   if b=true then te σ5 H6 (λv H7=>∃vs,H7 D=some (.lst vs)∧vs.length<sizeLine∧N (upd H7 D (.lst (vs++[v]))))else N H6):=by(
refine⟨λi m H=>m=n-i∧i≤n∧Pv i H,⟨n,by simp,mI _,h0⟩,?_⟩
rintro i m H ⟨rfl,hi,p⟩
by_cases hlt:i<n
·refine .inr ⟨hlt,Pv (i+1),λH' z=>⟨n-(i+1),by lia,rfl,by lia,z⟩,?_⟩;rintro x H4 ⟨rfl,rfl⟩
 exact hs i _ hlt p
obtain rfl:i=n:=by lia
exact .inl ⟨kB _,hd _ p⟩)
theorem qB6{K:PySem.W.Frag}{a:Addr}{xs:List V}{D:Addr}{H2:Hp}{g:TG}{tc:TT}{te:TE}{σ0:St}{Q:VK}(Pv:Nat→Hp→Prop)(h0:Pv 0 H2)(hl:∀i H,Pv i H→SqL K H a xs)
 (hs:∀(i:Nat) x H,xs[i]?=some x→Pv i H→g x σ0 H λσ5 H5=>tc σ5 H5 λb H6=>if b=true then te σ5 H6 (λv H7=>∃vs,H7 D=some (.lst vs)∧vs.length<sizeLine∧Pv (i+1) (upd H7 D (.lst (vs++[v]))))else Pv (i+1) H6) (hd:∀H,Pv xs.length H→Q (.ref D) H):
 ∃W:Nat→Nat→Hp→Prop,(∃m,W 0 m H2)∧∀i m H3,W i m H3→((Itl K a).stop i H3∧Q (.ref D) H3)∨((Itl K a).go i H3∧∃N:Hp→Prop,(∀H',N H'→∃m',m'<m∧W (i+1) m' H')∧∀x H4,(Itl K a).yld i H3 x H4→g x σ0 H4 λσ5 H5=>tc σ5 H5 λb H6=>
   if b=true then te σ5 H6 (λv H7=>∃vs,H7 D=some (.lst vs)∧vs.length<sizeLine∧N (upd H7 D (.lst (vs++[v]))))else N H6):=by(
refine⟨λi m H=>m=xs.length-i∧i≤xs.length∧Pv i H,⟨xs.length,by simp,mI _,h0⟩,?_⟩
rintro i m H ⟨rfl,hi,p⟩
have hq:=hl i H p
by_cases hlt:i<xs.length
·have e1:xs[i]?=some xs[i]:=hZ hlt;refine .inr ⟨⟨xs,_,hq,e1⟩,Pv (i+1),λH' z=>⟨xs.length-(i+1),by lia,rfl,by lia,z⟩,?_⟩;rintro x H4 ⟨rfl,hx⟩
 exact hs i x _ (hx xs hq) p
obtain rfl:i=xs.length:=by lia
exact .inl ⟨⟨xs,hq,kB _⟩,hd _ p⟩)
theorem qC4{lo:Int}{n k:Nat}{D:Addr}{H2:Hp}{te:TE}{σ0:St}{Q:VK}(Pv:Nat→Hp→Prop)(h0:Pv 0 H2)
 (hs:∀(i:Nat) H,i<n→Pv i H→te (σ0.set k (some (.int (lo+i)))) H (λv H7=>∃vs,H7 D=some (.lst vs)∧vs.length<sizeLine∧Pv (i+1) (upd H7 D (.lst (vs++[v]))))) (hd:∀H,Pv n H→Q (.ref D) H):
 ∃W:Nat→Nat→Hp→Prop,(∃m,W 0 m H2)∧∀i m H3,W i m H3→((Itr lo n).stop i H3∧Q (.ref D) H3)∨((Itr lo n).go i H3∧∃N:Hp→Prop,(∀H',N H'→∃m',m'<m∧W (i+1) m' H')∧∀x H4,(Itr lo n).yld i H3 x H4→zF k x σ0 H4 λσ5 H5=>q16 σ5 H5 λb H6=>if b=true then te σ5 H6 (λv H7=>∃vs,H7 D=some (.lst vs)∧vs.length<sizeLine∧N (upd H7 D (.lst (vs++[v]))))else N H6):=q9G (g:=zF k) (tc:=q16) Pv h0 (λi H hi p=>q9E (σ:=σ0.set k (some (.int (lo+i)))) (A:=λH6=>te (σ0.set k (some (.int (lo+i)))) H6 _) (B:=λH6=>Pv (i+1) H6) (hs i H hi p)) hd
theorem qDG{K:PySem.W.Frag}{a:Addr}{xs:List V}{k:Nat}{D:Addr}{H2:Hp}{te:TE}{σ0:St}{Q:VK}(Pv:Nat→Hp→Prop)(h0:Pv 0 H2)(hl:∀i H,Pv i H→SqL K H a xs)
 (hs:∀(i:Nat) x H,xs[i]?=some x→Pv i H→te (σ0.set k (some x)) H (λv H7=>∃vs,H7 D=some (.lst vs)∧vs.length<sizeLine∧Pv (i+1) (upd H7 D (.lst (vs++[v]))))) (hd:∀H,Pv xs.length H→Q (.ref D) H):
 ∃W:Nat→Nat→Hp→Prop,(∃m,W 0 m H2)∧∀i m H3,W i m H3→((Itl K a).stop i H3∧Q (.ref D) H3)∨((Itl K a).go i H3∧∃N:Hp→Prop,(∀H',N H'→∃m',m'<m∧W (i+1) m' H')∧∀x H4,(Itl K a).yld i H3 x H4→zF k x σ0 H4 λσ5 H5=>q16 σ5 H5 λb H6=>if b=true then te σ5 H6 (λv H7=>∃vs,H7 D=some (.lst vs)∧vs.length<sizeLine∧N (upd H7 D (.lst (vs++[v]))))else N H6):=qB6 (g:=zF k) (tc:=q16) Pv h0 hl (λi x H hx p=>q9E (σ:=σ0.set k (some x)) (A:=λH6=>te (σ0.set k (some x)) H6 _) (B:=λH6=>Pv (i+1) H6) (hs i x H hx p)) hd
noncomputable def rEmp(K:PySem.W.Frag):R2:=λx y H Q=>∃p xs e,x=.ref p∧y=.ref e∧SqL K H p xs∧SqL K H e []∧Q (.bl (decide (xs=[]))) H
theorem qDH{X:Cx}(hu:X.A.units+64<cLine):OpR X (compareOp .Eq) (rEmp X.K):=by(
intro pins s σ H x y v u Q I rx ry hZ
obtain⟨p,xs,e,ex,ey,hp,he,q⟩:=hZ
subst ex ey
cases rx
cases ry
obtain⟨i1,r1,p1,_⟩:=I.list hp
obtain⟨i2,r2,p2,_⟩:=I.list he
have l1:=r1.length
have l2:=r2.length
cases xs with
|nil=>exact lA (e:=λ_=>true) p1.isList p2.isList (by simp at l1 l2 ⊢;lia) (by lia) (λj h1 h2=>by simp at l1 h1;lia) ⟨.bl true,H,I,by rw[zH];rfl,q⟩
|cons z zs=>exact SeqAt.eq_list_lengthsAt p1.isList p2.isList (by simp at l1 l2 ⊢;lia) (by lia) ⟨.bl false,H,I,rfl,q⟩)
section
variable{X:Cx}{o e f:Expr}{apos cpos:Pos}{td ty tx:TE}
theorem qG4{P:Program}{w:World}{k:Key}{u:Value}(h:(jB P w).is k u=true):RelV (kV k) u:=by(
cases k with
|inl i=>exact nB h
|inr x=>exact sI h)
end
theorem q4X:∀{ns:List Int} {vs:List Value},Vals (ns.map V.int) vs→IntsAre vs ns
| [],_,.nil=>.nil
|n::ns,_,.cons h t=>by obtain⟨t0,rfl⟩:=h;exact .cons n t0 (q4X t)
section
variable{X:Cx}
theorem q0E(hc:X.calm=true):vF X (.builtin "sum") (λxs H Q=>∃(p:Addr) (ns:List Int),xs=[.ref p]∧SqL X.K H p (ns.map V.int)∧Q (.int ns.sum) H):=by(
intro pins s σ H xs us Q I r hZ
obtain⟨p,ns,ex,hq,q⟩:=hZ
subst ex
obtain⟨u,rfl,rx⟩:=zT r
cases rx
obtain⟨its,rv,pl,hz⟩:=I.list hq
have hi:=q4X rv
obtain⟨xs,e⟩:=hi.allInts.items
have hn:numsOf its.toArray.toList=ns:=by rw[show its.toArray.toList=its from rfl,hi.numsOf]
have hl:=pl.isList
rw[e]at hl hn
rw[nums_intItems]at hn
have hh:=I.ok.hd hc
have hsz:(intItems xs).size=xs.size:=by simp[intItems]
refine call_sum_walkAnyS (iter_intList hl λs₂ e2 st hfp hlI=>?_)
subst e2
have W:=(lN (prog:=X.prog) (w:=X.w) (A:=X.A.in1) hh s.heap.objs.size p hlI (intItems xs)).toS
rw[hsz]at W
refine⟨s.heap.objs.size,_,_,_,_,_,_,numAt xs,rfl,W,st,hfp,λi v hP=>intItems_at hP,λs' t' hm=>?_⟩
obtain⟨h',g',d',tk',os'⟩:=s'
have e1:g'=s.gens:=hm.gens
have e2:d'=s.drawn:=hm.drawn
have e3:os'=s.os:=hm.os
subst e1 e2 e3
refine⟨.int _,H,I.kept λb o e=>hm.heap b o (λhb=>absurd (kI e) ((kF.mp hb)▸gT _)) (hX _ e),⟨t',rfl⟩,?_⟩
rw[preSum_eq,pK (by simp),hn]
exact q)
theorem q38:∀{vs:List Value} {ns:List Int},IntsAre vs ns→Vals (ns.map V.int) vs
|_,_,.nil=>.nil
|_,_,.cons n t h=>.cons ⟨t,rfl⟩ (q38 h)
theorem q80:vF X (.builtin "sorted") (λxs H Q=>∃(p:Addr) (ns:List Int),xs=[.ref p]∧SqL X.K H p (ns.map V.int)∧ns.length<64∧∀ns':List Int,ns'.Perm ns→ns'.Pairwise (·≤·)→NewO H (.lst (ns'.map V.int)) Q):=by(
intro pins s σ H xs us Q I r hZ
obtain⟨p,ns,ex,hq,h64,q⟩:=hZ
subst ex
obtain⟨u,rfl,rx⟩:=zT r
cases rx
obtain⟨its,rv,pl,hz⟩:=I.list hq
have hi:=q4X rv
have hlen:its.length<64:=by rw[←rv.length,hV];exact h64
refine sorted_ints pl.isList hi hlen λout ns' a1 a2 a3=>?_
obtain⟨e,he⟩:=sortedAll_at s.heap its out
have hz':(ns'.map V.int).length≤sizeLine:=by rw[hV,a2.length_eq,gO];lia
exact⟨.ref (s.heap.objs.size+1),_,I.laid (t':=s.toks) (λ_ _ h=>sortedAll_old h) (dF _) (show jR X.prog X.w _ _ _ (.lst _)from⟨hz',out.toList,e,q38 a1,by simpa[seqObj]using he⟩),rfl,(q ns' a2 a3).at _ (I.hok.fresh (dF _))⟩)
theorem qC5(hc:X.calm=true):vF X (.builtin "all") (λxs H Q=>∃(p:Addr) (bs:List Bool),xs=[.ref p]∧SqL X.K H p (bs.map V.bl)∧Q (.bl (bs.all id)) H):=by(
intro pins s σ H xs us Q I r hZ
obtain⟨p,bs,ex,hq,q⟩:=hZ
subst ex
obtain⟨u,rfl,rx⟩:=zT r
cases rx
obtain⟨its,rv,pl,hz⟩:=I.list hq
have hl:=pl.isList
have hlt:p<s.heap.objs.size:=by obtain⟨_,e,_⟩:=hl;exact kI e
have hln:=rv.length
refine call_all_walk (cN hl ?_)
have W:=lN (prog:=X.prog) (w:=X.w) (A:=X.A.in1) (I.ok.hd hc) s.heap.objs.size p (kZ hlt) its.toArray
refine⟨s.heap.objs.size,_,_,_,_,_,λi=>bs.getD i false,rfl,W,⟨⟨_,kR _ rfl,rfl,rfl⟩,hl.push _⟩,λi v s1 Q1 E1 hP hQ=>?_,λh' tk hk=>?_⟩
·have hP:its[i]?=some v:=by simpa using hP
 obtain⟨x,hx,rx⟩:=rv.atN (j:=i) (hU.mp hP).1;rw[kW]at hx;obtain⟨b,hb,rfl⟩:=mF.mp hx;have ev:its[i]'(hU.mp hP).1=v:=(hU.mp hP).2;rw[ev]at rx;have rx:v=.bool b:=rx;subst rx;have eb:bs.getD i false=b:=by rw[kM,hb];rfl
 have hQ:Q1 (bs.getD i false) s1:=hQ;rw[eb]at hQ;exact gI hQ
have e:(List.range its.toArray.size).all (λi=>bs.getD i false)=bs.all id:=by
 have hs:its.toArray.size=bs.length:=by simp at hln ⊢;lia
 rw[hs];apply d6.mpr;rw[gK,gK];constructor
 ·intro h b hb;obtain⟨i,hi,rfl⟩:=sK hb;have:=h i (k7.mpr hi);rw[kM,hZ hi]at this;exact this
 intro h i hi;have hi:=k7.mp hi;rw[kM,hZ hi];exact h _ (dY hi)
rw[e]
exact⟨.bl _,H,I.kept λb o eo=>hk b o (λhb=>absurd (kI eo) ((kF.mp hb)▸gT _)) (hX _ eo),rfl,q⟩)
end
end L2
namespace W1
open PySem L2
theorem qDI{xs:List V}{m:Int}(h:0≤m):cutV xs none (some m)=xs.take m.toNat:=by(
unfold cutV
rw[show HT.sIx xs.length 0 none=0 from rfl,List.drop_zero,Nat.sub_zero]
have e:HT.sIx xs.length xs.length (some m)=min m.toNat xs.length:=by unfold HT.sIx;simp only;split<;>lia
rw[e,pU,Nat.min_assoc,Nat.min_self,←pU])
theorem q39{H:Hp}{x dx C:Addr}(nx:H x=none)(nd:H dx=none):Same H (upd (upd H dx (.own x)) x (.ins C dx [])):=λb o e=>by rw[qE (qF e nx),qE (qF e nd)];exact e
end W1
namespace L2
open PySem PySem.Spec PyProof.Rows
theorem q22{X:Cx}{K:PySem.W.Frag}(e:X.K=K):IxR X (rIxT K):=by subst e;exact q3Q
theorem qDJ{X:Cx}{K:PySem.W.Frag}(e:X.K=K):IxR X (rIxL K):=by subst e;exact jX
theorem qAE{X:Cx}{K:PySem.W.Frag}(e:X.K=K):OpR X (compareOp .In) (rIn K false):=by subst e;exact qBU
theorem q6G{X:Cx}{K:PySem.W.Frag}(e:X.K=K):OpR X (compareOp .NotIn) (rIn K true):=by subst e;exact vV
theorem q5L{X:Cx}{elt iter tg:Expr}{ifs:List Expr}{scope:Scope}{pos py spos:Pos}{wi:TI}{g:TG}{tc:TT}{te:TE}{i:Nat}{y:Str}(N:List Str)(ix:List Nat)(hcalm:X.calm=true)(hi:PI X tg iter wi)
 (hg:∀C fp s H xe,PG (vI X N scope C fp s H xe) tg g) (hif:∀C fp s H xe,PIf (vI X N scope C fp s H xe) ifs tc) (he:∀C fp s H xe,PE (vI X N scope C fp s H xe) elt te)
 (ok:qB5 X.N X.env.kindOf scope N ix=true) (hown:Own g ix.length) (hN:X.N.Nodup) (hy:X.N[i]?=some y) (hl:Loc X.env.scope y)
 (hsw:swapsWith (.ListComp elt [⟨tg,iter,ifs,0⟩] scope pos) (some (.Name y py)) spos.line X.env=pure true:=by rfl) (hf:X.fn y=true∨X.env.scope.names.lookup y=some .local:=by first|exact .inl rfl|exact .inr rfl|assumption)
 (hs:∀x,foldedSetIterable iter X.env x=pure x:=by intro _;rfl):
 PS X (.Assign [.Name y py] (.ListComp elt [⟨tg,iter,ifs,0⟩] scope pos) spos) (tAsg (tLC wi g tc te ix (N.length-ix.length)) (zF i)):=by(
unfold qB5 at ok
rw[mH,mH,mH,gK]at ok
obtain⟨⟨⟨h1,h2⟩,h3⟩,h4⟩:=ok
have h2':∀y∈scope.names,y.2≠ .cell∧(y.2≠ .free∨X.env.kindOf y.1=some .cell)∧(y.2≠ .local∨scope.names.lookup y.1=some .local):=λy hy=>by have q:=h2 y hy;rw[mH,mH,d7,d7,kQ,kQ,kQ,kQ,kQ]at q;exact⟨q.1.1,q.1.2,q.2⟩
intro pins s σ H D I h
rw[exec_Assign_Name_used _ _ _ _ hsw]
refine kA (cU (kA ?_))
show wpAny _ X.A (do let _←comprehension (.ListComp elt [⟨tg,iter,ifs,0⟩] scope pos) scope X.env _ (newList []) false (eval iter X.env) (some (assign (.Name y py) X.env))) _ _ s
refine kA (gU (qB4 (use:=some (assign (.Name y py) X.env)) (QQ:=λ_ s'=>∃σ' H',Inv X pins σ' H' s'∧D.nx σ' H') N ix _ (λ_ _ _ _ _=>hcalm) hi.c hg hif he (m6 h1) (λy hy=>(h2' y hy).1) (λy hy e=>(h2' y hy).2.1.resolve_left (λz=>z e)) h3 (m6 h4) (λy hy e=>(h2' y hy).2.2.resolve_left (λz=>z e)) hown I h
 (λC Dl H' s' m hm fp inv q=>?_) hs) (λ_ s' hq=>kU (kU hq)) λ_ _ e=>e)
have I':Inv X pins σ H' s':=inv s'.heap (Heap.SameBut.refl _ _)
show wpAny _ _ (assign (.Name y py) X.env (.ref Dl)) _ _ _
refine nE (q6Z (v:=.ref Dl) I' hN hy hl rfl (λs'' I'' hZ=>?_) hf)
obtain⟨a,sb,ha⟩:=hZ
have aC:C≠a:=λz=>by
 rcases ha with ha|ha
 ·exact fp.2.1 (z.trans ha)
 exact fp.2.2.2.2.1 _ _ ha z.symm
refine⟨m,hm.sameBut sb aC,λh' sb'=>⟨_,H',I''.turnedN (t':=s''.toks) (fp:=[C]) (λb o hb e=>sb'.extBut b o (λz=>hb (kF.mpr z)) e) (λb hb=>by rw[kF.mp hb];exact fp),q⟩⟩)
theorem qC6{lo:Int}{n k:Nat}{D:Addr}{H2:Hp}{te:TE}{σ0:St}{R:Hp→Prop}(Pv:Nat→Hp→Prop)(h0:Pv 0 H2)
 (hs:∀(i:Nat) H,i<n→Pv i H→te (σ0.set k (some (.int (lo+i)))) H (λv H7=>∃vs,H7 D=some (.lst vs)∧vs.length<sizeLine∧Pv (i+1) (upd H7 D (.lst (vs++[v]))))) (hd:∀H,Pv n H→R H):
 ∃W:Nat→Nat→Hp→Prop,(∃m,W 0 m H2)∧∀i m H3,W i m H3→((Itr lo n).stop i H3∧R H3)∨((Itr lo n).go i H3∧∃N:Hp→Prop,(∀H',N H'→∃m',m'<m∧W (i+1) m' H')∧∀x H4,(Itr lo n).yld i H3 x H4→zF k x σ0 H4 λσ5 H5=>q16 σ5 H5 λb H6=>if b=true then te σ5 H6 (λv H7=>∃vs,H7 D=some (.lst vs)∧vs.length<sizeLine∧N (upd H7 D (.lst (vs++[v]))))else N H6):=qC4 (Q:=λ_ H=>R H) Pv h0 hs hd
theorem q17{K:PySem.W.Frag}{a:Addr}{xs:List V}{D:Addr}{H2:Hp}{g:TG}{tc:TT}{te:TE}{σ0:St}{R:Hp→Prop}(Pv:Nat→Hp→Prop)(h0:Pv 0 H2)(hl:∀i H,Pv i H→SqL K H a xs)
 (hs:∀(i:Nat) x H,xs[i]?=some x→Pv i H→g x σ0 H λσ5 H5=>tc σ5 H5 λb H6=>if b=true then te σ5 H6 (λv H7=>∃vs,H7 D=some (.lst vs)∧vs.length<sizeLine∧Pv (i+1) (upd H7 D (.lst (vs++[v]))))else Pv (i+1) H6) (hd:∀H,Pv xs.length H→R H):
 ∃W:Nat→Nat→Hp→Prop,(∃m,W 0 m H2)∧∀i m H3,W i m H3→((Itl K a).stop i H3∧R H3)∨((Itl K a).go i H3∧∃N:Hp→Prop,(∀H',N H'→∃m',m'<m∧W (i+1) m' H')∧∀x H4,(Itl K a).yld i H3 x H4→g x σ0 H4 λσ5 H5=>tc σ5 H5 λb H6=>if b=true then te σ5 H6 (λv H7=>∃vs,H7 D=some (.lst vs)∧vs.length<sizeLine∧N (upd H7 D (.lst (vs++[v]))))else N H6):=qB6 (Q:=λ_ H=>R H) Pv h0 hl hs hd
theorem qDK{K:PySem.W.Frag}{a:Addr}{xs:List V}{k:Nat}{D:Addr}{H2:Hp}{te:TE}{σ0:St}{R:Hp→Prop}(Pv:Nat→Hp→Prop)(h0:Pv 0 H2)(hl:∀i H,Pv i H→SqL K H a xs)
 (hs:∀(i:Nat) x H,xs[i]?=some x→Pv i H→te (σ0.set k (some x)) H (λv H7=>∃vs,H7 D=some (.lst vs)∧vs.length<sizeLine∧Pv (i+1) (upd H7 D (.lst (vs++[v]))))) (hd:∀H,Pv xs.length H→R H):
 ∃W:Nat→Nat→Hp→Prop,(∃m,W 0 m H2)∧∀i m H3,W i m H3→((Itl K a).stop i H3∧R H3)∨((Itl K a).go i H3∧∃N:Hp→Prop,(∀H',N H'→∃m',m'<m∧W (i+1) m' H')∧∀x H4,(Itl K a).yld i H3 x H4→zF k x σ0 H4 λσ5 H5=>q16 σ5 H5 λb H6=>if b=true then te σ5 H6 (λv H7=>∃vs,H7 D=some (.lst vs)∧vs.length<sizeLine∧N (upd H7 D (.lst (vs++[v]))))else N H6):=qDG (Q:=λ_ H=>R H) Pv h0 hl hs hd
end L2
namespace L2
open PySem PySem.W PySem.Spec PyProof.Rows
noncomputable def BmIn(base:Heap)(mg:Str→Option Value):Prop:=∃bm o,mg "__builtins__"=some (.ref bm)∧bm≠builtinsNs∧base.get? bm=some o∧o.cls=.type "module"∧o.dict=some builtinsNs∧o.data=.plain
theorem qC7{P:Program}{w:World}{K:PySem.W.Frag}{mg mb:Str→Option Value}{CX:CXT}{k:Nat}{fa a:Addr}{fd:FuncData}{x:Str}{sp:Sp}{s₁:Shared}{vs:List Value}{ns:List Int}(ts:List Addr)
 (KX:K.In s₁.heap) (hts:∀T∈ts,s₁.heap.get? T=some (tabObj #[])∧K.lookup T=none∧∃c,codeHdIn K c T=true) (hns:s₁.heap.Ns mainGlobals mg) (hb:s₁.heap.Ns builtinsNs mb) (hbb:∀x:Str,x≠"__name__"→mb x=bootBuiltins x) (hlim:s₁.heap.NoLimit) (hbm:BmIn s₁.heap mg) (hg:s₁.gens=#[])
 (ha:s₁.heap.get? a=some { cls:=.type "list",data:=.seq vs.toArray }) (hi:IntsAre vs ns) (hl:ns.length≤sizeLine) (hr:Room k callerA)
 (F:∀base:Heap,K.In base→base.Ns mainGlobals mg→BmIn base mg→FnOk P w K mg base CX k fa fd [x] sp) (hbind:∀(s:Shared) (u:Value),BindsTo s fd ⟨[u],[]⟩ [(x,u)])
 (hsp:∀H:Hp,SqL K H a (ns.map V.int)→(∀T∈ts,H T=some (.tbl #[]))→sp [.ref a] H (λv _=>v=.bl true) λ_ _ _=>False)
 (hCX:∀H e s',CX [] H s₁ (λ_ _ _=>False) e s'→False):
 codeAny (model P w) callerA (.call (.ref fa) ⟨[.ref a],[]⟩) (λr s'=>r=.ok (.ret (.bool true))∧OldK s₁.heap s'.heap∧s'.os=s₁.os∧AllBare s'.gens) s₁:=by(
have rv:=q7A hi
have lenV:=hi.length
have nat:a∉ts:=λz=>by have e:=(hts a z).1;rw[ha]at e;cases e
have core:∀H:Hp,SqL K H a (ns.map V.int)→HOk P w H s₁.heap→(∀b,H b=none∨(b=a∧K.lookup a=none∧∃o xs,H b=some (.frz o (.lst xs)))∨(b∈ts∧H b=some (.tbl #[])))→(∀T∈ts,H T=some (.tbl #[]))→codeAny (model P w) callerA (.call (.ref fa) ⟨[.ref a],[]⟩) (λr s'=>r=.ok (.ret (.bool true))∧OldK s₁.heap s'.heap∧s'.os=s₁.os∧AllBare s'.gens) s₁:=by
 intro H hS hok hO hT;have base_of:∀{b:Addr} {o:Obj},s₁.heap.get? b=some o→H b=none→(hidT s₁.heap H).get? b=some o:=λe n=>q54 e n;have noA:∀{b:Addr} {o:Obj} {es:Array DictEntry} {ep:Nat},s₁.heap.get? b=some o→o.data=.dict es ep→H b=none:=fun {b o es ep} e d=>by
  rcases hO b with z|⟨rfl,_⟩|⟨z,_⟩
  ·exact z
  ·rw[ha]at e;cases e;cases d
  rw[(hts b z).1]at e;cases e;cases d
 have nsK:∀{b:Addr} {m:Str→Option Value},s₁.heap.Ns b m→(hidT s₁.heap H).Ns b m:=fun {b m} ⟨o,es,ep,e,d,r⟩=>⟨o,es,ep,base_of e (noA e d),d,r⟩
 have hKb:K.In (hidT s₁.heap H):=λb o e=>base_of (KX b o e) (by
  rcases hO b with z|⟨rfl,z,_⟩|⟨z,_⟩
  ·exact z
  ·rw[z]at e;cases e
  rw[(hts b z).2.1]at e;cases e)
 have hM:Mod K mg (hidT s₁.heap H):=⟨hKb,nsK hns,⟨mb,nsK hb,hbb⟩,let⟨mc,h1,h2⟩:=hlim;⟨mc,nsK h1,h2⟩⟩;have hB:BmIn (hidT s₁.heap H) mg:=by
  obtain⟨bm,o,b1,b2,b3,b4,b5,b6⟩:=hbm;refine⟨bm,o,b1,b2,base_of b3 ?_,b4,b5,b6⟩;rcases hO bm with z|⟨rfl,_⟩|⟨z,_⟩
  ·exact z
  ·rw[ha]at b3;cases b3;exact absurd (Value.type.inj b4) (by decide)
  rw[(hts bm z).1]at b3;cases b3;cases b4
 have e0:Env0 P w K mg (hidT s₁.heap H) callerA [] s₁ H:=⟨rfl,hM,λb o e=>qAS e,cE (q6Y _ _),trivial,λb hb=>absurd (show b∈([]:List Addr)from hb) (by simp),hok,.of_eq hg⟩;refine dP ((F _ hKb (nsK hns) hB).run callerA [] s₁ H ⟨[.ref a],[]⟩ [.ref a] [.ref a] _ _ hr e0 (hbind s₁ (.ref a)) (.cons rfl .nil) (hsp H hS hT)) λr s' h=>?_;cases r with
 |error e=>exact(hCX H e s' h).elim
 |ok fl=>
  cases fl with
  |next=>exact False.elim h
  |brk=>exact False.elim h
  |cont=>exact False.elim h
  |ret u=>
   obtain⟨v,H',os,bare,un,hok',r',q⟩:=h;have q':v=.bl true:=q;subst q';obtain rfl:u=Value.bool true:=r';have kept:∀b o,s₁.heap.get? b=some o→b∉ts→s'.heap.get? b=some o:=λb o e nb=>by
    rcases hO b with z|⟨rfl,_,ob,xs,z⟩|⟨z,_⟩
    ·exact un.keep b o e z (by intro z;exact absurd (show b∈([]:List Addr)from z) (by simp)) (by simp)
    ·have z2:=un.frzs _ ob _ z;obtain⟨e1,_⟩:=hok _ _ z;obtain⟨e2,_⟩:=hok' _ _ z2;rw[e]at e1;cases e1;exact e2
    exact absurd z nb
   refine⟨rfl,⟨λb o e=>?_,λb o e=>?_⟩,os,bare⟩
   ·by_cases nb:b∈ts
    ·obtain⟨g,_,c,hc⟩:=hts b nb;obtain⟨more,z2⟩:=un.tbls b _ (hT b nb);have g2:s'.heap.get? b=some { cls:=.none,data:=.fields (#[]++more) }:=hok' _ _ z2;rw[g]at e;cases e;exact .inr (.inl ⟨((nY KX hc).tab g).isCodeTable,rfl,#[],more,rfl,g2⟩)
    exact .inl (kept b o e nb)
   by_cases nb:b∈ts
   ·obtain⟨more,z2⟩:=un.tbls b _ (hT b nb);exact⟨_,hok' _ _ z2⟩
   exact⟨o,kept b o e nb⟩
have tb:∀T∈ts,∀H:Hp,H T=some (.tbl #[])→∀u,H T=some u→jR P w H s₁.heap T u:=λT hT H e u e'=>by rw[e]at e';cases e';exact(hts T hT).1
cases hk:K.lookup a with
|some o=>
 have e:=KX a o hk;rw[ha]at e;cases e;refine core (λb=>if b∈ts then some (.tbl #[])else none) (.inr ⟨_,vs.toArray,_,hk,rfl,rfl,rfl,by rw[kN,lenV];exact hl,by simpa using rv⟩) (λb u z=>?_) (λb=>?_) λT hT=>kG hT
 ·by_cases hb':b∈ts
  ·exact tb b hb' _ (kG hb') u z
  have z':=(kC hb').symm.trans z;cases z'
 by_cases hb':b∈ts
 ·exact .inr (.inr ⟨hb',kG hb'⟩)
 exact .inl (kC hb')
|none=>
 refine core (λb=>if b=a then some (.frz { cls:=.type "list",data:=.seq vs.toArray } (.lst (ns.map V.int)))else if b∈ts then some (.tbl #[])else none) (.inl (.inr ⟨{ cls:=.type "list",data:=.seq vs.toArray },kG rfl⟩)) (λb u z=>?_) (λb=>?_) λT hT=>?_
 ·by_cases hb':b=a
  ·have z':=(kG hb').symm.trans z;cases z';subst hb';exact⟨ha,by rw[hV];exact hl,vs,_,rv,ha⟩
  by_cases hb2:b∈ts
  ·exact tb b hb2 _ ((kC hb').trans (kG hb2)) u z
  have z':=((kC hb').trans (kC hb2)).symm.trans z;cases z'
 ·by_cases hb':b=a
  ·exact .inr (.inl ⟨hb',hk,_,_,kG hb'⟩)
  by_cases hb2:b∈ts
  ·exact .inr (.inr ⟨hb2,(kC hb').trans (kG hb2)⟩)
  exact .inl ((kC hb').trans (kC hb2))
 have:T≠a:=λz=>nat (z▸hT);exact(kC this).trans (kG hT))
theorem qDL{l:PySem.W.OpenLaw}{n k:Nat}{q:Program}{loose:List Str}{XP:(Str→Option Value)→Heap→Prop}{YP:World→Heap→Prop}{d:DefRec}{K:Params→PySem.W.Frag}{CX:World→CXT}{sp:World→Sp}{x:Str}(ts:List Addr)
 (hn:l.most=some n) (hn2:n≤sizeLine) (hdf:d.params.defaults=[]) (hr:Room k callerA)
 (hY:∀(w:World) (h:Heap),YP w h→(K w.params).In h∧∀T∈ts,h.get? T=some (tabObj #[])) (hT:∀w:World,∀T∈ts,(K w.params).lookup T=none∧∃c,codeHdIn (K w.params) c T=true)
 (F:∀(w:World) (mg:Str→Option Value) (fa:Addr) (h:Heap),(K w.params).In h→h.Ns mainGlobals mg→mg d.name=some (.ref fa)→∃fd:FuncData,(∀(s:Shared) (u:Value),BindsTo s fd ⟨[u],[]⟩ [(x,u)])∧∀base:Heap,(K w.params).In base→base.Ns mainGlobals mg→BmIn base mg→FnOk l.prog w (K w.params) mg base (CX w) k fa fd [x] (sp w))
 (hsp:∀(w:World) (H:Hp) (a:Addr) (ns:List Int),ns.length≤n→SqL (K w.params) H a (ns.map V.int)→(∀T∈ts,H T=some (.tbl #[]))→sp w [.ref a] H (λv _=>v=.bl true) λ_ _ _=>False)
 (hCX:∀(w:World) (H:Hp) (s:Shared) (e:Value) (s':Shared),CX w [] H s (λ_ _ _=>False) e s'→False):
 PySem.W.WalkO q loose XP YP l.row.toRowW d [] (λf vs=>PySem.call f vs):=by(
refine Att.attach_call hn hdf λw s₀ s₁ mg mb fa o pm cd doc a vs ns G Y ho hd hcd hmg hobj hints hlen hg=>?_
obtain⟨KX,KT⟩:=hY w _ Y
obtain⟨fd,hb,hF⟩:=F w mg fa _ KX G.T.g hmg
exact qC7 ts KX (λT h=>⟨KT T h,hT w T h⟩) G.T.g G.T.b G.T.builtins G.T.nolimit (let⟨bm,ob,b1,b2,b3,b4,b5,b6⟩:=G.T.bmain;⟨bm,ob,b1,b2,b3,b4,b5,b6⟩) hg hobj hints (mE hlen hn2) hr hF hb (λH hS hH=>hsp w H a ns hlen hS hH) λH e s'=>hCX w H s₁ e s')
structure FunT(K:PySem.W.Frag)(x qual:Str)(st:Stmt)(c f:Addr)(fd:FuncData):Prop where
ex:∃(oc:Value) (od:Option Addr) (kV doc pm:Value) (an:Option Addr) (ct:Value) (osl:Array (Option Value)),fd=PySem.W.fnOf x qual (yU st) (yH st) (qH st) .none kV doc pm an (.ref c) ct∧K.lookup f=some ⟨oc,od,.func fd,osl⟩∧PySem.W.codeIn K (.ref c) qual=true
section
variable{P:Program}{w:World}{K:PySem.W.Frag}{mg:Str→Option Value}{base:Heap}
theorem FunT.mk'{x qual:Str}{st:Stmt}{c f:Addr}{oc:Value}{od an:Option Addr}{osl:Array (Option Value)}{kV doc pm ct:Value}(l:K.lookup f=some ⟨oc,od,.func (PySem.W.fnOf x qual (yU st) (yH st) (qH st) .none kV doc pm an (.ref c) ct),osl⟩)
 (h:PySem.W.codeIn K (.ref c) qual=true):FunT K x qual st c f (PySem.W.fnOf x qual (yU st) (yH st) (qH st) .none kV doc pm an (.ref c) ct):=⟨⟨oc,od,kV,doc,pm,an,ct,osl,rfl,l,h⟩⟩
theorem FunT.ok0{x qual:Str}{st:Stmt}{c f:Addr}{fd:FuncData}{N ps:List Str}{k:Nat}{sp:Sp}(F:FunT K x qual st c f fd)(S:FnScope N ps (qH st))
 (hbody:∀(A:Around) (outer:List Env) (s:Shared) (H:Hp) (vs:List V) (Q:VK) (E:XK),Room k (A.deeper (envOfC qual (qH st) s.heap.objs.size f (.ref c)))→sp vs H Q E→∃t,PSs (cxOf CX0 P w K mg base N qual (qH st) f (.ref c) A outer s H E).nox (yH st) t∧t { nx:=λ_ H'=>Q .non H',rt:=Q } (q2D N vs) H)(len:∀vs H Q E,sp vs H Q E→vs.length=ps.length:=by intro _ _ _ _ h;first|(cases h;subst_vars;rfl)|((repeat obtain⟨_,h⟩:=h);all_goals subst_vars;rfl)):FnOk P w K mg base CX0 (k+1) f fd ps sp:=by(
obtain⟨oc,od,kV,doc,pm,an,ct,osl,rfl,lk,hcd⟩:=F.ex
refine qCV lk hcd S len λA outer s H vs Q E hr hsp=>?_
obtain⟨t,h,q⟩:=hbody A outer s H vs Q E hr hsp
exact⟨t,h.nox,q⟩)
noncomputable def q3T(K:PySem.W.Frag)(ts:List Addr):Sp:=λvs H Q _=>∃(a:Addr) (ns:List Int),vs=[.ref a]∧SqL K H a (ns.map V.int)∧ns.length≤63∧(∀T∈ts,H T=some (.tbl #[]))∧∀H',Q (.bl true) H'
end
noncomputable def fnOb(fd:FuncData):Obj:={ cls:=.type "function",data:=.func fd }
noncomputable def fnO(f:Addr)(fd:FuncData):HO:=.ext λh=>h.get? f=some (fnOb fd)
noncomputable def cdO(c:Addr)(q:Str):HO:=.ext λh=>∃o vs t,h.get? c=some o∧o.data=.fields vs∧vs[1]?=some (.str q t)
theorem qDM{P:Program}{w:World}{H:Hp}{h:Heap}{f:Addr}{fd:FuncData}(e:h.get? f=some (fnOb fd)):jR P w H h f (fnO f fd):=⟨e,⟨_,e⟩,λ_ _ a b=>b _ a⟩
theorem qHN{P:Program}{w:World}{H:Hp}{h:Heap}{c:Addr}{q:Str}(e:h.CodeRec (.ref c) q):jR P w H h c (cdO c q):=by obtain⟨c',o,vs,t,e0,e1,e2,e3⟩:=e;cases e0;exact⟨⟨o,vs,t,e1,e2,e3⟩,⟨_,e1⟩,λ_ _ ⟨o,vs,t,a,b⟩ k=>⟨o,vs,t,k _ a,b⟩⟩
theorem qHO{P:Program}{w:World}{H:Hp}{h:Heap}{f:Addr}{fd:FuncData}(ok:HOk P w H h)(e:H f=some (fnO f fd)):h.get? f=some (fnOb fd):=(ok f _ e).1
theorem qHP{P:Program}{w:World}{H:Hp}{h:Heap}{c:Addr}{q:Str}(ok:HOk P w H h)(e:H c=some (cdO c q)):h.CodeRec (.ref c) q:=let⟨o,vs,t,a,b⟩:=(ok c _ e).1
 ⟨c,o,vs,t,rfl,a,b⟩
noncomputable def vJ(base:Heap)(cs:List Addr):Hp:=λb=>if(base.get? b).isSome=true∨b∈cs then none else some (.lst [])
theorem q18{h base base':Heap}:∀{l:List Env},h.FunFrames base l→(∀L∈frs l,base.get? L=none→base'.get? L=none)→h.FunFrames base' l
| [],_,_=>trivial
|env::r,⟨hk,⟨L,o,hf,hn,ho,hd⟩,hr⟩,k=>by
 have hL:L∈frs (env::r):=by unfold frs;rw[dW,hf];exact kO
 exact⟨hk,⟨L,o,hf,k L hL hn,ho,hd⟩,q18 hr λb hb=>k b (by unfold frs;rw[dW,hf];exact kD _ hb)⟩
theorem Inv.env0C{X:Cx}{pins:List (Addr×Obj)}{σ:St}{H:Hp}{s:Shared}(I:Inv X pins σ H s)(cs:List Addr)(hcs:∀c∈cs,∃x,X.fn x=true∧X.env.cells.lookup x=some c):
 Env0 X.prog X.w X.K X.mg (hidT s.heap (vJ X.base cs)) X.A X.stack s H∧(∀b o,X.base.get? b=some o→(hidT s.heap (vJ X.base cs)).get? b=some o)∧∀c∈cs,∀o,s.heap.get? c=some o→(hidT s.heap (vJ X.base cs)).get? c=some o:=by(
have up:∀b o,X.base.get? b=some o→(hidT s.heap (vJ X.base cs)).get? b=some o:=λb o e=>q54 (I.bk b o e) (kG (.inl (by rw[e];rfl)))
have inv:∀{b:Addr} {o:Obj},(hidT s.heap (vJ X.base cs)).get? b=some o→s.heap.get? b=some o∧((∃o',X.base.get? b=some o')∨b∈cs):=fun {b o} e=>by
 obtain⟨e1,n⟩:=qAS e;refine⟨e1,?_⟩;by_cases z:(X.base.get? b).isSome=true∨b∈cs
 ·rcases z with z|z
  ·exact .inl (rV.mp z)
  exact .inr z
 rw[show vJ X.base cs b=some (.lst [])from kC z]at n;cases n
obtain⟨mb,hb1,hb2⟩:=I.ok.mod.blt
refine⟨⟨I.ok.frames,⟨I.ok.mod.kin.keeps up,I.ok.mod.glob.keeps up,⟨mb,hb1.keeps up,hb2⟩,I.ok.mod.nolimit.keeps up⟩,λb o e=>?_,by rw[q6Y];exact kB _,q18 I.stack λL hL n=>?_,I.stkFree,I.hok,I.bare⟩,up,λc hc o e=>q54 e (kG (.inr hc))⟩
·obtain⟨e1,z⟩:=inv e;rcases z with⟨o',z⟩|z
 ·exact⟨e1,(I.bs b o' z).2⟩
 obtain⟨x,_,hx⟩:=hcs b z;exact⟨e1,I.freeC x b hx⟩
cases e:(hidT s.heap (vJ X.base cs)).get? L with
|none=>rfl
|some o=>
 obtain⟨e1,z⟩:=inv e;rcases z with⟨o',z⟩|z
 ·rw[n]at z;cases z
 obtain⟨x,hf,hx⟩:=hcs L z;rcases kL.mp (I.stkSub L hL)with y|y
 ·exact absurd y (I.cne x L hx)
 obtain⟨_,o2,ho,_⟩:=I.ok.funs.mem y;exact absurd (kI ho) (pJ.mpr (I.ok.cab x L hf hx)))
noncomputable def q5M(cells:List (Str×Addr))(σ:St)(base':Heap)(ix:List (Nat×Str)):Prop:=∀p∈ix,∀v,σ[p.1]?=some (some v)→∃c u,cells.lookup p.2=some c∧RelV v u∧base'.IsCell c (some u)
noncomputable def qJ4(T:Addr)(pos:Pos)(qual:Str)(params:Arguments)(body:Expr)(scope:Scope)(clos:List (Str×Addr))(pm:Value):TE:=λσ H Q=>∃ps,H T=some (.tbl ps)∧TriplesOk ps.toList∧codeAmong pos ps.toList=none∧∀(f c':Addr) (ctv:Value),H f=none→H c'=none→f≠c'→Q (.ref f) (upd (upd (upd H T (.tbl (ps++#[rawInt pos.line,rawInt pos.col,.ref c']))) c' (cdO c' qual)) f (fnO f (kla_fn "<lambda>" qual params body scope clos pm (.ref c') ctv)))
theorem qEZ{X:Cx}{c T:Addr}{params:Arguments}{body:Expr}{scope:Scope}{pos:Pos}{clos:List (Str×Addr)}(hcode:X.env.code=.ref c)(hcd:codeHdIn X.K c T=true)(B:BmIn X.base X.mg)(hcl:closureFor scope X.env=pure clos)(hdef:defaultsOf params X.env=([],[])):
 PE X (.Lambda params body scope pos) (qJ4 T pos (X.env.qual++"<lambda>") params body scope clos ((X.mg "__name__").getD .none)):=by(
intro pins s σ H Q I hZ
obtain⟨ps,hT,ht,hnf,q⟩:=hZ
have hP:s.heap.get? T=some (tabObj ps):=I.hok T _ hT
have hgs:s.heap.Ns mainGlobals X.mg:=I.ok.mod.glob.keeps I.bk
obtain⟨bm,ob,b1,b2,b3,b4,b5,b6⟩:=B
have b3':=I.bk _ _ b3
have hgP:mainGlobals≠T:=λz=>by obtain⟨o,es,ep,e,hd,_⟩:=hgs;rw[z,hP]at e;cases e;cases hd
have hbP:bm≠T:=λz=>by rw[z,hP]at b3';cases b3';cases b4
have hbG:bm≠mainGlobals:=λz=>by obtain⟨o,es,ep,e,hd,_⟩:=hgs;rw[z,e]at b3';cases b3';rw[hd]at b6;cases b6
refine kla_eval hdef (kla_makeFunction (clos:=clos) hcl I.ok.glob hgs hcode (nY I.kIn hcd) hP ht hnf hgP ⟨bm,ob,b1,b2,hbG,hbP,b3',b4,b5,b6⟩ λc' ctv h' tk hx hge hlt hrec htb=>?_)
have trk:∀b u,s.heap.get? b=some u→b≠T→∀o,(h'.push o).get? b=some u:=λb u e n o=>hX _ (hx b u n e)
have sz:s.heap.objs.size≤h'.objs.size:=mE hge (cC hlt)
have nF:H h'.objs.size=none:=I.hok.fresh sz
have nC:H c'=none:=I.hok.fresh hge
have fc:h'.objs.size≠c':=dZ hlt
have other:∀{b:Addr},b≠T→b≠c'→b≠h'.objs.size→∀u:HO,(upd (upd (upd H T (.tbl (ps++#[rawInt pos.line,rawInt pos.col,.ref c']))) c' (cdO c' (X.env.qual++"<lambda>"))) h'.objs.size (fnO h'.objs.size (kla_fn "<lambda>" (X.env.qual++"<lambda>") params body scope clos ((X.mg "__name__").getD .none) (.ref c') ctv))) b=H b:=fun {b} z1 z2 z3 _=>by rw[qE z3,qE z2,qE z1]
refine⟨.ref h'.objs.size,_,?_,rfl,q _ c' ctv nF nC fc⟩
refine I.un (t':=tk) ⟨λb o e n _ _=>trk b o e (qF hT n).symm _,λb o e n _ _=>⟨o.slots,trk b o e (qF hT n).symm _⟩,λb o e n _=>?_,λb o e _=>?_,λb xs e=>?_,λb o u e=>?_,λb qs e=>?_⟩ λb u e=>?_
·have hb:b<s.heap.objs.size:=kI e;rw[other (qF hT n).symm (kZ (kY hb hge)) (kZ (kY hb sz)) (.lst [])];exact n
·by_cases z:b=T
 ·subst z;exact⟨_,hX _ htb⟩
 exact⟨o,trk b o e z _⟩
·rw[other (λz=>by rw[z,hT]at e;cases e) (qF e nC) (qF e nF) (.lst [])];exact e
·rw[other (λz=>by rw[z,hT]at e;cases e) (qF e nC) (qF e nF) (.lst [])];exact e
·by_cases z:b=T
 ·subst z;rw[hT]at e;cases e;refine⟨#[rawInt pos.line,rawInt pos.col,.ref c'],?_⟩;rw[qE (qF hT nF),qE (qF hT nC)];exact qG
 exact⟨#[],by rw[other z (qF e nC) (qF e nF) (.lst []),e];simp⟩
by_cases z3:b=h'.objs.size
·subst z3;rw[qG]at e;cases e;exact qDM (kR _ rfl)
by_cases z2:b=c'
·subst z2;rw[qE z3,qG]at e;cases e;exact qHN (hrec.push _)
by_cases z:b=T
·subst z;rw[qE z3,qE z2,qG]at e;cases e;exact hX _ htb
rw[other z z2 z3 (.lst [])]at e
refine(I.hok b u e).stay (λd v hd r=>trk d v r (λy=>?_) _) (λd r=>?_) λd xs r=>?_
·rcases hd with hd|hd
 ·exact z (hd▸y)
 rw[y,hT]at hd;cases hd
·rw[other (λy=>by rw[y,hT]at r;cases r) (qF r nC) (qF r nF) (.lst [])];exact r
rw[other (λy=>by rw[y,hT]at r;cases r) (qF r nC) (qF r nF) (.lst [])];exact r)
noncomputable abbrev envL(qual:Str)(scope:Scope)(clos:List (Str×Addr))(L f:Addr)(cd:Value):Env:=newEnv scope L mainGlobals clos (qual++".<locals>.") (some f) cd none builtinsNs
noncomputable def qDN(CX:CXT)(P:Program)(w:World)(K:PySem.W.Frag)(mg:Str→Option Value)(base:Heap)(N:List Str)(qual:Str)(scope:Scope)(clos:List (Str×Addr))(f:Addr)(cd:Value)(A:Around)(outer:List Env)(s:Shared)(H:Hp)(E:XK):Cx where
prog:=P
w:=w
K:=K
mg:=mg
base:=base
A:=A.deeper (envL qual scope clos s.heap.objs.size f cd)
N:=N
s₀:=s
H₀:=H
env:=envL qual scope clos s.heap.objs.size f cd
outer:=outer
stack:=envL qual scope clos s.heap.objs.size f cd::outer
ex:=[]
calm:=true
fn:=λ_=>false
pn:=[]
xe:=λe s'=>wpAny (model P w) (A.deeper (envL qual scope clos s.heap.objs.size f cd)) (leaving (envL qual scope clos s.heap.objs.size f cd) e) (λ_ s''=>CX outer H s E e s'') (λe' s''=>CX outer H s E e' s'') s'
structure LamSc(scope:Scope)(x0:Str)(clos:List (Str×Addr))(fvs:List V)(base:Heap):Prop where
kind:scope.kind=.function
co:scope.isCoroutine=false
gen:scope.isGenerator=false
par:scope.names.lookup x0=some .local
nocell:∀y∈scope.names,y.2≠ .cell
free:∀y,scope.names.lookup y=some .free→∃c,clos.lookup y=some c
inj:∀x y c,clos.lookup x=some c→clos.lookup y=some c→x=y
at':∀(j:Nat) (x:Str) (c:Addr),clos[j]?=some (x,c)→scope.names.lookup x=some .free∧clos.lookup x=some c∧∃v u,fvs[j]?=some v∧RelV v u∧base.IsCell c (some u)
len:fvs.length=clos.length
theorem qF0{CX:CXT}{P:Program}{w:World}{K:PySem.W.Frag}{mg:Str→Option Value}{base:Heap}{k:Nat}{f c:Addr}{name qual:Str}{params:Arguments}{body:Expr}{scope:Scope}{pm ct:Value}{x0:Str}{clos:List (Str×Addr)}{fvs:List V}{sp:Sp}(S:LamSc scope x0 clos fvs base)
 (len:∀vs H Q E,sp vs H Q E→vs.length=1) (hf:∀vs H Q E,sp vs H Q E→H f=some (fnO f (kla_fn name qual params body scope clos pm (.ref c) ct))∧H c=some (cdO c qual))
 (hbody:∀(A:Around) (outer:List Env) (s:Shared) (H:Hp) (v0:V) (Q:VK) (E:XK),Room k (A.deeper (envL qual scope clos s.heap.objs.size f (.ref c)))→sp [v0] H Q E→∃t,PE (qDN CX P w K mg base (x0::clos.map (·.1)) qual scope clos f (.ref c) A outer s H E) body t∧t (some v0::fvs.map some) H Q):
 FnOk P w K mg base CX (k+1) f (kla_fn name qual params body scope clos pm (.ref c) ct) [x0] sp:=by(
refine⟨len,λA outer s H args us vs Q E hr e0 hb r hsp=>?_⟩
have hl:=len _ _ _ _ hsp
obtain⟨v0,rfl⟩:∃v0,vs=[v0]:=match vs,hl with| [v],_=>⟨v,rfl⟩
obtain⟨u0,rfl,r0⟩:=zT r
have lim:s.heap.NoLimit:=e0.mod.nolimit.keeps λb o e=>(e0.bs b o e).1
obtain⟨hf1,hc1⟩:=hf _ _ _ _ hsp
refine kla_callFunE hr.depth (qHO e0.hok hf1) rfl S.co S.gen rfl (qHP e0.hok hc1) (hb _ _ _ _ ?_)
refine sD S.nocell (λy hy=>?_) (λh' hn hs=>?_) S.kind
·obtain rfl:y=(x0,u0):=by simpa using hy
 exact S.par
have hk:∀b o,s.heap.get? b=some o→h'.get? b=some o:=λb o e=>by have:=hs.2 b (kZ (kI e));rw[this];exact hX _ e
refine⟨lim.keeps hk,kla_codeExpr ?_⟩
obtain⟨t,ht,hq⟩:=hbody A outer s H v0 Q E (hr.deeper _) hsp
have noA:∀b:Addr,b∉(qDN CX P w K mg base (x0::clos.map (·.1)) qual scope clos f (.ref c) A outer s H E).ex:=λb z=>absurd (show b∈([]:List Addr)from z) (by simp)
have cat:∀y d,clos.lookup y=some d→∃u,base.IsCell d (some u):=λy d e=>by obtain⟨j,hj,ej⟩:=sK (m8 e);obtain⟨_,_,v,u,_,_,hu⟩:=S.at' j y d (hU.mpr ⟨hj,ej⟩);exact⟨u,hu⟩
have I:Inv (qDN CX P w K mg base (x0::clos.map (·.1)) qual scope clos f (.ref c) A outer s H E) [] (some v0::fvs.map some) H { s with heap:=h',toks:=s.toks + [(x0,u0)].length }:=by
 refine⟨⟨e0.mod,S.kind,rfl,rfl,kB _,S.inj,λy hy=>?_,λy c z _=>absurd (show false=true from z) (by decide),λ_=>hr.hd,p6 e0.frames,.inr ⟨rfl,rfl⟩,λb z=>absurd z (noA b),e0.bs,e0.bsz,λb _ _=>noA b,λb z=>absurd z (noA b),e0.funs,e0.frf⟩,rfl,e0.bare,Un.kept hk,⟨_,hn,λi y v h1 h2 h3=>?_⟩,λy d e=>?_,e0.hok.fresh (kB _),λy d e=>?_,λp hp=>absurd (show p∈([]:List (Addr×Obj))from hp) (by simp),e0.hok.kept hk,?_⟩
 ·have hy:scope.names.lookup y=some .cell∨scope.names.lookup y=some .free:=hy;rcases hy with hy|hy
  ·exact absurd rfl (S.nocell _ (m8 hy))
  exact S.free y hy
 ·cases i with
  |zero=>obtain rfl:=kJ h1;obtain rfl:=kJ (kJ h2);refine⟨u0,r0,.inl ⟨S.par,?_⟩⟩;show([(x0,u0)]:List (Str×Value)).reverse.lookup x0=some u0;simp
  |succ j=>have h1:(clos.map (·.1))[j]?=some y:=h1;have h2:(fvs.map some)[j]?=some (some v):=h2;rw[kW]at h1 h2;obtain⟨⟨y',d⟩,hd,rfl⟩:=mF.mp h1;obtain⟨v',hv,ev⟩:=mF.mp h2;obtain rfl:=kJ ev;obtain⟨a1,a2,v2,u,a3,a4,a5⟩:=S.at' j _ d hd;rw[hv]at a3;obtain rfl:=kJ a3;exact⟨u,a4,.inr ⟨.inr a1,d,a2,a5.keeps λb o e=>hk b o (e0.bs b o e).1⟩⟩
 ·obtain⟨u,hu⟩:=cat y d e;exact⟨_,hu.keeps λb o e=>hk b o (e0.bs b o e).1⟩
 ·obtain⟨u,o,ho,_⟩:=cat y d e;exact(e0.bs _ _ ho).2
 show(some v0::fvs.map some).length=(x0::clos.map (·.1)).length;rw[mY,mY,hV,hV,S.len]
exact gU (ht [] _ _ H _ I hq) (λu s' ⟨v,H',J,rv,q⟩=>⟨v,H',J.os,J.bare,J.base,J.hok,rv,q⟩) λe s' hs=>hs)
end L2
namespace L2
open PySem PySem.Spec PyProof.Rows
section
variable{X:Cx}{pins:List (Addr×Obj)}{σ:St}{H:Hp}{s:Shared}{a:Addr}
theorem Inv.freeze{kvs:List (Key×V)}{o:Obj}(I:Inv X pins σ H s)(e:H a=some (.dK kvs))(ho:s.heap.get? a=some o):Inv X pins σ (upd H a (.frz o (.dK kvs))) s:=by(
have ne:∀b u,H b=some u→u≠ .dK kvs→b≠a:=λb u q n z=>by rw[z,e]at q;exact n (kJ q).symm
have nn:∀b,H b=none→b≠a:=λb q z=>by rw[z,e]at q;cases q
refine⟨I.ok,I.os,I.bare,I.base.trans ⟨λb u q _ _ _=>q,λb u q _ _ _=>⟨u.slots,q⟩,λb u q n _=>by rw[qE (nn b n)];exact n,λb u q _=>⟨u,q⟩,λb xs q=>by rw[qE (ne b _ q (by intro z;cases z))];exact q,λb u v q=>by rw[qE (ne b _ q (by intro z;cases z))];exact q,λb ps q=>⟨#[],by rw[qE (ne b _ q (by intro z;cases z)),q];simp⟩⟩,I.loc,I.cell,by rw[qE (nn _ I.free)];exact I.free,λx c q=>by rw[qE (nn _ (I.freeC x c q))];exact I.freeC x c q,λp hp=>?_,λb u q=>?_,I.len⟩
·obtain⟨q1,q2,q3⟩:=I.pin p hp;exact⟨q1,by rw[qE (nn _ q2)];exact q2,q3⟩
have st:∀b u,jR X.prog X.w H s.heap b u→jR X.prog X.w (upd H a (.frz o (.dK kvs))) s.heap b u:=λb u q=>q.stay (λ_ _ _ z=>z) (λc z=>by rw[qE (ne c _ z (by intro z;cases z))];exact z) (λc xs z=>by rw[qE (ne c _ z (by intro z;cases z))];exact z)
by_cases hb:b=a
·subst hb;rw[qG]at q;cases q;exact⟨ho,st b _ (I.hok b _ e)⟩
rw[qE hb]at q
exact st b u (I.hok b u q))
theorem Inv.thaw{o:Obj}{u:HO}(I:Inv X pins σ H s)(hne:∀o u,X.H₀ a≠some (.frz o u))(e:H a=some (.frz o u)):Inv X pins σ (upd H a u) s:=by(
have ne:∀b v,H b=some v→v≠ .frz o u→b≠a:=λb v q n z=>by rw[z,e]at q;exact n (kJ q).symm
have nn:∀b,H b=none→b≠a:=λb q z=>by rw[z,e]at q;cases q
have nf:∀b v,X.H₀ b=some v→(∃o' u',v=.frz o' u')→b≠a:=λb v q ⟨o',u',z⟩ w=>by rw[w,z]at q;exact hne o' u' q
refine⟨I.ok,I.os,I.bare,⟨I.base.keep,I.base.slot,λb v q n hx=>?_,I.base.there,λb xs q=>?_,λb v w q=>?_,λb ps q=>?_⟩,I.loc,I.cell,by rw[qE (nn _ I.free)];exact I.free,λx c q=>by rw[qE (nn _ (I.freeC x c q))];exact I.freeC x c q,λp hp=>?_,λb v q=>?_,I.len⟩
·have:=I.base.free b v q n hx;rw[qE (nn b this)];exact this
·have:=I.base.tups b xs q;rw[qE (ne b _ this (by intro z;cases z))];exact this
·rw[qE (nf b _ q ⟨_,_,rfl⟩)];exact I.base.frzs b v w q
·obtain⟨more,q2⟩:=I.base.tbls b ps q;exact⟨more,by rw[qE (ne b _ q2 (by intro z;cases z))];exact q2⟩
·obtain⟨q1,q2,q3⟩:=I.pin p hp;exact⟨q1,by rw[qE (nn _ q2)];exact q2,q3⟩
have st:∀b v,jR X.prog X.w H s.heap b v→jR X.prog X.w (upd H a u) s.heap b v:=λb v q=>q.stay (λ_ _ _ z=>z) (λc z=>by rw[qE (ne c _ z (by intro z;cases z))];exact z) (λc xs z=>by rw[qE (ne c _ z (by intro z;cases z))];exact z)
by_cases hb:b=a
·subst hb;rw[qG]at q;cases q;exact st b _ (I.hok b _ e).2
rw[qE hb]at q
exact st b v (I.hok b v q))
end
noncomputable def Itd(a:Addr)(o:Obj)(kvs:List (Key×V)):It:=⟨λi H=>H a=some (.frz o (.dK kvs))∧i<kvs.length,λi H x H'=>H'=H∧∃kv,kvs[i]?=some kv∧x=kV kv.1,λi H=>H a=some (.frz o (.dK kvs))∧kvs.length≤i⟩
theorem qC8{P:Program}{w:World}{K:PySem.W.Frag}{tg:Expr}(a it:Addr)(o:Obj){kvs:List (Key×V)}{vs:List (Key×Value)}{ep:Nat}(rel:KV kvs vs)(hD:∀h:Heap,h.get? a=some o→h.DictAt (jB P w) a vs ep):
 Turn P w K tg (Itd a o kvs) [it] it (λi h=>h.IsKeyIter it a i vs.length ep) where
mem:=by simp
obj:=λi h st b hb=>by
 have e:b=it:=by simpa using hb
 subst e;obtain⟨o',e,c,d⟩:=st;exact⟨o',e,λv z=>by rw[d]at z;cases z⟩
keep:=λi h h' st k=>st.at λo e=>k it (by simp) o e
item:=by
 intro X hP hw hK hc i pins s σ H E I hf st hg;subst hP hw hK;obtain⟨ha,hi⟩:=hg;obtain⟨ho,_⟩:=I.hok a _ ha;have hl:=rel.length;have hi':i<vs.length:=by lia
 obtain⟨f0,f1,f2,f3,f4,f5⟩:=hf it (by simp);refine wpAny_pyNext_dict_item (k:=vs[i].1) (v:=vs[i].2) st (hD _ ho) (hZ hi') λkey h' hk st' sb=>?_;have I1:Inv X pins σ H { s with heap:=h' }:=I.turned (t':=s.toks) (λb o hb e=>(sb.2 b hb).trans e) f0 f1 f3 f4 f5;obtain⟨o',e',c',d'⟩:=id st';refine⟨key,rfl,qAT (s:={ s with heap:=h' }) e' c' d' (by decide) ⟨kV kvs[i].1,H,I1,?_,⟨rfl,kvs[i],hZ hi,rfl⟩,st',λb hb=>(hf b hb).1⟩⟩;have ek:=dB (λl=>l[i]?) rel.keys;simp only[kW,hZ hi,hZ hi',lD]at ek;rw[kJ ek];exact qG4 hk
done:=by intro X hP hw hK hc i pins s σ H E I hf st hg;subst hP hw hK;obtain⟨ha,hi⟩:=hg;obtain⟨ho,_⟩:=I.hok a _ ha;have hl:=rel.length;obtain⟨f0,f1,f2,f3,f4,f5⟩:=hf it (by simp);exact wpAny_pyNext_dict_end (I.ok.hd hc) st (hD _ ho) (dJ (by lia)) λh' eb=>⟨rfl,I.turned (t':=s.toks) (λb o hb e=>eb b o hb e) f0 f1 f3 f4 f5⟩
self:=λ_ _ _ _ _ st h=>wpAny_pyIter_keyiter st h
section
variable{X:Cx}{tg:Expr}
noncomputable def iDct(td:TE):TI:=λσ H R=>td σ H λx H1=>∃a kvs,x=.ref a∧H1 a=some (.dK kvs)∧∀o,R (Itd a o kvs) (upd H1 a (.frz o (.dK kvs)))
theorem qF1{d:Expr}{td:TE}(hd:PE X d td):PI X tg d (iDct td):=by(
intro pins s σ H R I h
refine thn (hd pins s σ H _ I h) λv s1 hZ=>?_
obtain⟨x,H1,I1,r1,q1⟩:=hZ
obtain⟨a,kvs,e,ha,q⟩:=q1
subst e
cases r1
obtain⟨z,lo,vs,rel,dd⟩:=q5C I1.hok ha
obtain⟨ep,hat⟩:=dd.dictAt
obtain⟨o,es,ho,hr⟩:=id hat
have I2:=I1.freeze ha ho
refine wpAny_pyIter_dict lo hat ?_
refine⟨s1.heap.objs.size,[s1.heap.objs.size],_,_,_,rfl,I2.kept (t':=s1.toks) λb o e=>hX _ e,qC8 a _ o rel (λh' h=>⟨o,es,h,hr⟩),⟨_,kR _ rfl,rfl,rfl⟩,λb hb=>?_,q o⟩
have e:b=s1.heap.objs.size:=by simpa using hb
subst e
exact I2.fpOk (kB _) (I2.hok.fresh (kB _)))
theorem qHQ{pins:List (Addr×Obj)}{σ:St}{H:Hp}{s:Shared}{a:Addr}{kvs:List (Key×V)}(I:Inv X pins σ H s)(e:H a=some (.dK kvs)):∀o u,X.H₀ a≠some (.frz o u):=λo u q=>by have:=I.base.frzs a o u q;rw[e]at this;cases this
noncomputable def qJ5(t:TE):TE:=λσ H Q=>∃a kvs,H a=some (.dK kvs)∧t σ H λv H'=>∃o u,H' a=some (.frz o u)∧Q v (upd H' a u)
theorem qB7{e:Expr}{t:TE}(h:PE X e t):PE X e (qJ5 t):=by(
intro pins s σ H Q I hZ
obtain⟨a,kvs,ha,q⟩:=hZ
have nf:=qHQ I ha
refine thn (h pins s σ H _ I q) λu s' ⟨v,H',I',r,o,w,e,q⟩=>⟨v,_,I'.thaw nf e,r,q⟩)
theorem qF2{a:Addr}{o:Obj}{kvs:List (Key×V)}{D:Addr}{H2:Hp}{g:TG}{tc:TT}{te:TE}{σ0:St}{Q:VK}(Pv:Nat→Hp→Prop)(h0:Pv 0 H2)(hl:∀i H,Pv i H→H a=some (.frz o (.dK kvs)))
 (hs:∀(i:Nat) kv H,kvs[i]?=some kv→Pv i H→g (kV kv.1) σ0 H λσ5 H5=>tc σ5 H5 λb H6=>if b=true then te σ5 H6 (λv H7=>∃vs,H7 D=some (.lst vs)∧vs.length<sizeLine∧Pv (i+1) (upd H7 D (.lst (vs++[v]))))else Pv (i+1) H6) (hd:∀H,Pv kvs.length H→Q (.ref D) H):
 ∃W:Nat→Nat→Hp→Prop,(∃m,W 0 m H2)∧∀i m H3,W i m H3→((Itd a o kvs).stop i H3∧Q (.ref D) H3)∨((Itd a o kvs).go i H3∧∃N:Hp→Prop,(∀H',N H'→∃m',m'<m∧W (i+1) m' H')∧∀x H4,(Itd a o kvs).yld i H3 x H4→g x σ0 H4 λσ5 H5=>tc σ5 H5 λb H6=>
   if b=true then te σ5 H6 (λv H7=>∃vs,H7 D=some (.lst vs)∧vs.length<sizeLine∧N (upd H7 D (.lst (vs++[v]))))else N H6):=by(
refine⟨λi m H=>m=kvs.length-i∧i≤kvs.length∧Pv i H,⟨kvs.length,by simp,mI _,h0⟩,?_⟩
rintro i m H ⟨rfl,hi,p⟩
have q:=hl i H p
by_cases hlt:i<kvs.length
·refine .inr ⟨⟨q,hlt⟩,Pv (i+1),λH' z=>⟨kvs.length-(i+1),by lia,rfl,by lia,z⟩,?_⟩;rintro v H' ⟨rfl,kv,hk,rfl⟩
 exact hs i kv _ hk p
obtain rfl:i=kvs.length:=by lia
exact .inl ⟨⟨q,kB _⟩,hd _ p⟩)
end
noncomputable def q4C(v a:Addr):HO:=.ext λh=>h.IsItemsView v a
theorem qDO{P:Program}{w:World}{H:Hp}{h:Heap}{v a:Addr}(e:h.IsItemsView v a):jR P w H h v (q4C v a):=by obtain⟨o,e1,e2,e3⟩:=id e;exact⟨e,⟨_,e1⟩,λ_ _ ⟨o,a1,a2⟩ k=>⟨o,k _ a1,a2⟩⟩
theorem qDP{P:Program}{w:World}{H:Hp}{h:Heap}{v a:Addr}(ok:HOk P w H h)(e:H v=some (q4C v a)):h.IsItemsView v a:=(ok v _ e).1
noncomputable def qHR:V→List V→Hp→VK→Prop:=λx vs H Q=>∃a kvs,x=.ref a∧vs=[]∧H a=some (.dK kvs)∧∀v,H v=none→Q (.ref v) (upd H v (q4C v a))
theorem qDQ{X:Cx}:MtR X "dict.items" qHR:=by(
intro pins s σ H x vs v us Q I rx rv hZ
obtain⟨a,kvs,ex,ev,ha,q⟩:=hZ
subst ex ev
cases rx
have hus:=rv.zero
subst hus
obtain⟨z,lo,ws,rel,dd⟩:=q5C I.hok ha
refine cF c8 dd.typeIs PySem.F.entry_dict_items (PySem.F.args_dict_items_1 _) (meets_dict_items (jB X.prog X.w) a lo) ⟨⟨ws,dd⟩,?_⟩
exact⟨.ref s.heap.objs.size,_,I.laid (t':=s.toks) (λb o e=>hX _ e) (kB _) (qDO ⟨_,kR _ rfl,rfl,rfl⟩),rfl,q _ (I.hok.fresh (kB _))⟩)
theorem q5N:entryFor table "dict_itemiterator.__iter__"=some Builtin.«dict_keyiterator.__iter__»:=entryFor_alias (id':="dict_keyiterator.__iter__") (by kernel_rfl) (by first|decide+kernel|rfl|(unfold String.splitOn;simp+decide [String.splitOnAux])) (by decide+kernel) (by kernel_rfl)
noncomputable def Iti(a:Addr)(o:Obj)(kvs:List (Key×V)):It:=⟨λi H=>H a=some (.frz o (.dK kvs))∧i<kvs.length,λi H v H'=>∃T kv,v=.ref T∧H T=none∧H'=upd H T (.tup [kV kv.1,kv.2])∧kvs[i]?=some kv,λi H=>H a=some (.frz o (.dK kvs))∧kvs.length≤i⟩
theorem qAF{P:Program}{w:World}{K:PySem.W.Frag}{elts:List Expr}{x1}{pos:Pos}(a it:Addr)(o:Obj){kvs:List (Key×V)}{vs:List (Key×Value)}{ep:Nat}(rel:KV kvs vs)(hD:∀h:Heap,h.get? a=some o→h.DictAt (jB P w) a vs ep):
 Turn P w K (.Tuple elts x1 pos) (Iti a o kvs) [it] it (λi h=>∃k0 v0,IsItemIter h it a i vs.length ep k0 v0) where
mem:=by simp
obj:=λi h st b hb=>by
 have e:b=it:=by simpa using hb
 subst e;obtain⟨k0,v0,e⟩:=st;exact⟨_,e,λv z=>by cases z⟩
keep:=λi h h' st k=>let⟨k0,v0,e⟩:=st;⟨k0,v0,k it (by simp) _ e⟩
item:=by
 intro X hP hw hK hc i pins s σ H E I hf st hg;subst hP hw hK;obtain⟨ha,hi⟩:=hg;obtain⟨ho,_⟩:=I.hok a _ ha;have hl:=rel.length;have hi':i<vs.length:=by lia
 obtain⟨k0,v0,st⟩:=st;obtain⟨f0,f1,f2,f3,f4,f5⟩:=hf it (by simp);refine wpAny_pyNext_items_item (k:=vs[i].1) (v:=vs[i].2) st (hD _ ho) (hZ hi') λkey h' hk b1 b5 b6 b7=>?_;refine⟨_,rfl,wpAny_letOwnedTupleGo_items (s:={ s with heap:=h' }) b1 λh'' c1 c2=>?_⟩;have kk:∀b o,b∉[it]→s.heap.get? b=some o→h''.get? b=some o:=λb o hb e=>by have nb:b≠it:=λz=>hb (kF.mpr z);exact c2.extBut _ _ nb (b7 b o nb e)
 have I1:Inv X pins σ H { s with heap:=h'' }:=I.turnedN (t':=s.toks) kk hf;have fr:H s.heap.objs.size=none:=I.hok.fresh (kB _);have yg:=I.young (a:=s.heap.objs.size) (wT (kB _));have nit:s.heap.objs.size≠it:=dZ (kI st);have ek:=dB (λl=>l[i]?) rel.keys;simp only[kW,hZ hi,hZ hi',lD]at ek;have rk:RelV (kV kvs[i].1) key:=by rw[kJ ek];exact qG4 hk
 have rv:RelV kvs[i].2 vs[i].2:=by obtain⟨q,hq,z1,z2⟩:=Paired.at rel (hZ hi);rw[hZ hi']at hq;rw[kJ hq];exact z2
 have I2:=I1.trackG (o:=.tup [kV kvs[i].1,kvs[i].2]) fr yg (dZ I.lt) (λx' c' w q'=>by obtain⟨v,o',ho,_⟩:=I.cell x' c' w;exact absurd (kI ho) (by rw[q'];exact gT _)) ⟨by rw[gO,mY,mY,pP];lia,[key,vs[i].2],.cons rk (.cons rv .nil),⟨_,c2.extBut _ _ nit b5,rfl,_,rfl⟩⟩;refine⟨.ref s.heap.objs.size,_,I2,rfl,⟨_,kvs[i],rfl,fr,rfl,hZ hi⟩,⟨_,_,c1⟩,λb hb=>?_⟩;have e:b=it:=by simpa using hb
 subst e;rw[qE (dO nit)];exact(hf b hb).1
done:=by intro X hP hw hK hc i pins s σ H E I hf st hg;subst hP hw hK;obtain⟨ha,hi⟩:=hg;obtain⟨ho,_⟩:=I.hok a _ ha;have hl:=rel.length;obtain⟨k0,v0,st⟩:=st;obtain⟨f0,f1,f2,f3,f4,f5⟩:=hf it (by simp);exact wpAny_pyNext_items_end (I.ok.hd hc) st (hD _ ho) (dJ (by lia)) λh' eb=>⟨rfl,I.turned (t':=s.toks) (λb o hb e=>eb b o hb e) f0 f1 f3 f4 f5⟩
self:=λA i s Q E ⟨k0,v0,st⟩ h=>by have ty:s.TypeIs (.ref it) "dict_itemiterator":=⟨_,st,rfl⟩;refine wpAny_pyIter_slot ty rW (wpAny_call_entry rW ty q5N ?_ (PySem.F.args_dict_itemiterator_iter_1 _));show wpAny _ _ (ret (.ref it)) _ _ s;exact kU ⟨_,rfl,"dict_itemiterator",_,ty,PySem.F.slot_dict_itemiterator_next.lookup,h⟩
section
variable{X:Cx}
noncomputable def iItm(td:TE):TI:=λσ H R=>td σ H λx H1=>∃v a kvs,x=.ref v∧H1 v=some (q4C v a)∧H1 a=some (.dK kvs)∧∀o,R (Iti a o kvs) (upd H1 a (.frz o (.dK kvs)))
theorem qHS{elts:List Expr}{x1}{pos:Pos}{d:Expr}{td:TE}(hd:PE X d td):PI X (.Tuple elts x1 pos) d (iItm td):=by(
intro pins s σ H R I h
refine thn (hd pins s σ H _ I h) λv s1 hZ=>?_
obtain⟨x,H1,I1,r1,q1⟩:=hZ
obtain⟨vw,a,kvs,e,hv,ha,q⟩:=q1
subst e
cases r1
obtain⟨z,lo,vs,rel,dd⟩:=q5C I1.hok ha
obtain⟨ep,hat⟩:=dd.dictAt
obtain⟨o,es,ho,hr⟩:=id hat
have I2:=I1.freeze ha ho
refine wpAny_pyIter_items (qDP I1.hok hv) hat ?_
refine⟨s1.heap.objs.size,[s1.heap.objs.size],_,_,_,rfl,I2.kept (t':=s1.toks) λb o e=>hX _ e,qAF a _ o rel (λh' h=>⟨o,es,h,hr⟩),⟨_,_,kR _ rfl⟩,λb hb=>?_,q o⟩
have e:b=s1.heap.objs.size:=by simpa using hb
subst e
exact I2.fpOk (kB _) (I2.hok.fresh (kB _)))
end
theorem qF3{a:Addr}{o:Obj}{kvs:List (Key×V)}{D:Addr}{H2:Hp}{g:TG}{tc:TT}{te:TE}{σ0:St}{R:Hp→Prop}(Pv:Nat→Hp→Prop)(h0:Pv 0 H2)(hl:∀i H,Pv i H→H a=some (.frz o (.dK kvs)))
 (hs:∀(i:Nat) kv T H,kvs[i]?=some kv→Pv i H→H T=none→g (.ref T) σ0 (upd H T (.tup [kV kv.1,kv.2])) λσ5 H5=>tc σ5 H5 λb H6=>if b=true then te σ5 H6 (λv H7=>∃vs,H7 D=some (.lst vs)∧vs.length<sizeLine∧Pv (i+1) (upd H7 D (.lst (vs++[v]))))else Pv (i+1) H6) (hd:∀H,Pv kvs.length H→R H):
 ∃W:Nat→Nat→Hp→Prop,(∃m,W 0 m H2)∧∀i m H3,W i m H3→((Iti a o kvs).stop i H3∧R H3)∨((Iti a o kvs).go i H3∧∃N:Hp→Prop,(∀H',N H'→∃m',m'<m∧W (i+1) m' H')∧∀x H4,(Iti a o kvs).yld i H3 x H4→g x σ0 H4 λσ5 H5=>tc σ5 H5 λb H6=>
   if b=true then te σ5 H6 (λv H7=>∃vs,H7 D=some (.lst vs)∧vs.length<sizeLine∧N (upd H7 D (.lst (vs++[v]))))else N H6):=by(
refine⟨λi m H=>m=kvs.length-i∧i≤kvs.length∧Pv i H,⟨kvs.length,by simp,mI _,h0⟩,?_⟩
rintro i m H ⟨rfl,hi,p⟩
have q:=hl i H p
by_cases hlt:i<kvs.length
·refine .inr ⟨⟨q,hlt⟩,Pv (i+1),λH' z=>⟨kvs.length-(i+1),by lia,rfl,by lia,z⟩,?_⟩;rintro v H' ⟨T,kv,rfl,nT,rfl,hk⟩
 exact hs i kv T _ hk p nT
obtain rfl:i=kvs.length:=by lia
exact .inl ⟨⟨q,kB _⟩,hd _ p⟩)
end L2
namespace L2
open PySem PySem.W PyProof.Rows
noncomputable def hT{α:Type}(c:Nat→Nat→Bool)(n:Nat):KasT α→(α→Prop)→Prop
| .ret a,Q=>Q a
| .ask i j k,Q=>i<n∧j<n∧hT c n (k (c i j)) Q
theorem u9{α:Type}{c:Nat→Nat→Bool}{n:Nat}{Q Q':α→Prop}(h:∀a,Q a→Q' a):∀t:KasT α,hT c n t Q→hT c n t Q'
| .ret a,q=>h a q
| .ask i j k,q=>⟨q.1,q.2.1,u9 h (k (c i j)) q.2.2⟩
theorem q23{α β:Type}{c:Nat→Nat→Bool}{n:Nat}{f:α→KasT β}{Q:β→Prop}:∀t:KasT α,hT c n t (λa=>hT c n (f a) Q)→hT c n (t.bind f) Q
| .ret a,q=>q
| .ask i j k,q=>⟨q.1,q.2.1,q23 (k (c i j)) q.2.2⟩
theorem qG5{α:Type}{c:Nat→Nat→Bool}{n:Nat}{cmp:Nat→Nat→(Bool→Shared→Prop)→Shared→Prop}{G:α→Shared→Prop}{s:Shared}(hc:∀i j C,i<n→j<n→C (c i j) s→cmp i j C s):
 ∀t:KasT α,hT c n t (λa=>G a s)→t.kasWp cmp G s
| .ret a,q=>q
| .ask i j k,q=>hc i j _ q.1 q.2.1 (qG5 hc (k (c i j)) q.2.2)
section
variable{r:Nat→Int}{n:Nat}
noncomputable abbrev rc(r:Nat→Int):Nat→Nat→Bool:=λi j=>decide (r i<r j)
noncomputable abbrev kk(r:Nat→Int)(p:Array Nat)(i:Nat):Int:=r (p.getD i 0)
noncomputable def Srt(r:Nat→Int)(p:Array Nat)(m:Nat):Prop:=∀i j,i≤j→j<m→kk r p i≤kk r p j
noncomputable def Dec(r:Nat→Int)(p:Array Nat)(m:Nat):Prop:=∀i j,i≤j→j<m→kk r p j≤kk r p i
noncomputable def Gp(n:Nat)(p:Array Nat):Prop:=p.Perm (List.range n).toArray
theorem Gp.size{p:Array Nat}(g:Gp n p):p.size=n:=by have:=g.size_eq;simpa using this
theorem Gp.lt{p:Array Nat}(g:Gp n p){i:Nat}(h:i<n):p.getD i 0<n:=by(
have hi:i<p.size:=by rw[g.size];exact h
have e:p.getD i 0=p[i]:=by simp[Array.getD,hi]
have:p[i]∈(List.range n).toArray:=g.mem_iff.mp (Array.getElem_mem hi)
rw[e]
simpa using this)
theorem Srt.more{p:Array Nat}{m:Nat}(h:Srt r p m)(e:kk r p (m-1)≤kk r p m):Srt r p (m+1):=λi j hij hj=>by(
by_cases z:j<m
·exact h i j hij z
have ej:j=m:=by lia
subst ej
by_cases z2:i=j
·subst z2;exact wV _
exact nM (h i (j-1) (by lia) (by lia)) e)
theorem Dec.more{p:Array Nat}{m:Nat}(h:Dec r p m)(e:kk r p m≤kk r p (m-1)):Dec r p (m+1):=λi j hij hj=>by(
by_cases z:j<m
·exact h i j hij z
have ej:j=m:=by lia
subst ej
by_cases z2:i=j
·subst z2;exact wV _
exact nM e (h i (j-1) (by lia) (by lia)))
theorem q3A{p q:Array Nat}{i j:Nat}(h:p[i]?=q[j]?):p.getD i 0=q.getD j 0:=by rw[cG,cG,h]
theorem qAG{p:Array Nat}{i j:Nat}(hj:j≤p.size)(k:Nat):(kas_rev p i j).getD k 0=if i≤k∧k<j then p.getD (i+j-1-k) 0 else p.getD k 0:=by(
unfold kas_rev
by_cases h:i≤k∧k<j
·rw[kG h];exact q3A (by rw[sL hj,kG h])
rw[kC h]
exact q3A (by rw[sL hj,kC h]))
theorem Gp.rev{p:Array Nat}(g:Gp n p)(i j:Nat):Gp n (kas_rev p i j):=(mirror_perm _ _ _ _).trans g
theorem qAH{p:Array Nat}(g:Gp n p):∀(f m:Nat),1≤m→m+f≤n→Srt r p m→hT (rc r) n (kas_asc p f m) (λe=>m≤e∧e≤m+f∧Srt r p e∧(e<m+f→kk r p e<kk r p (e-1)))
|0,m,h1,hz,h=>⟨kB _,kB _,h,λz=>absurd z (gT _)⟩
|f+1,m,h1,hz,h=>by
 refine⟨g.lt (by lia),g.lt (by lia),?_⟩;by_cases e:r (p.getD m 0)<r (p.getD (m-1) 0)
 ·rw[show rc r (p.getD m 0) (p.getD (m-1) 0)=true from hI e];dsimp only;rw[kG rfl];exact⟨kB _,by lia,h,λ_=>e⟩
 rw[show rc r (p.getD m 0) (p.getD (m-1) 0)=false from hG e];dsimp only;rw[kC kH];refine u9 ?_ _ (qAH g f (m+1) (by lia) (by lia) (h.more (by show r _≤r _;lia)));rintro a ⟨a1,a2,a3,a4⟩
 exact⟨by lia,by lia,a3,λz=>a4 (by lia)⟩
noncomputable def Eql(r:Nat→Int)(p:Array Nat)(a b:Nat):Prop:=∀k,a≤k→k<b→kk r p k=kk r p (b-1)
theorem q81{p:Array Nat}{i j:Nat}(hj:j≤p.size)(h:Eql r p i j)(k:Nat):kk r (kas_rev p i j) k=kk r p k:=by(
show r _=r _
rw[qAG hj]
by_cases z:i≤k∧k<j
·rw[kG z];exact(h _ (by lia) (by lia)).trans (h k z.1 z.2).symm
rw[kC z])
theorem q4Y:∀(f:Nat) (p:Array Nat) (m q:Nat),Gp n p→q+1≤m→m+f≤n→Dec r p m→Eql r p (m-(q+1)) m→hT (rc r) n (kas_desc f p m q) (λz=>Gp n z.1∧m≤z.2.1∧z.2.1≤m+f∧Dec r z.1 z.2.1∧z.2.2+1≤z.2.1∧Eql r z.1 (z.2.1-(z.2.2+1)) z.2.1)
|0,p,m,q,g,hq,hz,d,e=>⟨g,kB _,kB _,d,hq,e⟩
|f+1,p,m,q,g,hq,hz,d,e=>by
 have hs:=g.size;refine⟨g.lt (by lia),g.lt (by lia),?_⟩;by_cases c:r (p.getD m 0)<r (p.getD (m-1) 0)
 ·rw[show rc r (p.getD m 0) (p.getD (m-1) 0)=true from hI c];dsimp only;rw[kG rfl];by_cases q0:q>0
  ·rw[kG q0];have kq:=q81 (r:=r) (p:=p) (i:=m-(q+1)) (j:=m) (by lia) e;have d1:Dec r (kas_rev p (m-(q+1)) m) (m+1):=λi j hij hj=>by rw[kq,kq];exact d.more (cH c) i j hij hj
   refine u9 ?_ _ (q4Y f _ (m+1) 0 (g.rev _ _) (by lia) (by lia) d1 λk h1 h2=>by rw[show k=m by lia];rfl);rintro a ⟨a1,a2,a3,a4⟩
   exact⟨a1,by lia,by lia,a4⟩
  rw[kC q0];refine u9 ?_ _ (q4Y f p (m+1) 0 g (by lia) (by lia) (d.more (cH c)) λk h1 h2=>by rw[show k=m by lia];rfl);rintro a ⟨a1,a2,a3,a4⟩
  exact⟨a1,by lia,by lia,a4⟩
 rw[show rc r (p.getD m 0) (p.getD (m-1) 0)=false from hG c];dsimp only;rw[kC kH];refine⟨g.lt (by lia),g.lt (by lia),?_⟩;by_cases c2:r (p.getD (m-1) 0)<r (p.getD m 0)
 ·rw[show rc r (p.getD (m-1) 0) (p.getD m 0)=true from hI c2];dsimp only;rw[kG rfl];exact⟨g,kB _,Nat.le_add_right _ _,d,hq,e⟩
 rw[show rc r (p.getD (m-1) 0) (p.getD m 0)=false from hG c2];dsimp only;rw[kC kH];have ee:r (p.getD m 0)=r (p.getD (m-1) 0):=by lia
 refine u9 ?_ _ (q4Y f p (m+1) (q+1) g (by lia) (by lia) (d.more (Int.le_of_eq ee)) λk h1 h2=>?_)
 ·rintro a ⟨a1,a2,a3,a4⟩
  exact⟨a1,by lia,by lia,a4⟩
 show r (p.getD k 0)=r (p.getD m 0);by_cases z:k=m
 ·rw[z]
 rw[ee];exact e k (by lia) (by lia)
theorem qB8{p:Array Nat}{m:Nat}(g:Gp n p)(h1:1≤m)(hm:m≤n)(d:Dec r p m):hT (rc r) n (kas_tail3 m n p) (λz=>Gp n z.2∧1≤z.1∧z.1≤n∧Srt r z.2 z.1):=by(
have hs:=g.size
have sr:Srt r (kas_rev p 0 m) m:=λi j hij hj=>by show r _≤r _;rw[qAG (by lia),qAG (by lia),kG ⟨mI _,by lia⟩,kG ⟨mI _,hj⟩];exact d _ _ (by lia) (by lia)
refine q23 _ (u9 ?_ _ (qAH (g.rev 0 m) (n-m) m h1 (by lia) sr))
rintro a ⟨a1,a2,a3,_⟩
exact⟨g.rev _ _,by lia,by lia,a3⟩)
theorem qB9{p:Array Nat}{m:Nat}(g:Gp n p)(hm:m+1≤n)(d:Dec r p (m+1)):hT (rc r) n (kas_descPart m n p) (λz=>Gp n z.2∧1≤z.1∧z.1≤n∧Srt r z.2 z.1):=by(
refine q23 _ (u9 ?_ _ (q4Y (n-(m+1)) p (m+1) 0 g (by lia) (by lia) d λk h1 h2=>by rw[show k=m by lia];rfl))
rintro⟨p',m',q'⟩ ⟨a1,a2,a3,a4,a5,a6⟩
dsimp only at a1 a2 a3 a4 a5 a6 ⊢
have hs:=a1.size
by_cases q0:q'>0
·rw[kG q0];have kq:=q81 (r:=r) (p:=p') (i:=m'-(q'+1)) (j:=m') (by lia) a6;exact qB8 (a1.rev _ _) (by lia) (by lia) λi j hij hj=>by rw[kq,kq];exact a4 i j hij hj
rw[kC q0]
exact qB8 a1 (by lia) (by lia) a4)
theorem qDR{p:Array Nat}(g:Gp n p)(h1:1≤n):hT (rc r) n (kas_count n p) (λz=>Gp n z.2∧1≤z.1∧z.1≤n∧Srt r z.2 z.1):=by(
have hs:=g.size
have s1:Srt r p 1:=λi j hij hj=>by rw[show i=j by lia];exact wV _
refine q23 _ (u9 ?_ _ (qAH g (n-1) 1 (kB _) (by lia) s1))
rintro m ⟨a1,a2,a3,a4⟩
try dsimp only
by_cases e:m=n
·rw[kG (by rw[dU];exact e)];exact⟨g,a1,by lia,a3⟩
rw[kC (by rw[dU];exact e)]
have lt:=a4 (by lia)
by_cases m1:m>1
·rw[kG m1];refine⟨g.lt (by lia),g.lt (by lia),?_⟩;by_cases c:r (p.getD 0 0)<r (p.getD (m-1) 0)
 ·rw[show rc r (p.getD 0 0) (p.getD (m-1) 0)=true from hI c];dsimp only;rw[kG rfl];exact⟨g,a1,by lia,a3⟩
 rw[show rc r (p.getD 0 0) (p.getD (m-1) 0)=false from hG c];dsimp only;rw[kC kH];have eq:Eql r p 0 m:=λk _ hk=>by have z1:=a3 0 k (mI _) hk;have z2:=a3 k (m-1) (by lia) (by lia);show r _=r _;have z1:r (p.getD 0 0)≤r (p.getD k 0):=z1;have z2:r (p.getD k 0)≤r (p.getD (m-1) 0):=z2;lia
 have kq:=q81 (r:=r) (p:=p) (i:=0) (j:=m) (by lia) eq;refine qB9 (g.rev _ _) (by lia) λi j hij hj=>?_;rw[kq,kq];refine Dec.more (m:=m) (λi j hij hj=>?_) (cH lt) i j hij hj;rw[eq i (mI _) (by lia),eq j (mI _) hj];exact wV _
rw[kC m1]
have:m=1:=by lia
subst this
refine qB9 g (by lia) (Dec.more (λi j hij hj=>?_) (cH lt))
rw[show i=j by lia]
exact wV _)
theorem q5O{p:Array Nat}(g:Gp n p){k:Nat}(hk:k<n)(sr:Srt r p k):∀(f l u:Nat),u-l≤f→l≤u→u≤k→(∀i,i<l→kk r p i≤kk r p k)→(∀i,u≤i→i<k→kk r p k<kk r p i)→hT (rc r) n (kas_place p k f l u) (λm=>m≤k∧(∀i,i<m→kk r p i≤kk r p k)∧∀i,m≤i→i<k→kk r p k<kk r p i)
|0,l,u,hf,hl,hu,a,b=>⟨by lia,a,λi h1 h2=>b i (by lia) h2⟩
|f+1,l,u,hf,hl,hu,a,b=>by
 unfold kas_place;by_cases e:l≥u
 ·rw[kG e];exact⟨by lia,a,λi h1 h2=>b i (by lia) h2⟩
 rw[kC e];refine⟨g.lt hk,g.lt (by lia),?_⟩;by_cases c:r (p.getD k 0)<r (p.getD ((l+u) / 2) 0)
 ·rw[show rc r (p.getD k 0) (p.getD ((l+u) / 2) 0)=true from hI c];dsimp only;rw[kG rfl];refine q5O g hk sr f l ((l+u) / 2) (by lia) (by lia) (by lia) a λi h1 h2=>?_;exact Int.lt_of_lt_of_le c (sr _ _ h1 h2)
 rw[show rc r (p.getD k 0) (p.getD ((l+u) / 2) 0)=false from hG c];dsimp only;rw[kC kH];refine q5O g hk sr f ((l+u) / 2+1) u (by lia) (by lia) hu (λi h1=>?_) b;exact nM (sr i ((l+u) / 2) (by lia) (by lia)) (by show r _≤r _;lia)
theorem qHT{p:Array Nat}{k l:Nat}(hk:k<p.size)(hl:l≤k)(i:Nat):(bubble p k (k-l)).getD i 0=if i=l then p.getD k 0 else if l<i∧i≤k then p.getD (i-1) 0 else p.getD i 0:=by(
have e:=getElem?_bubble hk (k-l) (by lia) i
rw[show k-(k-l)=l by lia]at e
by_cases h1:i=l
·rw[kG h1]at e ⊢;exact q3A e
rw[kC h1]at e ⊢
by_cases h2:l<i∧i≤k
·rw[kG h2]at e ⊢;exact q3A e
rw[kC h2]at e ⊢
exact q3A e)
theorem qDS:∀(f:Nat) (p:Array Nat) (k:Nat),Gp n p→k+f≤n→Srt r p k→hT (rc r) n (kas_bin f p k) (λq=>Gp n q∧Srt r q (k+f))
|0,p,k,g,hz,sr=>⟨g,sr⟩
|f+1,p,k,g,hz,sr=>by
 have hs:=g.size;refine q23 _ (u9 ?_ _ (q5O g (show k<n by lia) sr k 0 k (by lia) (mI _) (kB _) (λi h=>absurd h (Nat.not_lt_zero _)) λi h1 h2=>absurd h2 (by lia)));rintro l ⟨a1,a2,a3⟩
 have at':=qHT (p:=p) (k:=k) (l:=l) (by lia) a1;refine u9 ?_ _ (qDS f _ (k+1) ((bubble_perm _ _ _).trans g) (by lia) λi j hij hj=>?_)
 ·rintro q ⟨b1,b2⟩
  exact⟨b1,by rw[show k+(f+1)=k+1+f by lia];exact b2⟩
 show r _≤r _;rw[at',at'];by_cases i1:i=l
 ·rw[kG i1];by_cases j1:j=l
  ·rw[kG j1];exact wV _
  rw[kC j1,kG ⟨by lia,by lia⟩];exact cH (a3 (j-1) (by lia) (by lia))
 rw[kC i1];by_cases i2:l<i∧i≤k
 ·rw[kG i2,kC (by lia),kG ⟨by lia,by lia⟩];exact sr _ _ (by lia) (by lia)
 rw[kC i2];by_cases j1:j=l
 ·rw[kG j1];exact a2 i (by lia)
 rw[kC j1];by_cases j2:l<j∧j≤k
 ·rw[kG j2];exact sr _ _ (by lia) (by lia)
 rw[kC j2];exact sr _ _ hij (by lia)
theorem qF4(h1:1≤n):hT (rc r) n (kas_sort n) (λp=>Gp n p∧Srt r p n):=by(
refine q23 _ (u9 ?_ _ (qDR (p:=(List.range n).toArray) (Array.Perm.refl _) h1))
rintro⟨m,p⟩ ⟨a1,a2,a3,a4⟩
dsimp only at a1 a2 a3 a4 ⊢
by_cases e:m<n
·rw[kG e];refine u9 ?_ _ (qDS (n-max m 1) p (max m 1) a1 (by lia) (by rw[Nat.max_eq_left a2];exact a4));rintro q ⟨b1,b2⟩
 exact⟨b1,by rw[show max m 1+(n-max m 1)=n by lia]at b2;exact b2⟩
rw[kC e]
have:m=n:=by lia
subst this
exact⟨a1,a4⟩)
end
end L2
namespace L2
open PySem PySem.W PySem.Spec PyProof.Rows
section
variable{prog:Program}{w:World}{A:Around}{E:Value→Shared→Prop}{s:Shared}
structure RkAt(prog:Program)(w:World)(A:Around)(vs:List Value)(κ:SortKind)(r:Nat→Int)(s:Shared):Prop where
kind:∀(Q:SortKind→Shared→Prop) (E:Value→Shared→Prop),Q κ s→wpAny (model prog w) A (keyKind' vs.toArray) Q E s
lt:∀i j (C:Bool→Shared→Prop),i<vs.length→j<vs.length→C (decide (r i<r j)) s→wpAny (model prog w) A (keyLt' κ (vs.getD i Value.none) (vs.getD j Value.none)) C (λ_ _=>False) s
end
noncomputable def lx:List Int→List Int→Bool
|a::r,b::s=>if a=b then lx r s else decide (a<b)
| [],_::_=>true
|_,[]=>false
theorem qAI:∀a:List Int,lx a a=false
| []=>rfl
|a::r=>by show(if a=a then lx r r else decide (a<a))=false;rw[kG rfl];exact qAI r
theorem q19:∀a b c:List Int,lx a b=true→lx b c=true→lx a c=true
| [],[],c,h,_=>by cases h
| [],_::_,[],_,h=>by cases h
| [],_::_,_::_,_,_=>rfl
|_::_,[],c,h,_=>by cases h
|_::_,_::_,[],_,h=>by cases h
|a::r,b::s,c::t,h,g=>by
 have h:(if a=b then lx r s else decide (a<b))=true:=h;have g:(if b=c then lx s t else decide (b<c))=true:=g;show(if a=c then lx r t else decide (a<c))=true;by_cases e1:a=b
 ·subst e1;rw[kG rfl]at h;by_cases e2:a=c
  ·subst e2;rw[kG rfl]at g ⊢;exact q19 r s t h g
  rw[kC e2]at g ⊢;exact g
 rw[kC e1,kQ]at h;by_cases e2:b=c
 ·subst e2;rw[kC e1];exact hI h
 rw[kC e2,kQ]at g;rw[kC (by lia)];exact hI (by lia)
theorem q82:∀a b:List Int,lx a b=false→lx b a=false→a=b
| [],[],_,_=>rfl
| [],_::_,h,_=>by cases h
|_::_,[],_,h=>by cases h
|a::r,b::s,h,g=>by
 have h:(if a=b then lx r s else decide (a<b))=false:=h;have g:(if b=a then lx s r else decide (b<a))=false:=g;by_cases e:a=b
 ·subst e;rw[kG rfl]at h g;rw[q82 r s h g]
 rw[kC e,decide_eq_false_iff_not]at h;rw[kC (λz=>e z.symm),decide_eq_false_iff_not]at g;lia
theorem q9H{α:Type}{p q:α→Bool}:∀{l:List α} {x:α},(∀y∈l,p y=true→q y=true)→x∈l→q x=true→p x=false→l.countP p<l.countP q
|a::l,x,h,hx,h1,h2=>by
 have ml:l.countP p≤l.countP q:=pV λy hy=>h y (kD _ hy);rw[nS,nS];rcases kL.mp hx with e|hx
 ·subst e;rw[h1,h2,kC kH,kG rfl];lia
 have ih:=q9H (λy hy=>h y (kD _ hy)) hx h1 h2;have ha:=h a (kO ..);cases pa:p a with
 |false=>rw[kC kH];lia
 |true=>rw[ha pa];lia
noncomputable def rkOf(ks:List (List Int))(k:List Int):Int:=((ks.countP λy=>lx y k:Nat):Int)
theorem qDT{ks:List (List Int)}{k k':List Int}(h:k∈ks)(h':k'∈ks):rkOf ks k<rkOf ks k'↔lx k k'=true:=by(
constructor
·intro lt;cases e:lx k k' with
 |true=>rfl
 |false=>
  have:ks.countP (λy=>lx y k')≤ks.countP (λy=>lx y k):=pV λy _ hy=>by
   cases g:lx k' k with
   |true=>exact q19 _ _ _ hy g
   |false=>rw[q82 k k' e g];exact hy
  unfold rkOf at lt;lia
intro e
have:=q9H (p:=λy=>lx y k) (q:=λy=>lx y k') (l:=ks) (x:=k) (λy _ hy=>q19 _ _ _ hy e) h e (qAI k)
unfold rkOf
lia)
section
variable{prog:Program}{w:World}{A:Around}{E:Value→Shared→Prop}{s:Shared}
theorem qF5{b:Bool}{x y:Int}{t u:Tok}{Q:Bool→Shared→Prop}(h:Q (decide (x<y)) s):wpAny (model prog w) A (oneLt' b (.int x t) (.int y u)) Q E s:=by(
cases b with
|true=>have z:=kat_lt_int (prog:=prog) (w:=w) (A:=A) (E:=E) (t:=t) (u:=u) h;rw[keyLt'_oneType]at z;exact z
|false=>refine kat_one _ _ ?_;exact lt_int h)
theorem q9I{b:Bool}{Q:Bool→Shared→Prop}:∀{ns ms:List Int} {us vs:List Value} (i:Nat),IntsAre us ns→IntsAre vs ms→ns.length=ms.length→Q (lx ns ms) s→KatLex prog w A b false Q (us.zip vs) i s
| [],[],_,_,i,.nil,.nil,_,h=>h
|n::ns,m::ms,_,_,i,.cons _ t hn,.cons _ u hm,hl,h=>by
 refine kat_cons (wpAny_eqBool_int ?_);have h:Q (if n=m then lx ns ms else decide (n<m)) s:=h;by_cases e:n=m
 ·rw[kG e]at h;rw[show(n==m)=true by rw[dU];exact e];exact kat_yes (q9I (i+1) hn hm (by simpa using hl) h)
 rw[kC e]at h;rw[show(n==m)=false by rw[g9];exact e];exact kat_no (qF5 h)
| [],_::_,_,_,_,_,_,hl,_=>by simp at hl
|_::_,[],_,_,_,_,_,hl,_=>by simp at hl
noncomputable def IsTI(h:Heap)(v:Value)(k:List Int):Prop:=∃a us,v=.ref a∧h.IsTuple a us.toArray∧IntsAre us k
theorem qBA{h:Heap}:∀{vs:List Value} {ks:List (List Int)},Paired (IsTI h) vs ks→(∀k∈ks,0<k.length)→∃fs,KatTups h vs fs∧fs.length=ks.length∧∀v∈fs,∃i t,v=.int i t
| [],[],.nil,_=>⟨[],trivial,rfl,λv hv=>by cases hv⟩
|v::vs,k::ks,.cons x t,hp=>by
 obtain⟨fs,r,hl,hi⟩:=qBA t λk hk=>hp k (kD _ hk);obtain⟨a,us,rfl,⟨o,ho,hc,n,hd⟩,iu⟩:=x;have h0:=hp k (kO ..);cases iu with
 |nil=>simp at h0
 |cons i t0 hr=>
  refine⟨.int i t0::fs,KatTups.cons ho hc hd (by simp) r,by simp[hl],λv hv=>?_⟩;rcases kL.mp hv with rfl|hv
  ·exact⟨i,t0,rfl⟩
  exact hi v hv
theorem qF6{vs:List Value}{ks:List (List Int)}{m:Nat}(h:Paired (IsTI s.heap) vs ks)(hw:∀k∈ks,k.length=m)(hm:0<m)(h2:2≤vs.length):RkAt prog w A vs (tuples' true) (λi=>rkOf ks (ks.getD i [])) s:=by(
have hl:=h.len
constructor
·intro Q E' q;obtain⟨fs,t,e,hi⟩:=qBA h λk hk=>by rw[hw k hk];exact hm
 exact kat_kind (T:=Value.type "int") t (by lia) (λv hv=>by obtain⟨i,t0,rfl⟩:=hi v hv;exact .now) rfl q
intro i j C hi hj c
have e1:vs[i]?=some (vs.getD i Value.none):=by rw[hZ hi];simp[hi]
have e2:vs[j]?=some (vs.getD j Value.none):=by rw[hZ hj];simp[hj]
obtain⟨k1,g1,a1,us1,q1,⟨o1,ho1,_,n1,d1⟩,i1⟩:=Paired.at h e1
obtain⟨k2,g2,a2,us2,q2,⟨o2,ho2,_,n2,d2⟩,i2⟩:=Paired.at h e2
have m1:k1∈ks:=mJ g1
have m2:k2∈ks:=mJ g2
have z1:ks.getD i []=k1:=by rw[kM,g1];rfl
have z2:ks.getD j []=k2:=by rw[kM,g2];rfl
have ll:k1.length=k2.length:=by rw[hw _ m1,hw _ m2]
have c:C (lx k1 k2) s:=by
 have y:decide (rkOf ks (ks.getD i [])<rkOf ks (ks.getD j []))=lx k1 k2:=by rw[z1,z2,d6,kQ];exact qDT m1 m2
 rw[←y];exact c
rw[q1,q2]
refine kat_lt ho1 d1 ho2 d2 ?_
have f:decide (us1.toArray.size<us2.toArray.size)=false:=by rw[kN,kN,i1.length,i2.length,ll];exact hG (gT _)
rw[f]
exact q9I 0 i1 i2 ll c)
end
section
variable{X:Cx}
noncomputable def TupI(K:PySem.W.Frag)(H:Hp)(v:V)(k:List Int):Prop:=∃a,v=.ref a∧SqT K H a (k.map V.int)
theorem qBB{pins:List (Addr×Obj)}{σ:St}{H:Hp}{s:Shared}(I:Inv X pins σ H s):∀{xs:List V} {us:List Value} {ks:List (List Int)},Vals xs us→Paired (TupI X.K H) xs ks→Paired (IsTI s.heap) us ks
| [],_,_,.nil,.nil=>.nil
|x::xs,u::us,_,.cons r t,.cons ⟨a,e,h⟩ y=>by subst e;obtain rfl:u=Value.ref a:=r;obtain⟨its,rv,p,_⟩:=I.tuple h;exact .cons ⟨a,its,rfl,p,q4X rv⟩ (qBB I t y)
theorem q7E{xs:List V}{us:List Value}(r:Vals xs us):∀{q:List Nat},(∀i∈q,i<xs.length)→Vals (q.map λi=>xs.getD i .non) (q.map λi=>us.getD i Value.none)
| [],_=>.nil
|i::q,h=>by have hi:=h i (kO ..);have hl:=r.length;refine .cons ?_ (q7E r λj hj=>h j (kD _ hj));obtain⟨x,e,z⟩:=r.atN (j:=i) (by lia);show RelV (xs.getD i .non) (us.getD i Value.none);rw[kM,e,kM,hZ (by lia)];exact z
end
section
variable{X:Cx}{pins:List (Addr×Obj)}{σ:St}
noncomputable def TupD(H:Hp)(v:V)(k:List Int):Prop:=∃a,v=.ref a∧H a=some (.tup (k.map V.int))
theorem TupD.i{K:PySem.W.Frag}{H:Hp}{v:V}{k:List Int}(h:TupD H v k):TupI K H v k:=let⟨a,e,z⟩:=h;⟨a,e,SqT.of z⟩
theorem TupD.same{H H':Hp}{v:V}{k:List Int}(h:TupD H v k)(s:Same H H'):TupD H' v k:=let⟨a,e,z⟩:=h;⟨a,e,s _ _ z⟩
noncomputable def dI(ks:List (Int×Int)):List (Key×V):=ks.map λp=>((.inl p.1:Key),V.int p.2)
theorem uT:∀{ks:List (Int×Int)} {n m:Int},(ks.map (·.1)).Nodup→(n,m)∈ks→valV (dI ks) (.inl n:Key)=some (.int m)
|p::ks,n,m,nd,h=>by
 obtain⟨n1,n2⟩:=gC.mp nd;show valV (((.inl p.1:Key),V.int p.2)::dI ks) (.inl n)=_;rcases kL.mp h with rfl|h
 ·exact vH rfl
 have ne:p.1≠n:=λe=>n1 (by show p.1∈_;rw[e];exact List.mem_map_of_mem (f:=λx:Int×Int=>x.1) h);rw[uS (λe=>ne (cM e))];exact uT n2 h
theorem v5:∀{ks:List (Int×Int)} {n:Int},n∉ks.map (·.1)→valV (dI ks) (.inl n:Key)=none
| [],n,_=>rfl
|p::ks,n,h=>by
 show valV (((.inl p.1:Key),V.int p.2)::dI ks) (.inl n)=_;have h':n≠p.1∧n∉ks.map (·.1):=by simpa using h
 rw[uS (λe=>h'.1 (cM e).symm)];exact v5 h'.2
end
end L2
namespace W1
theorem q0F{α:Type}(l:List α)(i j:Nat)(x d:α):(l.set i x).getD j d=if i=j∧i<l.length then x else l.getD j d:=by(
rw[kM,List.getElem?_set,kM]
by_cases h:i=j
·subst h;rw[kG rfl];by_cases h2:i<l.length
 ·rw[kG h2,kG ⟨rfl,h2⟩];rfl
 rw[kC h2,kC (λz=>h2 z.2),dJ (by lia)]
rw[kC h,kC (λz=>h z.1)])
theorem q83{P b j:Nat}(h:j<P):(b*P+j) / P=b:=by rw[wK,Nat.mul_add_div (by lia),Nat.div_eq_of_lt h,Nat.add_zero]
theorem qHU{P p:Nat}(h:0<P):p=p / P*P+p%P∧p%P<P:=⟨by rw[wK];exact(Nat.div_add_mod p P).symm,Nat.mod_lt _ h⟩
theorem q3B{α:Type}[DecidableEq α]:∀{l m:List α},l.Nodup→m.Nodup→(∀x,x∈l↔x∈m)→l.Perm m
| [],m,_,_,h=>by
 cases m with
 |nil=>exact .nil
 |cons a m=>exact absurd ((h a).mpr kO) (by simp)
|a::l,m,h1,h2,h=>by
 have ha:=(h a).mp kO;obtain⟨n1,n2⟩:=gC.mp h1;refine List.Perm.trans (List.Perm.cons a (q3B n2 (h2.erase a) λx=>?_)) (List.perm_cons_erase ha).symm;rw[List.Nodup.mem_erase_iff h2];constructor
 ·intro hx;exact⟨λe=>n1 (e▸hx),(h x).mp (kD _ hx)⟩
 rintro⟨ne,hx⟩
 exact(kL.mp ((h x).mpr hx)).resolve_left ne
theorem q9J{α:Type}[DecidableEq α]:∀{l m:List α},l.Nodup→(∀x∈l,x∈m)→l.length≤m.length
| [],_,_,_=>mI _
|a::l,m,h1,h=>by obtain⟨n1,n2⟩:=gC.mp h1;have ha:=h a kO;have:=q9J (m:=m.erase a) n2 λx hx=>(List.mem_erase_of_ne (show x≠a from λe=>n1 (e▸hx))).mpr (h x (kD _ hx));rw[List.length_erase_of_mem ha]at this;have h0:=List.length_pos_of_mem ha;rw[mY];lia
noncomputable abbrev Mp:=List (Int×Int)
noncomputable def jU(W:Mp)(n:Int):Mp:=W.filter λq=>decide (q.1≠n)
noncomputable def putW(W:Mp)(n p:Int):Mp:=if(W.any λq=>decide (q.1=n))=true then W.map (λq=>if q.1=n then(q.1,p)else q)else W++[(n,p)]
theorem jE{W:Mp}{n:Int}{q:Int×Int}:q∈jU W n↔q∈W∧q.1≠n:=by unfold jU;rw[mO,kQ]
theorem q3C{W:Mp}{n:Int}(h:(W.map (·.1)).Nodup):((jU W n).map (·.1)).Nodup:=(h.sublist ((rS ..).map _))
theorem q1A{W:Mp}{n p:Int}(h:(W.map (·.1)).Nodup){q:Int×Int}:q∈putW W n p↔q=(n,p)∨q∈jU W n:=by(
unfold putW
by_cases e:(W.any λq=>decide (q.1=n))=true
·rw[kG e,mD];obtain⟨r,hr,er⟩:=rN.mp e;have er:r.1=n:=m6 er;constructor
 ·rintro⟨x,hx,rfl⟩
  by_cases ex:x.1=n
  ·rw[kG ex];exact .inl (by rw[ex])
  rw[kC ex];exact .inr (jE.mpr ⟨hx,ex⟩)
 rintro(rfl|h2)
 ·exact⟨r,hr,by rw[kG er,er]⟩
 obtain⟨a,b⟩:=jE.mp h2;exact⟨q,a,kC b⟩
rw[kC e,gA,kF]
have no:∀x∈W,x.1≠n:=λx hx z=>e (rN.mpr ⟨x,hx,hI z⟩)
constructor
·rintro(h1|h1)
 ·exact .inr (jE.mpr ⟨h1,no _ h1⟩)
 exact .inl h1
rintro(h1|h1)
·exact .inr h1
exact .inl (jE.mp h1).1)
theorem q7F{W:Mp}{n p:Int}(h:(W.map (·.1)).Nodup):((putW W n p).map (·.1)).Nodup:=by(
unfold putW
by_cases e:(W.any λq=>decide (q.1=n))=true
·rw[kG e,dQ];have:(λx:Int×Int=>x.1) ∘ (λq:Int×Int=>if q.1=n then(q.1,p)else q)=λx=>x.1:=by funext x;show(if x.1=n then(x.1,p)else x).1=x.1;split<;>rfl
 rw[this];exact h
rw[kC e,kX]
refine dR.mpr ⟨h,by simp,λa ha b hb z=>e ?_⟩
obtain⟨x,hx,rfl⟩:=mD.mp ha
have hb:b=n:=by simpa using hb
exact rN.mpr ⟨x,hx,hI (by rw[z,hb])⟩)
theorem qF7{W:Mp}{n:Int}(h:∀q∈W,q.1≠n):jU W n=W:=cA.mpr λq hq=>hI (h q hq)
structure BM where
P:Nat
B:Nat
ns:List Int
W:Mp
V:Mp
nx:Int
bs:List (Option Int)
ss:List Int
lv:List Int
fi:List Int
bo:List Int
namespace BM
variable{m:BM}
noncomputable def lvF(P:Nat)(V:Mp)(lv:List Int)(n:Int):List Int:=match V.find? λq=>decide (q.1=n)with
|some q=>lv.set (q.2 / (P:Int)).toNat (lv.getD (q.2 / (P:Int)).toNat 0-1)
|none=>lv
end BM
end W1
namespace L2
open PySem PySem.W PySem.Spec PyProof.Rows
section
variable{X:Cx}{pins:List (Addr×Obj)}{σ:St}{H:Hp}{s:Shared}
theorem Inv.adopt{D:Addr}{o:HO}(I:Inv X pins σ H s)(f:FpOk X pins H D)(hD:X.s₀.heap.objs.size≤D)(ok:jR X.prog X.w (upd H D o) s.heap D o):Inv X pins σ (upd H D o) s:=by(
have low:∀b ob,X.s₀.heap.get? b=some ob→b≠D:=λb ob e=>kZ (kY (kI e) hD)
have trk:∀b u,H b=some u→b≠D:=λb u e=>qF e f.1
refine⟨I.ok,I.os,I.bare,⟨I.base.keep,I.base.slot,λb ob e n x=>?_,I.base.there,λb xs e=>?_,λb ob u e=>?_,λb ps e=>?_⟩,I.loc,I.cell,?_,λx c e=>?_,λp hp=>?_,λb u e=>?_,I.len⟩
·rw[qE (low b ob e)];exact I.base.free b ob e n x
·have z:=I.base.tups b xs e;rw[qE (trk _ _ z)];exact z
·have z:=I.base.frzs b ob u e;rw[qE (trk _ _ z)];exact z
·obtain⟨m,z⟩:=I.base.tbls b ps e;exact⟨m,by rw[qE (trk _ _ z)];exact z⟩
·rw[qE (λz=>f.2.1 z.symm)];exact I.free
·rw[qE (f.2.2.2.2.1 x c e)];exact I.freeC x c e
·obtain⟨a1,a2,a3⟩:=I.pin p hp;exact⟨a1,by rw[qE (f.2.2.2.2.2 p hp)];exact a2,a3⟩
by_cases hb:b=D
·subst hb;rw[qG]at e;cases e;exact ok
rw[qE hb]at e
exact(I.hok b u e).stay (λ_ _ _ q=>q) (λc q=>by rw[qE (trk _ _ q)];exact q) λc xs q=>by rw[qE (trk _ _ q)];exact q)
theorem Inv.near(I:Inv X pins σ H s){A':Around}(h1:A'.handled=X.A.handled)(h2:A'.frames=X.A.frames)(xe:Value→Shared→Prop):Inv { X with A:=A',xe:=xe } pins σ H s:=⟨{ mod:=I.ok.mod,kind:=I.ok.kind,glob:=I.ok.glob,blt:=I.ok.blt,above:=I.ok.above,inj:=I.ok.inj,has:=I.ok.has,cab:=I.ok.cab,hd:=λc=>h1.trans (I.ok.hd c),frames:=h2.trans I.ok.frames,stk:=I.ok.stk,exf:=I.ok.exf,bs:=I.ok.bs,bsz:=I.ok.bsz,noex:=I.ok.noex,exfs:=I.ok.exfs,funs:=I.ok.funs,frf:=I.ok.frf },I.os,I.bare,I.base,I.loc,I.cell,I.free,I.freeC,I.pin,I.hok,I.len⟩
theorem q9K{P:PySem.Fin→Shared→Prop}{EE:Value→Shared→Prop}{A:Around}{a kS:Addr}{st:SortSt}{e1 e:Nat}{ks:List Value}{out:List Value}{us:List V}(I:Inv X pins σ H s)(fa:FpOk X pins H a)(fk:FpOk X pins H kS)(ha:X.s₀.heap.objs.size≤a)(ne:kS≠a)
 (ga:s.heap.get? a=some (seqObj "list" #[] e1)) (gk:s.heap.get? kS=some (seqObj "list" ks.toArray e)) (hk:ks.length<64) (hout:(arrOf st).map (·.2)=out.toArray) (ho:out.length<64) (hf:failedOf st=none) (rv:Vals us out)
 (h:∀s',Inv X pins σ (upd H a (.lst us)) s'→P (.done (.ret .none)) s'):wpAny (model X.prog X.w) A (ksk_tail a false e1 (.ref kS) st) P EE s:=by(
unfold ksk_tail
try dsimp only
rw[hout]
refine kA (cW gk rfl ?_ (by rw[kN,gO];lia) (mI _))
refine kA (wpAny_letGo ?_)
have ga':(s.heap.update kS (Obj.mapSeq λ_=>(#[]:Array Value))).get? a=some (seqObj "list" #[] e1):=(mC _ _ ne).trans ga
refine kA (seqEpoch_at ga' rfl ?_)
refine kA (cW ga' rfl ?_ (mI _) (by rw[kC kH,kN,gO];lia))
rw[hf]
simp only[bne_self_eq_false,Bool.false_eq_true,if_false]
refine kU (h _ ?_)
obtain⟨c2,g2⟩:∃c2,((s.heap.update kS (Obj.mapSeq λ_=>(#[]:Array Value))).update a (Obj.mapSeq λ_=>out.toArray)).get? a=some (seqObj "list" out.toArray c2):=⟨_,pQ ga' λ_=>out.toArray⟩
have I2:Inv X pins σ H { s with heap:=(s.heap.update kS (Obj.mapSeq λ_=>(#[]:Array Value))).update a (Obj.mapSeq λ_=>out.toArray),toks:=s.toks }:=I.turnedN (fp:=[kS,a]) (λb o hb eb=>by
  simp only[kL,gY,or_false,not_or]at hb;exact(mC _ _ (dO hb.2)).trans ((mC _ _ (dO hb.1)).trans eb)) (λb hb=>by
  simp only[kL,gY,or_false]at hb;rcases hb with rfl|rfl
  ·exact fk
  exact fa)
exact I2.adopt fa ha (show jR X.prog X.w _ _ _ (.lst us)from⟨by rw[rv.length,gO];lia,out,c2,rv,g2⟩))
theorem qF8{P:PySem.Fin→Shared→Prop}{EE:Value→Shared→Prop}{A:Around}{a kS:Addr}{e1 e:Nat}{ks vs:List Value}{us zs:List V}{kk:List (List Int)}{m:Nat}(I:Inv X pins σ H s)(fa:FpOk X pins H a)(fk:FpOk X pins H kS)(ha:X.s₀.heap.objs.size≤a)(ne:kS≠a)
 (ga:s.heap.get? a=some (seqObj "list" #[] e1)) (gk:s.heap.get? kS=some (seqObj "list" ks.toArray e)) (rz:Vals zs ks) (rv:Vals us vs) (hl:zs.length=us.length) (h64:us.length<64) (hti:Paired (TupI X.K H) zs kk) (hw:∀k∈kk,k.length=m) (hm:0<m)
 (h:∀q:List Nat,q.Perm (List.range us.length)→(q.map λi=>kk.getD i []).Pairwise (λa b=>lx b a=false)→∀s',Inv X pins σ (upd H a (.lst (q.map λi=>us.getD i .non))) s'→P (.done (.ret .none)) s'):
 wpAny (model X.prog X.w) A (ksk_end a false vs.toArray e1 (.ref kS) ks.toArray) P EE s:=by(
have l1:=rz.length
have l2:=rv.length
have l3:=hti.len
have hlk:ks.length=vs.length:=by lia
unfold ksk_end
try dsimp only
rw[kC kH]
by_cases h2:vs.toArray.size<2
·rw[kG h2,kG h2];refine kA (kU ?_);rw[StateT.run_pure];refine kA (kU ?_);try dsimp only
 have hn2:vs.length<2:=by rw[kN]at h2;exact h2
 refine q9K (out:=vs) (us:=us) I fa fk ha ne ga gk (by lia) ?_ (by lia) rfl rv λs' I'=>?_
 ·rw[kC kH];show(ks.toArray.zip vs.toArray).map (·.2)=vs.toArray;apply Array.toList_inj.mp;rw[Array.toList_map,Array.toList_zip];show(ks.zip vs).map Prod.snd=vs;exact List.map_snd_zip (by lia)
 have e:(List.range us.length).map (λi=>us.getD i .non)=us:=by refine rO (by simp) λi h1 h3=>?_;rw[c9,sX,kM,hZ h3];rfl
 have z:=h (List.range us.length) (lO _) (by rw[wM,rQ];intro i j hi hj hij;rw[mG]at hi hj;lia);rw[e]at z;exact z s' I'
rw[kC h2,kC h2]
have h2':2≤ks.length:=by rw[kN]at h2;lia
have K:=qF6 (prog:=X.prog) (w:=X.w) (A:=A) (s:=s) (qBB I rz hti) hw hm h2'
refine kA (K.kind _ _ ?_)
rw[kC kH]
refine kA (gU (kat_run (κ:=tuples' true) (G:=λp s'=>s'=s∧Gp vs.length p∧Srt (λi=>rkOf kk (kk.getD i [])) p vs.length) (Q:=λst' s'=>∃p:Array Nat,arrOf st'=p.map (kas_item (ks.toArray.zip vs.toArray))∧failedOf st'=none∧s'=s∧Gp vs.length p∧Srt (λi=>rkOf kk (kk.getD i [])) p vs.length) hlk (by lia) (by lia) (λp' st' s' _ a2 a3 a4=>⟨p',a2,a3,a4⟩) ?_) ?_ λ_ _ x=>x)
·refine qG5 (c:=rc λi=>rkOf kk (kk.getD i [])) (n:=vs.length) (λi j C hi hj c=>K.lt i j C (by lia) (by lia) c) _ (u9 (λp q=>⟨rfl,q⟩) _ (qF4 (by lia)))
rintro⟨⟨⟩,st'⟩ s' ⟨p,har,hf,rfl,gp,sr⟩
try dsimp only
have pp:p.toList.Perm (List.range vs.length):=by have:=Array.perm_iff_toList_perm.mp gp;simpa using this
have hin:∀i∈p.toList,i<us.length:=λi hi=>by rw[l2];exact k7.mp (pp.mem_iff.mp hi)
have pw:(p.toList.map λi=>kk.getD i []).Pairwise (λx y=>lx y x=false):=by
 rw[wM,rQ];intro i j hi hj hij;rw[gG,gp.size]at hi hj;have z:rkOf kk (kk.getD (p.getD i 0) [])≤rkOf kk (kk.getD (p.getD j 0) []):=sr i j (by lia) hj;have gi:p.getD i 0=p.toList[i]'(by rw[gG,gp.size];exact hi):=by simp[Array.getD,gp.size,hi]
 have gj:p.getD j 0=p.toList[j]'(by rw[gG,gp.size];exact hj):=by simp[Array.getD,gp.size,hj]
 rw[gi,gj]at z;have mem:∀x,x<kk.length→kk.getD x []∈kk:=λx hx=>by rw[kM,hZ hx];exact dY hx
 cases g:lx (kk.getD (p.toList[j]'(by rw[gG,gp.size];exact hj)) []) (kk.getD (p.toList[i]'(by rw[gG,gp.size];exact hi)) [])with
 |false=>rfl
 |true=>have b1:=hin _ (dY (show j<p.toList.length by rw[gG,gp.size];exact hj));have b2:=hin _ (dY (show i<p.toList.length by rw[gG,gp.size];exact hi));have lt:=(qDT (mem _ (by lia)) (mem _ (by lia))).mpr g;lia
exact q9K (out:=p.toList.map λi=>vs.getD i Value.none) (us:=p.toList.map λi=>us.getD i .non) I fa fk ha ne ga gk (by lia) (kat_snds hlk har) (by rw[hV,pp.length_eq,mG];lia) hf (q7E rv hin) λs' I'=>h p.toList (by rw[l2];exact pp) pw s' I')
end
end L2
namespace W1
open PySem L2
theorem lx2{a b c d:Int}:lx [a,b] [c,d]=(if a=c then(if b=d then false else decide (b<d))else decide (a<c)):=rfl
end W1
namespace L2
open PySem PySem.Spec PyProof.Rows
theorem qF9{X:Cx}{K:PySem.W.Frag}{es:List Expr}{k:Nat}{t:TGs}{n:Nat}{pos:Pos}(e:X.K=K)(hc:X.calm=true)(h:PGs X es t)(hn:(assignEach es X.env).length=n)(hst:(assignEach es X.env).findIdx? (·.1)=none):PG X (.Tuple es k pos) (gTup K n t):=by subst e;exact q12 hc h hn hst
theorem q84{n j:Nat}(h:j<n):ixN n (j:Int)=some j:=by(
unfold ixN
have a:(0:Int)≤j:=by lia
have b:(j:Int)<n:=by lia
simp[a,b,h])
theorem q9L{V:List (Int×Int)}{n:Int}:q4A (dI V) (Sum.inl n:Key)=dI (W1.jU V n):=by(
unfold q4A dI W1.jU
rw[List.filter_map]
congr 1
apply cR
intro q _
show decide ((Sum.inl q.1:Key)≠Sum.inl n)=decide (q.1≠n)
by_cases e:q.1=n<;>simp[e])
theorem qBC{W:List (Int×Int)}{n p:Int}:putK (dI W) (Sum.inl n:Key) (.int p)=dI (W1.putW W n p):=by(
unfold putK dI W1.putW
have e:((W.map λp=>((Sum.inl p.1:Key),V.int p.2)).any λkv=>decide (kv.1=Sum.inl n))=W.any λq=>decide (q.1=n):=by
 rw[List.any_map];congr 1;funext q;show decide ((Sum.inl q.1:Key)=Sum.inl n)=decide (q.1=n);by_cases e:q.1=n
 ·rw[e];simp
 rw[hG e,hG (λz=>e (cM z))]
rw[e]
by_cases h:(W.any λq=>decide (q.1=n))=true
·rw[kG h,kG h,dQ,dQ];apply cB;intro q _;show(if(Sum.inl q.1:Key)=Sum.inl n then((Sum.inl q.1:Key),V.int p)else((Sum.inl q.1:Key),V.int q.2))=_;by_cases e:q.1=n
 ·rw[kG (by rw[e])];show _=(λp:Int×Int=>((Sum.inl p.1:Key),V.int p.2)) (if q.1=n then(q.1,p)else q);rw[kG e]
 rw[kC (λz=>e (cM z))];show _=(λp:Int×Int=>((Sum.inl p.1:Key),V.int p.2)) (if q.1=n then(q.1,p)else q);rw[kC e]
rw[kC h,kC h,kX]
rfl)
theorem qC9{V:List (Int×Int)}{n p:Int}:W1.putW (W1.jU V n) n p=W1.jU V n++[(n,p)]:=by(
unfold W1.putW
rw[kC]
intro h
obtain⟨q,hq,e⟩:=rN.mp h
exact(W1.jE.mp hq).2 (m6 e))
theorem setV{ns:List Int}{c:Nat}{x:Int}:(ns.map V.int).set c (.int x)=(ns.set c x).map V.int:=by rw[xE]
theorem atV{ns:List Int}{c:Nat}(h:c<ns.length):atI (ns.map V.int) (c:Int)=some (.int (ns.getD c 0)):=by refine uR ?_;rw[kW,hZ h,kM,hZ h];rfl
theorem qDU:∀{A B:List (List Int)},A.Perm B→A.Pairwise (λa b=>lx b a=false)→B.Pairwise (λa b=>lx b a=false)→A=B
| [],B,p,_,_=>(xD.mp p).symm▸rfl
|a::A,[],p,_,_=>absurd p.length_eq (by simp)
|a::A,b::B,p,h1,h2=>by
 have e:a=b:=by
  by_cases e:a=b
  ·exact e
  have hb:b∈A:=(kL.mp (p.mem_iff.mpr kO)).resolve_left (λz=>e z.symm);have ha:a∈B:=(kL.mp (p.mem_iff.mp kO)).resolve_left e;exact q82 a b ((gQ.mp h2).1 a ha) ((gQ.mp h1).1 b hb)
 subst e;rw[qDU ((lP a).mp p) (gQ.mp h1).2 (gQ.mp h2).2]
theorem qBD:∀{A B:List Int},A.Perm B→A.Pairwise (·≤·)→B.Pairwise (·≤·)→A=B
| [],B,p,_,_=>(xD.mp p).symm▸rfl
|a::A,[],p,_,_=>absurd p.length_eq (by simp)
|a::A,b::B,p,h1,h2=>by
 have e:a=b:=by
  by_cases e:a=b
  ·exact e
  have hb:b∈A:=(kL.mp (p.mem_iff.mpr kO)).resolve_left (λz=>e z.symm);have ha:a∈B:=(kL.mp (p.mem_iff.mp kO)).resolve_left e;have:=(gQ.mp h2).1 a ha;have:=(gQ.mp h1).1 b hb;lia
 subst e;rw[qBD ((lP a).mp p) (gQ.mp h1).2 (gQ.mp h2).2]
theorem qDV{a:Addr}{o:Obj}{kvs:List (Key×V)}{D:Addr}{H2:Hp}{g:TG}{tc:TT}{te:TE}{σ0:St}{R:Hp→Prop}(Pv:Nat→Hp→Prop)(h0:Pv 0 H2)(hl:∀i H,Pv i H→H a=some (.frz o (.dK kvs)))
 (hs:∀(i:Nat) kv H,kvs[i]?=some kv→Pv i H→g (kV kv.1) σ0 H λσ5 H5=>tc σ5 H5 λb H6=>if b=true then te σ5 H6 (λv H7=>∃vs,H7 D=some (.lst vs)∧vs.length<sizeLine∧Pv (i+1) (upd H7 D (.lst (vs++[v]))))else Pv (i+1) H6) (hd:∀H,Pv kvs.length H→R H):
 ∃W:Nat→Nat→Hp→Prop,(∃m,W 0 m H2)∧∀i m H3,W i m H3→((Itd a o kvs).stop i H3∧R H3)∨((Itd a o kvs).go i H3∧∃N:Hp→Prop,(∀H',N H'→∃m',m'<m∧W (i+1) m' H')∧∀x H4,(Itd a o kvs).yld i H3 x H4→g x σ0 H4 λσ5 H5=>tc σ5 H5 λb H6=>if b=true then te σ5 H6 (λv H7=>∃vs,H7 D=some (.lst vs)∧vs.length<sizeLine∧N (upd H7 D (.lst (vs++[v]))))else N H6):=qF2 (Q:=λ_ H=>R H) Pv h0 hl hs hd
theorem qAJ{H H':Hp}{us:List V}{ks:List (List Int)}(h:Paired (TupD H) us ks)(s:Same H H'):Paired (TupD H') us ks:=Paired.mapP h λ_ _ z=>z.same s
theorem qFA{K:PySem.W.Frag}{H:Hp}{us:List V}{ks:List (List Int)}(h:Paired (TupD H) us ks):Paired (TupI K H) us ks:=Paired.mapP h λ_ _ z=>z.i
theorem q3U{lo:Int}{n:Nat}{D:Addr}{H2:Hp}{g:TG}{tc:TT}{te:TE}{σ0:St}{R:Hp→Prop}(Pv:Nat→Hp→Prop)(h0:Pv 0 H2)
 (hs:∀(i:Nat) H,i<n→Pv i H→g (.int (lo+i)) σ0 H λσ5 H5=>tc σ5 H5 λb H6=>if b=true then te σ5 H6 (λv H7=>∃vs,H7 D=some (.lst vs)∧vs.length<sizeLine∧Pv (i+1) (upd H7 D (.lst (vs++[v]))))else Pv (i+1) H6) (hd:∀H,Pv n H→R H):
 ∃W:Nat→Nat→Hp→Prop,(∃m,W 0 m H2)∧∀i m H3,W i m H3→((Itr lo n).stop i H3∧R H3)∨((Itr lo n).go i H3∧∃N:Hp→Prop,(∀H',N H'→∃m',m'<m∧W (i+1) m' H')∧∀x H4,(Itr lo n).yld i H3 x H4→g x σ0 H4 λσ5 H5=>tc σ5 H5 λb H6=>if b=true then te σ5 H6 (λv H7=>∃vs,H7 D=some (.lst vs)∧vs.length<sizeLine∧N (upd H7 D (.lst (vs++[v]))))else N H6):=q9G (Q:=λ_ H=>R H) Pv h0 hs hd
theorem qDW{H H3:Hp}{a:Addr}{u:HO}(ha:H a=some u)(k:∀b o,b≠a→H b=some o→H3 b=some o):Same H (upd H3 a u):=λb o e=>by(
by_cases z:b=a
·rw[z,qG,←ha,←z];exact e
rw[qE z]
exact k b o z e)
theorem q3D{X:Cx}{K:PySem.W.Frag}{e:Expr}{ta:TE}{f:Str}{pos:Pos}(eK:X.K=K)(he:PE X e ta)(hb:attributeBase e f X.env (eval e X.env)=eval e X.env):PE X (.Attribute e f pos) (tFld K ta f):=by subst eK;exact qJ he hb
end L2
namespace L2
open PySem PySem.W PySem.Spec PyProof.Rows
theorem qFB{scope:Scope}{env:Env}(h:(scope.names.all λy=>decide (y.2≠ .free)||(env.cells.lookup y.1).isSome)=true):closureFor scope env=pure (clOf env scope.names []):=q5I λy hy hf=>by(
 have q:=gK.mp h y hy;rw[d7,kQ]at q;rcases q with q|q
 ·exact absurd hf q
 exact rV.mp q)
theorem qCA{scope:Scope}{x0 y:Str}{ca:Addr}{v:V}{u:Value}{base:Heap}(hk:scope.kind=.function)(hco:scope.isCoroutine=false)(hg:scope.isGenerator=false)(hp:scope.names.lookup x0=some .local)
 (hn:(scope.names.all λz=>decide (z.2≠ .cell)&&(decide (z.2≠ .free)||decide (z.1=y)))=true) (hf:scope.names.lookup y=some .free) (r:RelV v u) (hc:base.IsCell ca (some u)):LamSc scope x0 [(y,ca)] [v] base:=by(
have at1:∀z∈scope.names,z.2≠ .cell∧(z.2≠ .free∨z.1=y):=λz hz=>by have q:=gK.mp hn z hz;rw[mH,d7,kQ,kQ,kQ]at q;exact q
have lk:([(y,ca)]:List (Str×Addr)).lookup y=some ca:=by simp
have one:∀x c,([(y,ca)]:List (Str×Addr)).lookup x=some c→x=y∧c=ca:=λx c e=>by have m:=m8 e;simpa using m
refine⟨hk,hco,hg,hp,λz hz=>(at1 z hz).1,λz hz=>?_,λa b c h1 h2=>?_,λj x c h=>?_,rfl⟩
·have m:=(at1 _ (m8 hz)).2;rcases m with m|m
 ·exact absurd rfl m
 exact⟨ca,by rw[show z=y from m];exact lk⟩
·rw[(one _ _ h1).1,(one _ _ h2).1]
match j,h with
|0,h=>
 obtain⟨rfl,rfl⟩:y=x∧ca=c:=by simpa using h
 exact⟨hf,lk,v,u,rfl,r,hc⟩
|j+1,h=>exact absurd h (by simp))
theorem q9M{env:Env}{names:List (Str×NameKind)}{y:Str}{ca:Addr}(e:env.cells.lookup y=some ca)(h:clOf env names []=match env.cells.lookup y with|some a=>[(y,a)] |none=>[]):clOf env names []=[(y,ca)]:=by rw[h,e]
noncomputable def qHV(T:Addr)(pos:Pos)(qual:Str)(params:Arguments)(body:Expr)(scope:Scope)(clos:List (Str×Addr))(pm:Value):TE:=λσ H Q=>∃ps c',H T=some (.tbl ps)∧TriplesOk ps.toList∧codeAmong pos ps.toList=some (.ref c')∧∀(f:Addr) (ctv:Value),H f=none→Q (.ref f) (upd H f (fnO f (kla_fn "<lambda>" qual params body scope clos pm (.ref c') ctv)))
theorem qDX{X:Cx}{c T:Addr}{params:Arguments}{body:Expr}{scope:Scope}{pos:Pos}{clos:List (Str×Addr)}(hcode:X.env.code=.ref c)(hcd:codeHdIn X.K c T=true)(B:BmIn X.base X.mg)(hcl:closureFor scope X.env=pure clos)(hdef:defaultsOf params X.env=([],[])):
 PE X (.Lambda params body scope pos) (qHV T pos (X.env.qual++"<lambda>") params body scope clos ((X.mg "__name__").getD .none)):=by(
intro pins s σ H Q I hZ
obtain⟨ps,c',hT,ht,hnf,q⟩:=hZ
have hP:s.heap.get? T=some (tabObj ps):=I.hok T _ hT
have hgs:s.heap.Ns mainGlobals X.mg:=I.ok.mod.glob.keeps I.bk
obtain⟨bm,ob,b1,b2,b3,b4,b5,b6⟩:=B
have b3':=I.bk _ _ b3
have hbP:bm≠T:=λz=>by rw[z,hP]at b3';cases b3';cases b4
have hbG:bm≠mainGlobals:=λz=>by obtain⟨o,es,ep,e,hd,_⟩:=hgs;rw[z,e]at b3';cases b3';rw[hd]at b6;cases b6
refine kla_eval hdef (kla_makeFunctionHit (clos:=clos) hcl I.ok.glob hgs hcode (nY I.kIn hcd) hP ht hnf ⟨bm,ob,b1,b2,hbG,hbP,b3',b4,b5,b6⟩ λctv h' tk hx sz=>?_)
have trk:∀b u,s.heap.get? b=some u→∀o,(h'.push o).get? b=some u:=λb u e o=>hX _ (hx b u e)
have nF:H h'.objs.size=none:=I.hok.fresh sz
refine⟨.ref h'.objs.size,_,?_,rfl,q _ ctv nF⟩
refine I.un (t':=tk) ⟨λb o e n _ _=>trk b o e _,λb o e n _ _=>⟨o.slots,trk b o e _⟩,λb o e n _=>?_,λb o e _=>⟨o,trk b o e _⟩,λb xs e=>?_,λb o u e=>?_,λb qs e=>?_⟩ λb u e=>?_
·rw[qE (kZ (kY (kI e) sz))];exact n
·rw[qE (qF e nF)];exact e
·rw[qE (qF e nF)];exact e
·exact⟨#[],by rw[qE (qF e nF),e];simp⟩
by_cases z3:b=h'.objs.size
·subst z3;rw[qG]at e;cases e;exact qDM (kR _ rfl)
rw[qE z3]at e
refine(I.hok b u e).stay (λd v hd r=>trk d v r _) (λd r=>?_) λd xs r=>?_
·rw[qE (qF r nF)];exact r
rw[qE (qF r nF)];exact r)
noncomputable def qJ6(T:Addr)(pos:Pos)(qual:Str)(params:Arguments)(body:Expr)(scope:Scope)(clos:List (Str×Addr))(pm:Value):TE:=λσ H Q=>∃ps,H T=some (.tbl ps)∧TriplesOk ps.toList∧((codeAmong pos ps.toList=none∧∀(f c':Addr) (ctv:Value) (H':Hp),H f=none→H' f=some (fnO f (kla_fn "<lambda>" qual params body scope clos pm (.ref c') ctv))→H' c'=some (cdO c' qual)→H' T=some (.tbl (ps++#[rawInt pos.line,rawInt pos.col,.ref c']))→(∀b o,b≠T→H b=some o→H' b=some o)→Q (.ref f) H')∨∃c',codeAmong pos ps.toList=some (.ref c')∧∀(f:Addr) (ctv:Value) (H':Hp),H f=none→H' f=some (fnO f (kla_fn "<lambda>" qual params body scope clos pm (.ref c') ctv))→Same H H'→Q (.ref f) H')
theorem qFC{X:Cx}{c T:Addr}{params:Arguments}{body:Expr}{scope:Scope}{pos:Pos}{clos:List (Str×Addr)}(hcode:X.env.code=.ref c)(hcd:codeHdIn X.K c T=true)(B:BmIn X.base X.mg)(hcl:closureFor scope X.env=pure clos)(hdef:defaultsOf params X.env=([],[])):
 PE X (.Lambda params body scope pos) (qJ6 T pos (X.env.qual++"<lambda>") params body scope clos ((X.mg "__name__").getD .none)):=λpins s σ H Q I ⟨ps,hT,ht,h⟩=>by(
rcases h with⟨hn,q⟩|⟨c',hn,q⟩
·exact qEZ hcode hcd B hcl hdef pins s σ H Q I ⟨ps,hT,ht,hn,λf c' ctv nf nc fc=>q f c' ctv _ nf qG (by rw[qE fc.symm];exact qG) (by rw[qE (qF hT nf),qE (qF hT nc)];exact qG) λb o nb e=>by rw[qE (qF e nf),qE (qF e nc),qE nb];exact e⟩
exact qDX hcode hcd B hcl hdef pins s σ H Q I ⟨ps,c',hT,ht,hn,λf ctv nf=>q f ctv _ nf qG (Same.upd nf)⟩)
theorem qFD{X:Cx}{CX:CXT}{k:Nat}{f:Addr}{fd:FuncData}{ps:List Str}{sp:Heap→Sp}{dvs:List V}{ds:List Value}{E:XK}{pins:List (Addr×Obj)}{σ:St}{H:Hp}{s:Shared}{Q:VK}{us:List Value}{vs:List V}(ix:List (Nat×Str))
 (hix:∀p∈ix,X.N[p.1]?=some p.2∧X.env.scope.names.lookup p.2=some .cell∧X.fn p.2=true)
 (F:∀base',(∀b o,X.base.get? b=some o→base'.get? b=some o)→q5M X.env.cells σ base' ix→FnOk X.prog X.w X.K X.mg base' CX k f fd ps (sp base')) (hr:Room k X.A) (hb:yM X.K fd ps ds) (hd:Vals dvs ds) (hx:q13 CX X E)
 (I:Inv X pins σ H s) (r:Vals vs us) (h:∀base',(∀b o,X.base.get? b=some o→base'.get? b=some o)→q5M X.env.cells σ base' ix→sp base' (vs++dvs) H Q E):wpAny (model X.prog X.w) X.A (call (.ref f) us) (EP X pins σ Q) X.xe s:=by(
have r2:Vals (vs++dvs) (us++ds):=r.append hd
obtain⟨e0,up,cel⟩:=I.env0C (ix.filterMap λp=>X.env.cells.lookup p.2) (λc hc=>by obtain⟨p,hp,e⟩:=wA.mp hc;exact⟨p.2,(hix p hp).2.2,e⟩)
have cv:q5M X.env.cells σ (hidT s.heap (vJ X.base (ix.filterMap λp=>X.env.cells.lookup p.2))) ix:=λp hp v hv=>by
 obtain⟨h1,h2,h3⟩:=hix p hp;obtain⟨m,_,hl⟩:=I.loc;obtain⟨u,ru,lk⟩:=hl p.1 p.2 v h1 hv (.inr (.inl h2));rcases lk with⟨z,_⟩|⟨_,c,hc,o,ho,hd⟩
 ·have z:X.env.scope.names.lookup p.2=some .local:=z;rw[h2]at z;cases z
 exact⟨c,u,hc,ru,o,cel c (wA.mpr ⟨p,hp,hc⟩) o ho,hd⟩
have q:=h _ up cv
have hl:(us++ds).length=ps.length:=by rw[←r2.length];exact(F _ up cv).len _ _ _ _ q
refine wB (dP ((F _ up cv).run X.A X.stack s H ⟨us,[]⟩ (us++ds) (vs++dvs) Q E hr e0 (hb s us I.kIn hl) r2 q) λr s' hq=>?_)
cases r with
|error e=>exact hx pins σ H s e s' I hq
|ok fl=>
 cases fl with
 |ret u=>exact I.after hq
 |next=>exact False.elim hq
 |brk=>exact False.elim hq
 |cont=>exact False.elim hq)
section
variable{X:Cx}{pins:List (Addr×Obj)}{σ:St}{H:Hp}{s:Shared}
theorem qCB{P:PySem.Fin→Shared→Prop}{EE:Value→Shared→Prop}{a f:Addr}{n:Nat}{vs:List Value}{us:List V}(I:Inv X pins σ H s)
 (ho:s.heap.get? a=some (seqObj "list" vs.toArray n)) (fa:FpOk X pins H a) (ha:X.s₀.heap.objs.size≤a) (rv:Vals us vs) (h64:us.length<64)
 (Pv:Nat→List V→Hp→Prop) (h0:Pv 0 [] H) (hs:∀i x zs H' pins' s' u,us[i]?=some x→RelV x u→Pv i zs H'→Inv { X with A:=X.A.in1.in1,xe:=λ_ _=>False } pins' σ H' s'→wpAny (model X.prog X.w) X.A.in1.in1 (call (.ref f) [u]) (EP { X with A:=X.A.in1.in1,xe:=λ_ _=>False } pins' σ (λz H''=>Pv (i+1) (zs++[z]) H'')) (λ_ _=>False) s')
 (hd:∀zs H',H' a=none→zs.length=us.length→Pv us.length zs H'→∃kk m,Paired (TupI X.K H') zs kk∧(∀k∈kk,k.length=m)∧0<m∧∀q:List Nat,q.Perm (List.range us.length)→(q.map λi=>kk.getD i []).Pairwise (λa b=>lx b a=false)→∀s',Inv X pins σ (upd H' a (.lst (q.map λi=>us.getD i .non))) s'→P (.done (.ret .none)) s'):
 wpAny (model X.prog X.w) X.A.in1.in1 (ksk_tree a (.ref f) false) P EE s:=by(
have hal:a<s.heap.objs.size:=kI ho
have hl:=rv.length
obtain⟨e1,g1⟩:∃e1,(s.heap.update a (Obj.mapSeq λ_=>(#[]:Array Value))).get? a=some (seqObj "list" #[] e1):=⟨_,pQ ho λ_=>#[]⟩
unfold ksk_tree
refine kA (listItems_at ho rfl (kA (cW ho rfl (kA (seqEpoch_at g1 rfl ?_)) (by rw[kN,gO];lia) (mI _))))
refine kA (wpAny_newTuple (kA (wpAny_newList (g0 ?_) (mI _))) (by show vs.length≤_;rw[gO];lia))
have hks:((s.heap.update a (Obj.mapSeq λ_=>(#[]:Array Value))).push (seqObj "tuple" vs.toArray 0)).objs.size=s.heap.objs.size+1:=by rw[size_push',nU]
obtain⟨kS,eks⟩:∃kS:Addr,kS=((s.heap.update a (Obj.mapSeq λ_=>(#[]:Array Value))).push (seqObj "tuple" vs.toArray 0)).objs.size:=⟨_,rfl⟩
have ksz:s.heap.objs.size≤kS:=by rw[eks,hks];exact dF _
have ne:kS≠a:=dZ (kY hal ksz)
show wpAny (model X.prog X.w) X.A.in1.in1 (ksk_rest a (.ref f) false vs.toArray e1 (.ref ((s.heap.update a (Obj.mapSeq λ_=>(#[]:Array Value))).push (seqObj "tuple" vs.toArray 0)).objs.size)) P EE { s with heap:=((s.heap.update a (Obj.mapSeq λ_=>(#[]:Array Value))).push (seqObj "tuple" vs.toArray 0)).push (seqObj "list" #[] 0) }
rw[←eks]
have gk0:(((s.heap.update a (Obj.mapSeq λ_=>(#[]:Array Value))).push (seqObj "tuple" vs.toArray 0)).push (seqObj "list" #[] 0)).get? kS=some (seqObj "list" #[] 0):=by rw[eks];exact kR _ rfl
have ga0:=hX (seqObj "list" #[] 0) (hX (seqObj "tuple" vs.toArray 0) g1)
have I0:Inv X pins σ H { s with heap:=((s.heap.update a (Obj.mapSeq λ_=>(#[]:Array Value))).push (seqObj "tuple" vs.toArray 0)).push (seqObj "list" #[] 0),toks:=s.toks }:=I.turnedN (fp:=[a]) (λb o hb' e=>hX _ (hX _ ((mC _ _ (λz=>hb' (kF.mpr z.symm))).trans e))) (λb hb'=>by rw[kF.mp hb'];exact fa)
have fk0:FpOk X pins H kS:=I.fpOk ksz (I.hok.fresh ksz)
have fp:∀{H':Hp} {b:Addr},FpOk X pins H b→H' b=none→FpOk X pins H' b:=λf e=>⟨e,f.2⟩
unfold ksk_rest
refine kA (wpAny_rule ?_)
first
 |rw[List.forIn_toArray]
 |(rw[←Array.forIn_toList];simp only[sN])
refine kA (ksk_fold (I:=λi s'=>∃H' zs ks e,Inv X pins σ H' s'∧s'.heap.get? a=some (seqObj "list" #[] e1)∧s'.heap.get? kS=some (seqObj "list" (List.toArray ks) e)∧Vals zs ks∧zs.length=i∧Pv i zs H'∧H' a=none∧H' kS=none) vs 0 _ ⟨H,[],[],0,I0,ga0,gk0,.nil,rfl,h0,fa.1,fk0.1⟩ (λj x s' hx hJ=>?_) λs' hJ=>?_)
·obtain⟨H',zs,ks,e,I1,ga,gk,rz,lz,pv,na,nk⟩:=hJ;rw[Nat.zero_add]at lz pv ⊢;have hj:j<vs.length:=(hU.mp hx).1;obtain⟨y,ey,ry⟩:=rv.atN (j:=j) hj;obtain rfl:vs[j]=x:=(hU.mp hx).2;have I2:=(I1.near (A':=X.A.in1.in1) rfl rfl λ_ _=>False).pinned (fp:=[a,kS]) (λb hb'=>by
  simp only[kL,gY,or_false]at hb';rcases hb' with rfl|rfl
  ·exact fp fa na
  ·exact fp fk0 nk) (λb hb'=>by
  simp only[kL,gY,or_false]at hb';rcases hb' with rfl|rfl
  ·exact⟨_,ga,λv z=>by cases z⟩
  exact⟨_,gk,λv z=>by cases z⟩)
 refine kA (sQ (gU (hs j y zs H' _ _ _ ey ry pv I2) (λu s'' hq=>?_) λ_ _ z=>z.elim));obtain⟨z,H'',I3,ru,q⟩:=hq;have pa:=I3.pin (a,seqObj "list" #[] e1) (kP _ (kP _ (v3 (by simp) ga)));have pk:=I3.pin (kS,seqObj "list" (List.toArray ks) e) (kP _ (kP _ (v3 (by simp) gk)));have lk:=rz.length;have ea:(List.toArray ks).push u=List.toArray (ks++[u]):=by simp
 obtain⟨c2,g2⟩:∃c2,(s''.heap.update kS (Obj.mapSeq (·.push u))).get? kS=some (seqObj "list" (List.toArray (ks++[u])) c2):=⟨_,by rw[←ea];exact pQ pk.1 (·.push u)⟩;try dsimp only
 refine kA (cW pk.1 rfl ?_ (by rw[kN,gO];lia) (mE (cE (Array.size_push ..)) (by rw[kN,gO];lia)));have I4:Inv X pins σ H'' s'':=(I3.unpinned).near (A':=X.A) rfl rfl X.xe;have I5:Inv X pins σ H'' { s'' with heap:=s''.heap.update kS (Obj.mapSeq (·.push u)),toks:=s''.toks }:=I4.turnedN (fp:=[kS]) (λb o hb' e=>(mC _ _ (λz=>hb' (kF.mpr z.symm))).trans e) (λb hb'=>by rw[kF.mp hb'];exact fp fk0 pk.2.1);exact kU ⟨rfl,H'',zs++[z],ks++[u],c2,I5,(mC _ _ ne).trans pa.1,g2,rz.append (.cons ru .nil),by rw[mU,lz];rfl,q,pa.2.1,pk.2.1⟩
obtain⟨H',zs,ks,e,I1,ga,gk,rz,lz,pv,na,nk⟩:=hJ
rw[Nat.zero_add,←hl]at lz pv
obtain⟨kk,m,hti,hw,hm,fin⟩:=hd zs H' na lz pv
try dsimp only
refine kA (listItems_at gk rfl ?_)
exact qF8 I1 (fp fa na) (fp fk0 nk) ha ne ga gk rz rv lz h64 hti hw hm fin)
end
noncomputable def oneQ(R:V→Hp→Prop):List V→Hp→Prop
| [v],H=>R v H
|_,_=>False
theorem qFE{R:V→Hp→Prop}:∀{xs:List V} {H:Hp},oneQ R xs H→∃v,xs=[v]∧R v H
| [v],_,h=>⟨v,rfl,h⟩
| [],_,h=>h.elim
|_::_::_,_,h=>h.elim
noncomputable def tSL(P:Program)(w:World)(K:PySem.W.Frag)(mg:Str→Option Value)(base:Heap)(cells:List (Str×Addr))(ix:List (Nat×Str))(k:Nat)(x:Str)(tl:TE)(ta:TA):TE:=λσ H Q=>ta σ H λvs H1=>tl σ H1 λfv H2=>∃(f:Addr) (fd:FuncData) (sp:Heap→Sp),fv=.ref f∧(∀base',(∀b o,base.get? b=some o→base'.get? b=some o)→q5M cells σ base' ix→FnOk P w K mg base' CX0 k f fd [x] (sp base'))∧yM K fd [x] []∧∃(l:Addr) (us:List V) (Pv:Nat→List V→Hp→Prop),vs=[.ref l]∧SqL K H2 l us∧us.length<64∧Pv 0 [] H2∧(∀base' i x zs H',q5M cells σ base' ix→us[i]?=some x→Pv i zs H'→sp base' [x] H' (λz H''=>Pv (i+1) (zs++[z]) H'') E0)∧∀zs H',zs.length=us.length→Pv us.length zs H'→∃kk m,Paired (TupI K H') zs kk∧(∀k∈kk,k.length=m)∧0<m∧∀q:List Nat,q.Perm (List.range us.length)→(q.map λi=>kk.getD i []).Pairwise (λa b=>lx b a=false)→NewO H' (.lst (q.map λi=>us.getD i .non)) Q
theorem qAK{X:Cx}{k:Nat}{x:Str}{e le:Expr}{tl:TE}{ta:TA}{p kp pos:Pos}(ix:List (Nat×Str))(hix:∀p∈ix,X.N[p.1]?=some p.2∧X.env.scope.names.lookup p.2=some .cell∧X.fn p.2=true)(hr:Room (k+2) X.A)(hg:Gl X "sorted")(hm:X.mg "sorted"=none)(hl:PE X le tl)(ha:PA X [e] ta)
 (he:starEach [e] X.env=[(false,eval e X.env)]:=by rfl) (hse:starEach ([]:List Expr) X.env=[]:=by rfl):
 PE X (.Call (.Name "sorted" p) [e] [⟨some "key",le,kp⟩] pos) (tSL X.prog X.w X.K X.mg X.base X.env.cells ix k x tl ta):=by(
intro pins s σ H Q I h
refine gX (q56 I hg hm (u:=.builtin "sorted") (by kernel_rfl) ?_ (by decide) (by decide))
refine callWith_kw (thn (ha pos pins s σ H _ I h) λus s1 ⟨vs,H1,I1,r1,q1⟩=>?_) (by rw[he,hse];rfl) (by rw[he];rfl)
have pk:PK X [⟨some "key",le,kp⟩] (q49 tl tNil):=qEJ hl qGL
refine thn (pk pos pins s1 σ H1 (oneQ _) I1 q1) λws s2 hZ=>?_
obtain⟨xs,H2,I2,r2,q2⟩:=hZ
obtain⟨v,rfl,f,fd,sp,rfl,F,hb,q2⟩:=qFE q2
obtain⟨w,rfl,rw⟩:=zT r2
obtain rfl:w=Value.ref f:=rw
obtain⟨l,us',Pv,ev,hq,h64,p0,hs,hd⟩:=q2
subst ev
obtain⟨u,rfl,ru⟩:=zT r1
obtain rfl:u=Value.ref l:=ru
obtain⟨its,rv,pl,hz⟩:=I2.list hq
have hlen:=rv.length
show wpAny (model X.prog X.w) X.A (call (.builtin "sorted") [.ref l] [(Str.ofString "key",.ref f)]) _ _ _
refine call_function_entry_kw kind_sorted plain_sorted entry_sorted (ksk_s1 _ _) ?_
unfold Builtin.«sorted»
refine kA (m:=checkCount "sorted" 1 1 _) (kU (kA (collect_list pl.isList (kA (wpAny_newList ?_ (by rw[gO];show its.length≤_;lia))))))
have hsz:((s2.heap.push (seqObj "list" #[] 0)).update s2.heap.objs.size (Obj.mapSeq (· ++its.toArray))).objs.size=s2.heap.objs.size+1:=by rw[nU,size_push']
have g:(((s2.heap.push (seqObj "list" #[] 0)).update s2.heap.objs.size (Obj.mapSeq (· ++its.toArray))).push (seqObj "list" its.toArray 0)).get? (s2.heap.objs.size+1)=some (seqObj "list" its.toArray 0):=by rw[←hsz];exact kR _ rfl
show wpAny _ _ _ _ _ { s2 with heap:=((s2.heap.push (seqObj "list" #[] 0)).update s2.heap.objs.size (Obj.mapSeq (· ++its.toArray))).push (seqObj "list" its.toArray 0) }
rw[hsz]
have I3:Inv X pins σ H2 { s2 with heap:=((s2.heap.push (seqObj "list" #[] 0)).update s2.heap.objs.size (Obj.mapSeq (· ++its.toArray))).push (seqObj "list" its.toArray 0),toks:=s2.toks }:=I2.kept (t':=s2.toks) λb o e=>hX _ ((mC _ _ (dZ (kI e))).trans (hX _ e))
refine kA (g0 (wpAny_call_entry_kw slot_list_sort ⟨_,g,rfl⟩ entry_list_sort ?_ (ksk_l1 _ _)))
rw[ksk_t1]
have fr:s2.heap.objs.size≤s2.heap.objs.size+1:=dF _
refine qCB I3 g (I2.fpOk fr (I2.hok.fresh fr)) (mE I2.sz fr) rv h64 Pv p0 (λi x zs H' pins' s' u hx rx pv I'=>qFD (X:={ X with A:=X.A.in1.in1,xe:=λ_ _=>False }) (dvs:=[]) (ds:=[]) (E:=E0) ix hix F hr.in1.in1 hb .nil qL I' (.cons rx .nil) (λbase' up cv=>hs base' i x zs H' cv hx pv)) λzs H' na lz pv=>?_
obtain⟨kk,m,a1,a2,a3,a4⟩:=hd zs H' lz pv
refine⟨kk,m,a1,a2,a3,λq b1 b2 s' I'=>⟨_,rfl,kU ⟨_,rfl,.ref _,_,I',rfl,(a4 q b1 b2).at _ na⟩⟩⟩)
end L2
namespace W1
open PySem L2
structure QM where
P:Nat
B:Nat
nx:Int
V:Mp
lv:List Int
fi:List Int
bo:List Int
namespace QM
structure Ok(m:QM):Prop where
p1:1≤m.P
p2:m.P≤16
b2:m.B≤16
ll:m.lv.length=m.B
lf:m.fi.length=m.B
lo:m.bo.length=m.B
nd:(m.V.map (·.1)).Nodup
nm:∀q∈m.V,0≤q.1∧q.1≤64
blk:∀q∈m.V,∃b:Nat,b<m.B∧q.2 / (m.P:Int)=(b:Int)
wr:∀b,b<m.B→∃f:Nat,m.fi.getD b 0=(f:Int)∧f≤m.P
variable{m:QM}
theorem Ok.lenV(h:m.Ok):m.V.length≤65:=by
 have:=q9J (l:=m.V.map (·.1)) (m:=(List.range 65).map λi:Nat=>(i:Int)) h.nd λx hx=>by obtain⟨q,hq,rfl⟩:=mD.mp hx;have:=h.nm q hq;exact mD.mpr ⟨q.1.toNat,k7.mpr (by lia),by lia⟩
 rw[hV,hV,mG]at this;exact this
noncomputable def forget(m:QM)(n:Int):QM:={ m with V:=jU m.V n,lv:=BM.lvF m.P m.V m.lv n }
theorem find_V{n:Int}:(∃p,(n,p)∈m.V∧m.V.find? (λq=>decide (q.1=n))=some (n,p))∨((∀q∈m.V,q.1≠n)∧m.V.find? (λq=>decide (q.1=n))=none):=by(
cases e:m.V.find? (λq=>decide (q.1=n))with
|none=>refine .inr ⟨λq hq z=>?_,rfl⟩;have:=wD.mp e q hq;exact this (hI z)
|some q=>
 have h1:q.1=n:=by have:=lE e;simpa using this
 have h2:=cL e;refine .inl ⟨q.2,by rw[←h1];exact h2,by rw[←h1]⟩)
theorem qBE{n:Int}:(BM.lvF m.P m.V m.lv n).length=m.lv.length:=by(
unfold BM.lvF
split
·rw[gD]
rfl)
theorem Ok.forget(h:m.Ok)(n:Int):(m.forget n).Ok:={ h with ll:=by show(BM.lvF m.P m.V m.lv n).length=m.B;rw[qBE];exact h.ll,nd:=q3C h.nd,nm:=λq hq=>h.nm q (jE.mp hq).1,blk:=λq hq=>h.blk q (jE.mp hq).1 }
noncomputable def put(m:QM)(b f:Nat)(n:Int):QM:={ m with V:=jU m.V n++[(n,((b*m.P+f:Nat):Int))],lv:=(BM.lvF m.P m.V m.lv n).set b ((BM.lvF m.P m.V m.lv n).getD b 0+1),bo:=if m.fi.getD b 0=0 then m.bo.set b m.nx else m.bo,fi:=m.fi.set b (m.fi.getD b 0+1),nx:=m.nx+1 }
theorem Ok.put(h:m.Ok){b f:Nat}{n:Int}(hb:b<m.B)(hf:f<m.P)(ef:m.fi.getD b 0=(f:Int))(n0:0≤n)(n1:n≤64):(m.put b f n).Ok where
p1:=h.p1
p2:=h.p2
b2:=h.b2
ll:=by show(List.set _ _ _).length=m.B;rw[gD,qBE];exact h.ll
lf:=by show(List.set _ _ _).length=m.B;rw[gD];exact h.lf
lo:=by
 show(if m.fi.getD b 0=0 then m.bo.set b m.nx else m.bo).length=m.B;split
 ·rw[gD];exact h.lo
 exact h.lo
nd:=by
 show((jU m.V n++[(n,((b*m.P+f:Nat):Int))]).map (·.1)).Nodup;rw[kX];refine dR.mpr ⟨q3C h.nd,by simp,λa ha c hc=>?_⟩;obtain⟨q,hq,rfl⟩:=mD.mp ha;have hc:c=n:=by simpa using hc
 rw[hc];exact(jE.mp hq).2
nm:=λq hq=>by
 rcases gA.mp hq with hq|hq
 ·exact h.nm q (jE.mp hq).1
 rw[kF.mp hq];exact⟨n0,n1⟩
blk:=λq hq=>by
 rcases gA.mp hq with hq|hq
 ·exact h.blk q (jE.mp hq).1
 rw[kF.mp hq];refine⟨b,hb,?_⟩;show((b*m.P+f:Nat):Int) / (m.P:Int)=_;rw[←nV,q83 hf]
wr:=λc hc=>by
 show ∃g:Nat,(m.fi.set b (m.fi.getD b 0+1)).getD c 0=(g:Int)∧g≤m.P;rw[q0F];split
 ·exact⟨f+1,by rw[ef];rfl,hf⟩
 exact h.wr c hc
end QM
noncomputable def vn(b:Nat):V:=.int (b:Int)
noncomputable def zI(B:Nat)(br:List Bool):List Nat:=(List.range B).filter λb=>!(br.getD b false)
noncomputable def yY(B:Nat)(br:List Bool)(fi:List Int):List Nat:=(zI B br).filter λb=>decide (fi.getD b 0=0)
noncomputable def keyN(cl:List Int)(b:Nat):List Int:=[cl.getD b 0,(b:Int)]
structure FreeIs(B:Nat)(br:List Bool)(cl fi:List Int)(l:List Nat):Prop where
pm:l.Perm (yY B br fi)
so:(l.map (keyN cl)).Pairwise λa b=>lx b a=false
theorem qFF{cl:List Int}{a b:Nat}(h:keyN cl a=keyN cl b):a=b:=by(
unfold keyN at h
injection h with _ h
injection h with h _
lia)
theorem qBF{α β:Type}{f:α→β}(hf:∀a b,f a=f b→a=b):∀{l m:List α},l.map f=m.map f→l=m
| [],[],_=>rfl
| [],_::_,h=>by cases h
|_::_,[],h=>by cases h
|a::l,b::m,h=>by
 rw[mS,mS]at h;injection h with h1 h2
 rw[hf _ _ h1,qBF hf h2]
theorem FreeIs.one{B:Nat}{br:List Bool}{cl fi:List Int}{l l':List Nat}(h:FreeIs B br cl fi l)(h':FreeIs B br cl fi l'):l=l':=qBF (f:=keyN cl) (λ_ _=>qFF) (qDU ((h.pm.trans h'.pm.symm).map _) h.so h'.so)
theorem q3E{B:Nat}{br:List Bool}{b:Nat}:b∈zI B br↔b<B∧br.getD b false=false:=by unfold zI;rw[mO,k7,wL]
theorem q7G{B:Nat}{br:List Bool}{fi:List Int}{b:Nat}:b∈yY B br fi↔(b<B∧br.getD b false=false)∧fi.getD b 0=0:=by unfold yY;rw[mO,q3E,kQ]
theorem q9N{B:Nat}{br:List Bool}:(zI B br).length≤B:=mE (mT _ _) (by rw[mG];exact kB _)
theorem qCC{B:Nat}{br:List Bool}{fi:List Int}:(yY B br fi).length≤B:=mE (mT _ _) q9N
theorem FreeIs.mem{B:Nat}{br:List Bool}{cl fi:List Int}{l:List Nat}(h:FreeIs B br cl fi l){b:Nat}(hb:b∈l):b<B∧br.getD b false=false∧fi.getD b 0=0:=by have:=q7G.mp (h.pm.mem_iff.mp hb);exact⟨this.1.1,this.1.2,this.2⟩
noncomputable def zY(P:Nat)(fi:List Int)(b:Nat):Bool:=decide (0<fi.getD b 0)&&decide (fi.getD b 0<(P:Int))
noncomputable def q2F(B P:Nat)(br:List Bool)(fi:List Int):Option Nat:=(zI B br).find? (zY P fi)
theorem q5P{B P:Nat}{br:List Bool}{fi:List Int}{b:Nat}(h:q2F B P br fi=some b):b<B∧br.getD b false=false∧0<fi.getD b 0∧fi.getD b 0<(P:Int):=by(
have h1:=q3E.mp (cL h)
have h2:=lE h
unfold zY at h2
rw[mH,kQ,kQ]at h2
exact⟨h1.1,h1.2,h2.1,h2.2⟩)
noncomputable def zJ(B P:Nat)(br:List Bool)(fi:List Int)(l:List Nat):Option Nat:=match q2F B P br fi with
|some b=>some b
|none=>l.head?
theorem q9O{B P:Nat}{br:List Bool}{cl fi:List Int}{l:List Nat}(hl:FreeIs B br cl fi l)(hP:1≤P){b:Nat}(h:zJ B P br fi l=some b):b<B∧br.getD b false=false∧0≤fi.getD b 0∧fi.getD b 0<(P:Int):=by(
unfold zJ at h
split at h
·rename_i b' e;cases h;have:=q5P e;exact⟨this.1,this.2.1,by lia,this.2.2.2⟩
cases l with
|nil=>cases h
|cons c r=>cases h;have:=hl.mem kO;exact⟨this.1,this.2.1,by lia,by lia⟩)
noncomputable def pgV(P:Nat)(fi:List Int):Option Nat→V
|none=>.non
|some b=>.int ((b:Int)*(P:Int)+fi.getD b 0)
noncomputable def oV:Option Nat→V
|none=>.non
|some b=>.int (b:Int)
theorem q5Q{α β:Type}{L:List α}{f:α→β}{d:β}{e:α}:∀{q:List Nat},(∀i∈q,i<L.length)→(q.map λi=>(L.map f).getD i d)=(q.map λi=>L.getD i e).map f
| [],_=>rfl
|i::q,h=>by have hi:=h i kO;rw[mS,mS,mS,q5Q (q:=q) λj hj=>h j (kD _ hj)];congr 1;rw[kM,kM,kW,hZ hi];rfl
theorem qAL{α:Type}{L:List α}{e:α}{q:List Nat}(h:q.Perm (List.range L.length)):(q.map λi=>L.getD i e).Perm L:=by(
have:=h.map λi=>L.getD i e
refine this.trans ?_
have eq:(List.range L.length).map (λi=>L.getD i e)=L:=by refine rO (by simp) λi h1 h2=>?_;rw[c9,sX,kM,hZ h2];rfl
rw[eq])
theorem qFG{B:Nat}{br:List Bool}{cl fi:List Int}{q:List Nat}(h:q.Perm (List.range (yY B br fi).length))(so:(q.map λi=>((yY B br fi).map (keyN cl)).getD i []).Pairwise λa b=>lx b a=false):FreeIs B br cl fi (q.map λi=>(yY B br fi).getD i 0):=by(
have hin:∀i∈q,i<(yY B br fi).length:=λi hi=>k7.mp (h.mem_iff.mp hi)
refine⟨qAL h,?_⟩
rw[q5Q (e:=0) hin]at so
exact so)
theorem q7H{α β:Type}{L:List α}{f:α→β}{i:Nat}{x:α}(h:L[i]?=some x):(L.take (i+1)).map f=(L.take i).map f++[f x]:=by(
have hi:=(hU.mp h).1
obtain rfl:L[i]=x:=(hU.mp h).2
rw[←mB hi,kX]
rfl)
theorem qFH{a b:List Int}(h:lx a b=true):lx b a=false:=by(
cases z:lx b a with
|false=>rfl
|true=>have:=q19 a b a h z;rw[qAI]at this;cases this)
theorem qJ7{a b c:List Int}(h1:lx b a=false)(h2:lx c b=false):lx c a=false:=by(
cases z:lx c a with
|false=>rfl
|true=>
 cases y:lx a b with
 |true=>have:=q19 c a b z y;rw[h2]at this;cases this
 |false=>have e:=q82 a b y h1;rw[e]at z;rw[h2]at z;cases z)
theorem FreeIs.ex(B:Nat)(br:List Bool)(cl fi:List Int):∃l,FreeIs B br cl fi l:=by(
refine⟨(yY B br fi).mergeSort λa b=>!(lx (keyN cl b) (keyN cl a)),List.mergeSort_perm _ _,?_⟩
have:=List.pairwise_mergeSort (le:=λa b=>!(lx (keyN cl b) (keyN cl a))) (λa b c h1 h2=>by
 rw[wL]at h1 h2 ⊢;exact qJ7 h1 h2) (λa b=>by
 cases z:lx (keyN cl b) (keyN cl a)with
 |false=>rfl
 |true=>rw[qFH z];rfl) (yY B br fi)
rw[wM]
exact this.imp λh=>by rw[wL]at h;exact h)
theorem rep8{α:Type}{n i:Nat}{y:α}:(List.replicate n y).getD i y=y:=by rw[kM,g5];split<;>rfl
end W1
namespace W1
noncomputable def orB:List Nat→Nat→Nat
| [],b=>b
|s::r,b=>orB r (b|||2 ^ s)
end W1
namespace W1
open PySem L2
noncomputable def linF(B P n:Nat):List Int:=(List.range B).map λb=>((min (n-b*P) P:Nat):Int)
theorem q3F{B P n:Nat}:(linF B P n).length=B:=by unfold linF;rw[hV,mG]
theorem q24{B P n b:Nat}(hb:b<B):(linF B P n).getD b 0=((min (n-b*P) P:Nat):Int):=by unfold linF;rw[kM,kW,rT hb];rfl
theorem qHW{B P:Nat}:linF B P 0=List.replicate B 0:=by(
unfold linF
refine rO (by simp) λi h1 h2=>?_
rw[c9,List.getElem_replicate]
simp)
theorem q5R{B:Nat}:zI B (List.replicate B false)=List.range B:=by(
unfold zI
refine cA.mpr λb _=>?_
rw[rep8]
rfl)
theorem q25{P n:Nat}(hP:0<P):n=n / P*P+n%P∧n%P<P:=qHU hP
theorem q9P{B P n:Nat}(hP:0<P)(hn:n<B*P):n / P<B∧(linF B P n).getD (n / P) 0=((n%P:Nat):Int):=by(
obtain⟨e,l⟩:=q25 (P:=P) (n:=n) hP
have hb:n / P<B:=wW (by rw[wK];exact hn)
refine⟨hb,?_⟩
rw[q24 hb]
congr 1
lia)
theorem qBG{B P n:Nat}(hP:0<P)(hn:n<B*P):(linF B P n).set (n / P) ((linF B P n).getD (n / P) 0+1)=linF B P (n+1):=by(
obtain⟨e,l⟩:=q25 (P:=P) (n:=n) hP
obtain⟨hb,ef⟩:=q9P hP hn
rw[ef]
refine rO (by rw[gD,q3F,q3F]) λi h1 h2=>?_
rw[q3F]at h2
have g:∀m,(h:i<(linF B P m).length)→(linF B P m)[i]=((min (m-i*P) P:Nat):Int):=λm h=>by have z:=q24 (B:=B) (P:=P) (n:=m) (b:=i) (by rw[q3F]at h;exact h);rw[kM,hZ h]at z;exact z
rw[List.getElem_set]
by_cases z:n / P=i
·rw[kG z,g];have:min (n+1-i*P) P=n%P+1:=by rw[←z];lia
 rw[this];rfl
rw[kC z,g,g]
congr 1
rcases Nat.lt_or_gt_of_ne z with y|y
·have:(n / P+1)*P≤i*P:=rL _ y;rw[cS,cT]at this;lia
have:(i+1)*P≤n / P*P:=rL _ y
rw[cS,cT]at this
lia)
theorem q5S{p:Nat→Bool}:∀{B k:Nat},k<B→p k=true→(∀j,j<k→p j=false)→(List.range B).find? p=some k:=fun {B k} hk hp hn=>by rw[List.find?_range_eq_some];exact⟨hp,k7.mpr hk,λj hj=>by rw[hn j hj];rfl⟩
theorem qDY{B P n:Nat}{l:List Nat}(hP:0<P)(hn:n≤B*P)(hl:FreeIs B (List.replicate B false) (List.replicate B 0) (linF B P n) l):zJ B P (List.replicate B false) (linF B P n) l=if n<B*P then some (n / P)else none:=by(
obtain⟨e,r⟩:=q25 (P:=P) (n:=n) hP
have cand:FreeIs B (List.replicate B false) (List.replicate B 0) (linF B P n) (yY B (List.replicate B false) (linF B P n)):=by
 refine⟨lO _,?_⟩;rw[wM];unfold yY;rw[q5R];refine((pL (n:=B)).filter _).imp fun {a b} h=>?_
 unfold keyN;rw[rep8,rep8,lx2,kG rfl,kC (by lia)];exact hG (by lia)
obtain rfl:=hl.one cand
have ip:∀b,b<B→zY P (linF B P n) b=decide (b=n / P∧n%P≠0):=λb hb=>by
 unfold zY;rw[q24 hb,←lF];refine wS.mpr ⟨λh=>?_,λh=>?_⟩
 ·have h1:b*P<n:=by lia
  have h2:n<b*P+P:=by lia
  have e2:n / P=b:=by rw[Nat.div_eq_of_lt_le (k:=b) (by lia) (by rw[cS,cT];exact h2)]
  refine⟨e2.symm,?_⟩;rw[e2]at e;lia
 obtain⟨rfl,h⟩:=h;lia
unfold zJ q2F
rw[q5R]
by_cases z:n%P=0
·have np:(List.range B).find? (zY P (linF B P n))=none:=by rw[wD];intro b hb;rw[ip b (k7.mp hb),hG (λy=>y.2 z)];decide
 rw[np];show(yY B (List.replicate B false) (linF B P n)).head?=_;unfold yY;rw[q5R,List.head?_filter];by_cases y:n<B*P
 ·rw[kG y];have hb:n / P<B:=wW (by rw[wK];exact y);refine q5S hb ?_ λj hj=>?_
  ·rw[q24 hb];exact hI (by lia)
  have hj':j<B:=by lia
  have:(j+1)*P≤n / P*P:=rL _ hj;rw[cS,cT]at this;rw[q24 hj'];exact hG (by lia)
 rw[kC y,wD];intro b hb;have hb:=k7.mp hb;have:(b+1)*P≤B*P:=rL _ hb;rw[cS,cT]at this;rw[q24 hb,hG (by lia)];decide
have y:n<B*P:=by
 rcases Nat.lt_or_eq_of_le hn with y|y
 ·exact y
 rw[y,Nat.mul_mod_left]at z;exact absurd rfl z
have hb:n / P<B:=wW (by rw[wK];exact y)
have fp:(List.range B).find? (zY P (linF B P n))=some (n / P):=by
 refine q5S hb ?_ λj hj=>?_
 ·rw[ip _ hb];exact hI ⟨rfl,z⟩
 rw[ip j (by lia)];exact hG (λw=>by lia)
rw[fp,kG y])
end W1
namespace L2
open PySem PySem.Spec PyProof.Rows
structure PEw(X:Cx)(e:Expr)(t:TE):Prop where
h:PE X e t
structure PAw(X:Cx)(es:List Expr)(t:TA):Prop where
h:PA X es t
structure PSw(X:Cx)(st:Stmt)(t:TS):Prop where
h:PS X st t
structure PBw(X:Cx)(st:List Stmt)(t:TS):Prop where
h:PSs X st t
section
variable{X:Cx}{st:Stmt}{rest:List Stmt}{t u:TS}
theorem qG6{b:List Stmt}{D:Ends}{σ:St}{H:Hp}:(∃t,PBw X b t∧t D σ H)→∃t,PSs X b t∧t D σ H:=λ⟨t,p,q⟩=>⟨t,p.h,q⟩
theorem jV(h1:PSw X st t)(h2:PBw X rest u):PBw X (st::rest) (tSeq t u):=⟨qB h1.h h2.h⟩
theorem vZ{i:Nat}{x:Str}{e:Expr}{te:TE}{pos pos':Pos}(hN:X.N.Nodup)(hi:X.N[i]?=some x)(hx:Loc X.env.scope x)(he:PEw X e te)(hs:swapsWith e (some (.Name x pos')) pos.line X.env=pure false)(hf:X.fn x=true∨X.env.scope.names.lookup x=some .local:=by first|exact .inl rfl|exact .inr rfl|assumption):
 PSw X (.Assign [.Name x pos'] e pos) (tAsg te (zF i)):=⟨qS hN hi hx he.h hs hf⟩
theorem yE{i j pos}:PEw X (.Constant (.int i) j pos) (tC (.int i)):=⟨qI⟩
theorem qHX{b j pos}:PEw X (.Constant (.bool b) j pos) (tC (.bl b)):=⟨uN⟩
theorem qBH{j pos}:PEw X (.Constant .none j pos) (tC .non):=⟨uO⟩
theorem zA{x j pos}:PEw X (.Constant (.str x) j pos) (tC (.str x)):=⟨qQ⟩
theorem pvW(i:Nat){x:Str}{pos:Pos}(hN:X.N[i]?=some x:=by rfl)(hv:Vis X.env.scope x:=by first|exact Or.inl rfl|exact Or.inr (Or.inl rfl)|exact Or.inr (Or.inr rfl))(hd:(x==("__debug__":Str))=false:=by decide)
 (hcd:(x==("__classdict__":Str))=false:=by decide):PEw X (.Name x pos) (tVar i):=⟨pv i hN hv hd hcd⟩
theorem jT{op:Operator}{r:R2}{a b:Expr}{ta tb:TE}{pos:Pos}(ho:OpR X (binaryOp op) r)(ha:PEw X a ta)(hb:PEw X b tb):PEw X (.BinOp a op b pos) (tOp r ta tb):=⟨qP ho ha.h hb.h⟩
theorem qHY{op:UnaryOp}{r:V→Hp→VK→Prop}{a:Expr}{ta:TE}{pos:Pos}(ho:UnR X (unaryOp op) r)(ha:PEw X a ta):PEw X (.UnaryOp op a pos) (tUn r ta):=⟨qIQ ho ha.h⟩
theorem yQ:PAw X [] tNil:=⟨qC⟩
theorem qK{e:Expr}{es:List Expr}{te:TE}{t:TA}(ha:PEw X e te)(hr:PAw X es t)(hs:starEach (e::es) X.env=(false,eval e X.env)::starEach es X.env:=by rfl):PAw X (e::es) (q49 te t):=⟨qA ha.h hr.h hs⟩
theorem vK{es:List Expr}{t:TA}{x1}{pos:Pos}(h:PAw X es t):PEw X (.Tuple es x1 pos) (qG1 t):=⟨q0I h.h⟩
theorem zK{es:List Expr}{t:TA}{pos:Pos}(h:PAw X es t):PEw X (.List es pos) (qD6 t):=⟨yN h.h⟩
end
noncomputable def mK(k:Key)(a:List Key):Bool:=a.any λy=>decide (y=k)
theorem q3V{k:Key}{a:List Key}:mK k a=true↔k∈a:=by(
unfold mK
rw[rN]
constructor
·rintro⟨y,hy,e⟩
 exact m6 e▸hy
exact λh=>⟨k,h,hI rfl⟩)
noncomputable def unS(a:List Key)(k:Key):List Key:=if mK k a=true then a else a++[k]
noncomputable def unl(ks:List Key):List Key:=ks.foldl unS []
theorem q85:∀(ks a:List Key),a.Nodup→(ks.foldl unS a).Nodup∧(∀x,x∈ks.foldl unS a↔x∈a∨x∈ks)∧(ks.foldl unS a).length≤a.length+ks.length
| [],a,n=>⟨n,by simp,by simp⟩
|k::r,a,n=>by
 have st:(unS a k).Nodup∧(∀x,x∈unS a k↔x∈a∨x=k)∧(unS a k).length≤a.length+1:=by
  unfold unS;split
  ·rename_i z;exact⟨n,λx=>⟨.inl,λy=>y.elim id λe=>e▸q3V.mp z⟩,by lia⟩
  rename_i z;exact⟨dR.mpr ⟨n,by simp,λx hx y hy e=>z (q3V.mpr (by rw[←kF.mp hy,←e];exact hx))⟩,by simp,by simp⟩
 obtain⟨h1,h2,h3⟩:=q85 r (unS a k) st.1;refine⟨h1,λx=>?_,?_⟩
 ·rw[wY,h2,st.2.1,kL,or_assoc]
 rw[wY,mY];have:=st.2.2;lia
theorem q7I{ks:List Key}:(unl ks).Nodup:=(q85 ks [] cK).1
theorem q3G{ks:List Key}{x:Key}:x∈unl ks↔x∈ks:=by rw[show(x∈unl ks)=(x∈ks.foldl unS [])from rfl,(q85 ks [] cK).2.1];simp
theorem q4Z{ks:List Key}:(unl ks).length≤ks.length:=by have:=(q85 ks [] cK).2.2;simpa[unl]using this
theorem qDZ{ks:List Key}{i:Nat}{k:Key}(h:ks[i]?=some k):unl (ks.take (i+1))=unS (unl (ks.take i)) k:=by(
obtain⟨hi,rfl⟩:=hU.mp h
unfold unl
rw[←mB hi,nN]
rfl)
theorem qFI:∀{k:Key} {v:Value},RelV (kV k) v→q53 k v=true∧v.scannable=true
| .inl i,v,h=>by obtain⟨t,rfl⟩:=h;exact⟨q6W i t,rfl⟩
| .inr x,v,h=>by obtain⟨t,rfl⟩:=h;exact⟨q6X x t,rfl⟩
section
variable{P:Program}{w:World}{A:Around}{E:Value→Shared→Prop}{s:Shared}{I:Addr}{fp wr:List Addr}{G:Array GenState→Array GenState→Prop}{n:Nat}{C:Nat→Value→Prop}{St:Nat→Shared→Prop}
theorem q2R{h h':Heap}{a:Addr}{S:Key→Bool}{n:Nat}(x:h.SetOf (jB P w) a S n)(k:∀o,h.get? a=some o→h'.get? a=some o):h'.SetOf (jB P w) a S n:=by obtain⟨o,es,ep,tb,ho,r⟩:=x;exact⟨o,es,ep,tb,k o ho,r⟩
theorem qE0{R:Result→Shared→Prop}(W:WalksS P w A.in1 I fp wr G n C St)(a:Addr)(na:a∉fp)(ks:List Key)(ln:ks.length=n)(hv:∀i v,C i v→∃k,ks[i]?=some k∧RelV (kV k) v)(hb:n+1<scanBound):
 ∀(j i:Nat) (s:Shared),n-i=j→i≤n→St i s→s.heap.SetOf (jB P w) a (λx=>mK x (ks.take i)) (unl (ks.take i)).length→(∀s',Moved (a::wr) G s s'→s'.heap.SetOf (jB P w) a (λx=>mK x ks) (unl ks).length→R (.ok (.ret .none)) s')→codeAny (model P w) A (.builtin "set.update.loop" ⟨[.ref a,.ref I],[]⟩) R s:=by(
have nw:a∉wr:=λh=>na (W.sub _ h)
have sb:∀b∈wr,b∈a::wr:=λb hb=>kD _ hb
intro j
induction j with
|zero=>
 intro i s hj hi st hS hR;obtain rfl:i=n:=by lia
 refine pR pA ?_;rw[sE wG _];refine kA (m:=pyNext (.ref I)) (W.done s _ _ st λs' hm=>?_);refine kU (hR s' (hm.mono sb) ?_);rw[←ln,mZ]at hS;exact q2R hS λo e=>hm.heap a _ nw e
|succ j ih=>
 intro i s hj hi st hS hR;have lt:i<n:=by lia
 refine pR pA ?_;rw[sE wG _];refine kA (m:=pyNext (.ref I)) (W.item i s _ _ lt st λv s' hC st' hm=>?_);obtain⟨k,hk,rk⟩:=hv i v hC;have hS':=q2R hS λo e=>hm.heap a _ nw e;obtain⟨ki,sc⟩:=qFI rk;refine kA (m:=holding [v] (setAdd a v)) (g0 ?_);unfold setAdd;refine g0 (kA ((jB P w).pyHash (k:=k) ki ?_));have rm:(unl (ks.take i)).length+1<scanBound:=by have:=q4Z (ks:=ks.take i);rw[mR]at this;lia
 refine wpAny_setAddHashed_of (knd:=jB P w) (s:={ s' with toks:=s'.toks+1 }) ki sc hS' rm λh' hsb h2=>?_;have e3:h'.SetOf (jB P w) a (λx=>mK x (ks.take (i+1))) (unl (ks.take (i+1))).length:=by
  have e1:(λx=>mK x (ks.take i)||decide (x=k))=λx=>mK x (ks.take (i+1)):=by funext x;obtain⟨hi',rfl⟩:=hU.mp hk;rw[←mB hi'];unfold mK;rw[List.any_append,d9,List.any_nil,xA];congr 1;exact wS.mpr ⟨Eq.symm,Eq.symm⟩
  have e2:(if mK k (ks.take i)=true then(unl (ks.take i)).length else(unl (ks.take i)).length+1)=(unl (ks.take (i+1))).length:=by
   rw[qDZ hk];unfold unS;by_cases z:k∈ks.take i
   ·rw[kG (q3V.mpr z),kG (q3V.mpr (q3G.mpr z))]
   rw[kC (λy=>z (q3V.mp y)),kC (λy=>z (q3G.mp (q3V.mp y))),mU];rfl
  rw[←e1,←e2];exact h2
 refine kU ⟨plainId_quiet wG _,ih (i+1) _ (by lia) lt (W.frame _ s' _ _ st' (dF _) λb hb o e=>?_) e3 λs'' m'' S''=>?_⟩
 ·rw[hsb.2 b (λz=>na (z▸hb))];exact e
 refine hR s'' (Moved.trans W.gtrans ((hm.mono sb).then_heap (dF _) λb o hb e=>?_) m'') S'';rw[hsb.2 b (λz=>hb (z▸kO))];exact e)
noncomputable abbrev setN(led:Bool):Obj:={ cls:=.type "set",dict:=none,data:=.set #[] 0 (.fresh 0 0 led) }
theorem q9Q{l:Addr}{its:Array Value}{ks:List Key}{Q:Value→Shared→Prop}(hh:A.handled=none)(hl:s.heap.IsList l its)(hv:∀(i:Nat) (v:Value),its[i]?=some v→∃k,ks[i]?=some k∧RelV (kV k) v)(ln:ks.length=its.size)(hb:its.size+1<scanBound)
 (h:∀(h':Heap) (tk:Nat),h'.SetOf (jB P w) s.heap.objs.size (λx=>mK x ks) (unl ks).length→(∀b o,b<s.heap.objs.size→s.heap.get? b=some o→h'.get? b=some o)→Q (.ref s.heap.objs.size) { s with heap:=h',toks:=tk }):
 wpAny (model P w) A (call (.type "set") [.ref l]) Q E s:=by(
obtain⟨c,tl,hmro⟩:=d5.mro
have z1:=d5.made
have z2:=d5.sub
refine wB (codeAny_of_tree (show wpAny _ _ (callAny (.type "set") _) _ _ _ from kU ⟨Code.quiet_builtin _ (by decide+kernel),pR F.entry_type_call ?_⟩))
rw[Around.under_plain (weight_type_call_type "set" [.ref l] []) rfl]
have z3:=d5.notType
have z4:=d5.canCreate
have z5:=F.typeCall_set_1 (.ref l)
repeat (any_goals (first|assumption|wp_step))
refine dP (code_set_new_1 (.ref l) (E:=E) (Q₁:=λobj s₁=>∃led:Bool,obj=.ref s.heap.objs.size∧s₁= { s with heap:=s.heap.push (setN led) }) λled=>⟨led,rfl,rfl⟩) λr s₁ hr=>?_
cases r with
|error e=>exact hr
|ok fl=>
 cases fl with
 |ret obj=>
  obtain⟨led,rfl,rfl⟩:=hr;have hS:(s.heap.push (setN led)).get? s.heap.objs.size=some (setN led):=kR _ rfl;have hT:Shared.TypeIs { s with heap:=s.heap.push (setN led) } (.ref s.heap.objs.size) "set":=⟨_,hS,rfl⟩;have z6:=d5.init.lookup;have z7:=d5.init.bind (.ref s.heap.objs.size);repeat (any_goals (first|assumption|wp_step))
  refine dP (p9 (R:=wants (λr s₂=>r=.none∧∃h' tk,s₂= { s with heap:=h',toks:=tk }∧h'.SetOf (jB P w) s.heap.objs.size (λx=>mK x ks) (unl ks).length∧(∀b o,b<s.heap.objs.size→s.heap.get? b=some o→h'.get? b=some o)) E) d5.init.plain F.entry_set_init (check_set_init_1 hT ?_)) λr₂ s₂ hr₂=>?_
  ·obtain⟨ol,hol,hcl,nl,hdl⟩:=hl;obtain⟨oc,od,oda,osl⟩:=ol;simp only at hcl hdl;subst hcl hdl;have hol':(s.heap.push (setN led)).get? l=some { cls:=.type "list",dict:=od,data:=.seq its nl,slots:=osl }:=hX _ hol;have z8:=F.sub_list_set;have z9:=F.sub_list_frozenset;have hne:(Value.type "list"==Value.type "dict")=false:=by decide
   have hl1:(s.heap.push (setN led)).IsList l its:=⟨_,hol',rfl,nl,rfl⟩;unfold Builtin.«set.__init__» noKeywords Builtin.Frozenset.updateFrom;generalize hPI:pyIter=PI;wp_walk
   subst hPI;refine cN hl1 (kA (wpAny_runValue ?_));have lS:l<s.heap.objs.size:=kI hol;have h3:A.in1.in1.in1.handled=none:=by simp[hh]
   have nI:l≠(s.heap.push (setN led)).objs.size:=by rw[rH];lia
   have nf:s.heap.objs.size∉[(s.heap.push (setN led)).objs.size,l]:=by rw[rH];simp;lia
   refine qE0 ((lN h3 _ l nI its).toS) s.heap.objs.size nf ks ln hv hb (its.size-0) 0 _ (by lia) (mI _) ⟨⟨_,kR _ rfl,rfl,rfl⟩,hl1.push _⟩ ?_ ?_
   ·exact⟨_,#[],0,_,hX _ hS,⟨rfl,rfl,rfl⟩,rfl,λe he=>by simp at he,λk=>⟨λz=>(by cases z),λ⟨e,he,_⟩=>by simp at he⟩,by decide,rfl,rfl⟩
   intro s' hm hS';obtain⟨h',g',d',tk',os'⟩:=s';obtain rfl:g'=s.gens:=hm.gens;obtain rfl:d'=s.drawn:=hm.drawn;obtain rfl:os'=s.os:=hm.os;refine show wpAny _ _ _ _ _ _ from kU (show wpAny _ _ (ret Value.none) _ _ _ from kU ⟨rfl,h',tk',rfl,hS',λb o hb e=>?_⟩)
   refine hm.heap b o ?_ (hX _ (hX _ e));rw[rH];simp;lia
  cases r₂ with
  |error e=>exact hr₂
  |ok fl₂=>
   cases fl₂ with
   |ret r=>
    obtain⟨rfl,h',tk,rfl,hS',hk'⟩:=hr₂;repeat (any_goals (first|assumption|wp_step))
    exact h _ _ hS' hk'
   |_=>exact hr₂.elim
 |_=>exact hr.elim)
end
noncomputable def setO(P:Program)(w:World)(a:Addr)(n:Nat):HO:=.ext λh=>∃S,h.SetOf (jB P w) a S n
section
variable{X:Cx}
theorem qCD(hc:X.calm=true):vF X (.type "set") (λxs H Q=>∃(p:Addr) (ks:List Key),xs=[.ref p]∧SqL X.K H p (ks.map kV)∧ks.length<1000∧∀a H',H a=none→Same H H'→H' a=some (setO X.prog X.w a (unl ks).length)→Q (.ref a) H'):=by(
intro pins s σ H xs us Q I r hZ
obtain⟨p,ks,ex,hq,h1,q⟩:=hZ
subst ex
obtain⟨u,rfl,rx⟩:=zT r
cases rx
obtain⟨its,rv,pl,hz⟩:=I.list hq
have hlen:its.length=ks.length:=by rw[←rv.length,hV]
have sb:(1001:Nat)<scanBound:=by decide
refine q9Q (ks:=ks) (I.ok.hd hc) pl.isList (λi v hv=>?_) (by simp[hlen]) (by simp;lia) λh' tk hs hk=>?_
·have hv:its[i]?=some v:=by simpa using hv
 have hi:i<its.length:=(hU.mp hv).1;obtain⟨u,hu,ru⟩:=rv.get (i:=i) (x:=kV (ks[i]'(by lia))) (by rw[kW,hZ (by lia)];rfl);rw[hv]at hu;cases hu;exact⟨_,hZ (by lia),ru⟩
refine⟨.ref s.heap.objs.size,_,I.laid (λb o e=>hk b o (kI e) e) (kB _) (show jR X.prog X.w _ _ _ (setO X.prog X.w s.heap.objs.size (unl ks).length)from⟨⟨_,hs⟩,?_,λh1 h2 ⟨S,x⟩ k=>⟨S,q2R x k⟩⟩),rfl,q _ _ (I.hok.fresh (kB _)) (Same.upd (I.hok.fresh (kB _))) qG⟩
obtain⟨o,_,_,_,e,_⟩:=hs
exact⟨o,e⟩)
theorem qCE:vF X (.builtin "len") (λxs H Q=>∃a n,xs=[V.ref a]∧H a=some (setO X.prog X.w a n)∧n<1000∧Q (.int (n:Nat)) H):=by(
intro pins s σ H xs us Q I r hZ
obtain⟨a,n,ex,hq,h1,q⟩:=hZ
subst ex
obtain⟨u,rfl,rx⟩:=zT r
cases rx
obtain⟨⟨S,ho⟩,_⟩:=I.hok a _ hq
obtain⟨o,es,ep,t,a1,a2,a3,a4,a5,a6,a7,a8⟩:=ho
subst a8
exact call_len_set a1 a2 a3 a7 (by lia) ⟨.int _,H,I.kept λb o e=>e,⟨_,rfl⟩,q⟩)
theorem q7J:OpR X (compareOp .LtE) (λx y H Q=>∃i j,x=.str i∧y=.str j∧Q (.bl (!decide (j.cps.toList<i.cps.toList))) H):=by(
intro pins s σ H x y v u Q I rx ry h
obtain⟨i,j,rfl,rfl,q⟩:=h
obtain⟨t,rfl⟩:=rx
obtain⟨t',rfl⟩:=ry
exact PySem.P.le_str (jL I q rfl))
end
noncomputable def sg(c:Nat):V:=.str ⟨#[c]⟩
noncomputable def Its(x:Str):It:=⟨λi _=>i<x.cps.toList.length,λi H v H'=>H'=H∧∃c,x.cps.toList[i]?=some c∧v=sg c,λi _=>x.cps.toList.length≤i⟩
theorem qE1{P:Program}{w:World}{K:PySem.W.Frag}{tg:Expr}(x:Str)(t:Tok)(it:Addr){ty:String}(hty:ty="str_ascii_iterator"∨ty="str_iterator"):Turn P w K tg (Its x) [it] it (λi h=>h.IsStrIter it ty x t i) where
mem:=by simp
obj:=λi h st b hb=>by
 obtain rfl:b=it:=by simpa using hb
 obtain⟨o,e,c,d⟩:=st;exact⟨o,e,λv z=>by rw[d]at z;cases z⟩
keep:=λi h h' st k=>by obtain⟨o,e,r⟩:=st;exact⟨o,k it (by simp) o e,r⟩
item:=by
 intro X hP hw hK hc i pins s σ H E I hf st hg;subst hP hw hK;obtain⟨f0,f1,f2,f3,f4,f5⟩:=hf it (by simp);have hg:i<x.cps.toList.length:=hg;have e1:x.cps[i]?=some (x.cps.toList[i]):=by rw[←pW];exact hZ hg
 have go:∀h':Heap,h'.IsStrIter it ty x t (i+1)→Heap.SameBut it s.heap h'→(["enumerate","zip","dict_itemiterator","dict_reverseitemiterator","odict_iterator","itertools.zip_longest","itertools.pairwise"].contains ty=false)→∃u,some (Value.str ⟨#[x.cps.toList[i]]⟩ s.toks)=some u∧wpAny (model X.prog X.w) X.A (letOwnedTupleGo tg (.ref it) u) (λ_ s2=>∃y H',Inv X pins σ H' s2∧RelV y u∧(Its x).yld i H y H'∧s2.heap.IsStrIter it ty x t (i+1)∧∀b∈[it],H' b=none) E { s with heap:=h',toks:=s.toks+1 }:=by intro h' st' sb hn;have I1:Inv X pins σ H { s with heap:=h',toks:=s.toks+1 }:=I.turned (t':=s.toks+1) (λb o hb e=>(sb.2 b hb).trans e) f0 f1 f3 f4 f5;obtain⟨o,e,c,d⟩:=id st';exact⟨_,rfl,qAT (s:={ s with heap:=h',toks:=s.toks+1 }) e c d hn ⟨sg _,H,I1,⟨_,rfl⟩,⟨rfl,_,hZ hg,rfl⟩,st',λb hb=>(hf b hb).1⟩⟩
 rcases hty with rfl|rfl
 ·exact wpAny_pyNext_ascii_item st e1 λh' a b=>go h' a b (by decide)
 exact wpAny_pyNext_wide_item st e1 λh' a b=>go h' a b (by decide)
done:=by
 intro X hP hw hK hc i pins s σ H E I hf st hg;subst hP hw hK;obtain⟨f0,f1,f2,f3,f4,f5⟩:=hf it (by simp);have hg:x.cps.toList.length≤i:=hg;have e1:x.cps[i]?=none:=by rw[←pW];exact dJ hg
 rcases hty with rfl|rfl
 ·exact wpAny_pyNext_ascii_end (I.ok.hd hc) st e1 λh' eb=>⟨rfl,I.turned (t':=s.toks) (λb o hb e=>eb b o hb e) f0 f1 f3 f4 f5⟩
 exact wpAny_pyNext_wide_end (I.ok.hd hc) st e1 λh' eb=>⟨rfl,I.turned (t':=s.toks) (λb o hb e=>eb b o hb e) f0 f1 f3 f4 f5⟩
self:=λ_ _ _ _ _ st h=>by
 rcases hty with rfl|rfl
 ·exact wpAny_pyIter_striter_ascii st h
 exact wpAny_pyIter_striter_wide st h
noncomputable def iStr(tl:TE):TI:=λσ H R=>tl σ H λx H1=>∃z,x=.str z∧R (Its z) H1
theorem qHZ{X:Cx}{tg l:Expr}{tl:TE}(hl:PE X l tl):PI X tg l (iStr tl):=by(
intro pins s σ H R I h
refine thn (hl pins s σ H _ I h) λv s1 hZ=>?_
obtain⟨x,H1,I1,r1,q1⟩:=hZ
obtain⟨z,rfl,q⟩:=q1
obtain⟨t,rfl⟩:=r1
have fin:∀ty,(ty="str_ascii_iterator"∨ty="str_iterator")→PIE X pins σ tg R (.ref s1.heap.objs.size) { s1 with heap:=s1.heap.push { cls:=.type ty,data:=.fields #[.str z t,.int 0 0] } }:=by
 intro ty hty;refine⟨s1.heap.objs.size,[s1.heap.objs.size],_,_,H1,rfl,I1.kept (t':=s1.toks) λb o e=>hX _ e,qE1 z t _ hty,⟨_,kR _ rfl,rfl,rfl⟩,λb hb=>?_,q⟩;obtain rfl:b=s1.heap.objs.size:=by simpa using hb
 exact I1.fpOk (kB _) (I1.hok.fresh (kB _))
cases ha:z.cps.all (· < 128)
·exact wpAny_pyIter_wide ha (fin _ (.inr rfl))
exact wpAny_pyIter_ascii ha (fin _ (.inl rfl)))
theorem qFJ{x:Str}{D:Addr}{H2:Hp}{g:TG}{tc:TT}{te:TE}{σ0:St}{R:Hp→Prop}(Pv:Nat→Hp→Prop)(h0:Pv 0 H2)
 (hs:∀(i:Nat) c H,x.cps.toList[i]?=some c→Pv i H→g (sg c) σ0 H λσ5 H5=>tc σ5 H5 λb H6=>if b=true then te σ5 H6 (λv H7=>∃vs,H7 D=some (.lst vs)∧vs.length<sizeLine∧Pv (i+1) (upd H7 D (.lst (vs++[v]))))else Pv (i+1) H6) (hd:∀H,Pv x.cps.toList.length H→R H):
 ∃W:Nat→Nat→Hp→Prop,(∃m,W 0 m H2)∧∀i m H3,W i m H3→((Its x).stop i H3∧R H3)∨((Its x).go i H3∧∃N:Hp→Prop,(∀H',N H'→∃m',m'<m∧W (i+1) m' H')∧∀v H4,(Its x).yld i H3 v H4→g v σ0 H4 λσ5 H5=>tc σ5 H5 λb H6=>
   if b=true then te σ5 H6 (λv H7=>∃vs,H7 D=some (.lst vs)∧vs.length<sizeLine∧N (upd H7 D (.lst (vs++[v]))))else N H6):=by(
refine⟨λi m H=>m=x.cps.toList.length-i∧i≤x.cps.toList.length∧Pv i H,⟨_,rfl,mI _,h0⟩,?_⟩
rintro i m H ⟨rfl,hi,p⟩
by_cases hlt:i<x.cps.toList.length
·refine .inr ⟨hlt,Pv (i+1),λH' z=>⟨x.cps.toList.length-(i+1),by lia,rfl,by lia,z⟩,?_⟩;rintro v H4 ⟨rfl,c,hc,rfl⟩
 exact hs i c _ hc p
obtain rfl:i=x.cps.toList.length:=by lia
exact .inl ⟨kB _,hd _ p⟩)
theorem qFK{x:Str}{k:Nat}{D:Addr}{H2:Hp}{te:TE}{σ0:St}{R:Hp→Prop}(Pv:Nat→Hp→Prop)(h0:Pv 0 H2)
 (hs:∀(i:Nat) c H,x.cps.toList[i]?=some c→Pv i H→te (σ0.set k (some (sg c))) H (λv H7=>∃vs,H7 D=some (.lst vs)∧vs.length<sizeLine∧Pv (i+1) (upd H7 D (.lst (vs++[v]))))) (hd:∀H,Pv x.cps.toList.length H→R H):
 ∃W:Nat→Nat→Hp→Prop,(∃m,W 0 m H2)∧∀i m H3,W i m H3→((Its x).stop i H3∧R H3)∨((Its x).go i H3∧∃N:Hp→Prop,(∀H',N H'→∃m',m'<m∧W (i+1) m' H')∧∀v H4,(Its x).yld i H3 v H4→zF k v σ0 H4 λσ5 H5=>q16 σ5 H5 λb H6=>if b=true then te σ5 H6 (λv H7=>∃vs,H7 D=some (.lst vs)∧vs.length<sizeLine∧N (upd H7 D (.lst (vs++[v]))))else N H6):=qFJ Pv h0 (λi c H hc hp=>hs i c H hc hp) hd
end L2
namespace L2
open PySem
theorem q3W{K:PySem.W.Frag}{a:Addr}{xs:List V}{g:TG}{tb:TS}{D:Ends}{σ:St}{H:Hp}(Pv:Nat→St→Hp→Prop)(h0:Pv 0 σ H)(hl:∀i σ H,i≤xs.length→Pv i σ H→SqL K H a xs)
 (hs:∀i x σ H (D':Ends),(∀σ' H',Pv (i+1) σ' H'→D'.nx σ' H')→xs[i]?=some x→Pv i σ H→g x σ H λσ2 H2=>tb D' σ2 H2) (hd:∀σ H,Pv xs.length σ H→D.nx σ H):
 ∃W:Nat→Nat→St→Hp→Prop,(∃m,W 0 m σ H)∧∀i m σ H,W i m σ H→((Itl K a).stop i H∧D.nx σ H)∨((Itl K a).go i H∧∃N:St→Hp→Prop,(∀σ' H',N σ' H'→∃m',m'<m∧W (i+1) m' σ' H')∧∀x H',(Itl K a).yld i H x H'→g x σ H' λσ2 H2=>tb { D with nx:=N,ct:=N,bk:=D.nx } σ2 H2):=vE Pv h0 hl (λi x σ H hx p=>hs i x σ H _ (λ_ _ q=>q) hx p) hd
theorem q0K{lo:Int}{n:Nat}{g:TG}{tb:TS}{D:Ends}{σ:St}{H:Hp}(Pv:Nat→St→Hp→Prop)(h0:Pv 0 σ H)
 (hs:∀i σ H (D':Ends),(∀σ' H',Pv (i+1) σ' H'→D'.nx σ' H')→i<n→Pv i σ H→g (.int (lo+i)) σ H λσ2 H2=>tb D' σ2 H2) (hd:∀σ H,Pv n σ H→D.nx σ H):
 ∃W:Nat→Nat→St→Hp→Prop,(∃m,W 0 m σ H)∧∀i m σ H,W i m σ H→((Itr lo n).stop i H∧D.nx σ H)∨((Itr lo n).go i H∧∃N:St→Hp→Prop,(∀σ' H',N σ' H'→∃m',m'<m∧W (i+1) m' σ' H')∧∀x H',(Itr lo n).yld i H x H'→g x σ H' λσ2 H2=>tb { D with nx:=N,ct:=N,bk:=D.nx } σ2 H2):=qBO Pv h0 (λi σ H hx p=>hs i σ H _ (λ_ _ q=>q) hx p) hd
theorem iV{σ:St}{i:Nat}{v:V}{Q:V→Prop}(e:σ[i]?=some (some v))(q:Q v):∃v,σ[i]?=some (some v)∧Q v:=⟨v,e,q⟩
theorem iF{K:PySem.W.Frag}{H:Hp}{f:Str}{a C d:Addr}{fs:List (Str×V)}{v:V}{Q:V→Prop}(o:H a=some (.ins C d fs))(cl:Cls K C)(na:qN K C f)(lk:fs.lookup f=some v)(q:Q v):
 ∃a' C dx fs v,V.ref a=.ref a'∧H a'=some (.ins C dx fs)∧Cls K C∧qN K C f∧fs.lookup f=some v∧Q v:=⟨a,C,d,fs,v,rfl,o,cl,na,lk,q⟩
theorem iM{H:Hp}{m:Str}{a C d:Addr}{fs:List (Str×V)}{q:Prop}(o:H a=some (.ins C d fs))(lk:fs.lookup m=none)(k:q):
 ∃a' dx fs,V.ref a=.ref a'∧H a'=some (.ins C dx fs)∧fs.lookup m=none∧q:=⟨a,d,fs,rfl,o,lk,k⟩
theorem iI{i j:Int}{Q:Int→Int→Prop}(q:Q i j):∃i' j',V.int i=.int i'∧V.int j=.int j'∧Q i' j':=⟨i,j,rfl,rfl,q⟩
theorem iL{K:PySem.W.Frag}{H:Hp}{p:Addr}{xs:List V}{k:Int}{v:V}{Q:V→Prop}(h:SqL K H p xs)(e:atI xs k=some v)(q:Q v):∃p' xs k' v,V.ref p=.ref p'∧V.int k=.int k'∧SqL K H p' xs∧atI xs k'=some v∧Q v:=⟨p,xs,k,v,rfl,rfl,h,e,q⟩
theorem iT{K:PySem.W.Frag}{H:Hp}{p:Addr}{xs:List V}{k:Int}{v:V}{Q:V→Prop}(h:SqT K H p xs)(e:atI xs k=some v)(q:Q v):∃p' xs k' v,V.ref p=.ref p'∧V.int k=.int k'∧SqT K H p' xs∧atI xs k'=some v∧Q v:=⟨p,xs,k,v,rfl,rfl,h,e,q⟩
end L2
namespace W1
open PySem L2
noncomputable def dN(n:Nat)(nm:Nat→Str)(f:Nat→V):List (Key×V):=(List.range n).map λi=>((Sum.inr (nm i):Key),f i)
noncomputable def Unl(n:Nat)(nm:Nat→Str):Prop:=∀i j,i<n→j<n→nm i=nm j→i=j
theorem Unl.less{n m:Nat}{nm:Nat→Str}(h:Unl n nm)(l:m≤n):Unl m nm:=λi j hi hj=>h i j (by lia) (by lia)
section
variable{n:Nat}{nm:Nat→Str}{f g:Nat→V}
theorem q3X:(dN n nm f).length=n:=by simp[dN]
theorem qBI:dN (n+1) nm f=dN n nm f++[((Sum.inr (nm n):Key),f n)]:=by simp[dN,g8]
theorem q5T(h:∀i,i<n→f i=g i):dN n nm f=dN n nm g:=by unfold dN;exact cB λi hi=>by rw[h i (k7.mp hi)]
theorem q50{s:Str}(h:∀i,i<n→nm i≠s):valV (dN n nm f) (Sum.inr s:Key)=none:=by(
unfold valV
rw[wD.mpr,Option.map_none]
intro x hx
obtain⟨i,hi,rfl⟩:=mD.mp hx
have:=h i (k7.mp hi)
simpa using this)
theorem q3H(u:Unl n nm){i:Nat}(hi:i<n):valV (dN n nm f) (Sum.inr (nm i):Key)=some (f i):=by(
induction n with
|zero=>lia
|succ n ih=>
 rw[qBI];by_cases z:i=n
 ·subst z;rw[q3R _ _ _ _ (q50 λj hj e=>by have:=u j i (by lia) (by lia) e;lia),kG rfl]
 rw[q3R _ _ _ _ (q50 λj hj e=>by have:=u j n (by lia) (by lia) e;lia),kC (λe=>z (u i n hi (by lia) (xG e))),ih (u.less (by lia)) (by lia)])
theorem q86(u:Unl (n+1) nm){v:V}:putK (dN n nm f) (Sum.inr (nm n):Key) v=dN (n+1) nm (λj=>if j=n then v else f j):=by rw[qD1 _ (q50 λj hj e=>by have:=u j n (by lia) (by lia) e;lia),qBI,kG rfl];congr 1;exact q5T λj hj=>by rw[kC (by lia)]
end
noncomputable def fst(ct:Nat→Nat):Nat→Nat
|0=>0
|i+1=>fst ct i+ct i
theorem qE2{ct:Nat→Nat}{i j:Nat}(h:i≤j):fst ct i≤fst ct j:=by(
induction j with
|zero=>
 obtain rfl:i=0:=by lia
 exact kB _
|succ j ih=>
 by_cases z:i=j+1
 ·subst z;exact kB _
 have:=ih (by lia);show _≤fst ct j+ct j;lia)
theorem q3I{ct:Nat→Nat}{n:Nat}:((List.range n).map λi=>(ct i:Int)).sum=(fst ct n:Int):=by(
induction n with
|zero=>rfl
|succ n ih=>rw[g8,kX,List.sum_append,ih];show(fst ct n:Int)+((ct n:Int)+0)=((fst ct n+ct n:Nat):Int);lia)
noncomputable def cutP(f c:Nat)(ks:List Int):List Int:=(ks.filter λk=>decide ((f:Int)≤k)&&decide (k<(f:Int)+(c:Int))).map λk=>k-(f:Int)
theorem q7K{f c:Nat}{ks ls:List Int}(h:ks.Perm ls):(cutP f c ks).Perm (cutP f c ls):=(h.filter _).map _
theorem q5U{f c:Nat}{ks:List Int}{s:Int}:s∈cutP f c ks↔(f:Int)+s∈ks∧0≤s∧s<(c:Int):=by(
unfold cutP
rw[mD]
constructor
·rintro⟨k,hk,rfl⟩
 obtain⟨a,b⟩:=mO.mp hk;have b:(f:Int)≤k∧k<(f:Int)+(c:Int):=by simpa using b
 exact⟨by rw[show(f:Int)+(k-(f:Int))=k by lia];exact a,by lia,by lia⟩
rintro⟨a,b,c'⟩
exact⟨(f:Int)+s,mO.mpr ⟨a,by simp;lia⟩,by lia⟩)
theorem q5V{f c:Nat}{ks:List Int}(h:ks.Nodup):(cutP f c ks).Nodup:=dS _ (λa b hab e=>hab (by lia)) (h.filter _)
end W1
namespace L2
open PySem PySem.Spec PyProof.Rows
structure Fn1(K:PySem.W.Frag)(x q:Str)(st:Stmt)(f:Addr)(ps:List Str) where
fd:FuncData
F:FunD K x q st .none f fd
b:yM K fd ps []
noncomputable abbrev Fn1.Ok0{K:PySem.W.Frag}{x q:Str}{st:Stmt}{f:Addr}{ps:List Str}(F:Fn1 K x q st f ps)(P:Program)(w:World)(mg:Str→Option Value)(base:Heap)(k:Nat)(sp:Sp):Prop:=FnOk P w K mg base CX0 k f F.fd ps sp
noncomputable abbrev Fn1.OkE{K:PySem.W.Frag}{x q:Str}{st:Stmt}{f:Addr}{ps:List Str}(F:Fn1 K x q st f ps)(P:Program)(w:World)(mg:Str→Option Value)(base:Heap)(k:Nat)(sp:Sp):Prop:=FnOk P w K mg base (CXe P w) k f F.fd ps sp
noncomputable abbrev FnX(K:PySem.W.Frag)(x q:Str)(st:Stmt)(f:Addr):Prop:=∃fd,FunD K x q st .none f fd
section
variable{K:PySem.W.Frag}{x q:Str}{st:Stmt}{f:Addr}{ps:List Str}
noncomputable def BnX(x q:Str)(st:Stmt)(ps:List Str):Prop:=∀(kV doc pm:Value) (an:Option Addr) (cdv ct:Value) (us:List Value),us.length=ps.length→bindArgs (PySem.W.fnOf x q (yU st) (yH st) (qH st) .none kV doc pm an cdv ct) ⟨us,[]⟩=pure (ps.zip us)
theorem fn1b(h:BnX x q st ps){fd:FuncData}(F:FunD K x q st .none f fd):yM K fd ps []:=by obtain⟨oc,od,kV,doc,pm,an,cdv,ct,osl,rfl,lk,hcd⟩:=F.ex;exact yM.all λus hl=>h kV doc pm an cdv ct us hl
theorem lnx{us:List Value}{n:Nat}(h:us.length=n):us=(List.range n).map (us.getD · .none):=by subst h;refine rO (by simp) λi h1 h2=>?_;simp[hZ h1]
theorem bnx(h:∀kV doc pm an cdv ct (g:Nat→Value),bindArgs (PySem.W.fnOf x q (yU st) (yH st) (qH st) .none kV doc pm an cdv ct) ⟨(List.range ps.length).map g,[]⟩=pure (ps.zip ((List.range ps.length).map g))):BnX x q st ps:=λkV doc pm an cdv ct us hl=>by rw[lnx hl];exact h ..
noncomputable def fn1 (l:FnX K x q st f) (h:∀kV doc pm an cdv ct (g:Nat→Value),bindArgs (PySem.W.fnOf x q (yU st) (yH st) (qH st) .none kV doc pm an cdv ct) ⟨(List.range ps.length).map g,[]⟩=pure (ps.zip ((List.range ps.length).map g)):=by intros;rfl):Fn1 K x q st f ps:=⟨l.choose,l.choose_spec,fn1b (bnx h) l.choose_spec⟩
theorem FnX.bind1{a:Str}{fd:FuncData}(h:∀kV doc pm an cdv ct u,bindArgs (PySem.W.fnOf x q (yU st) (yH st) (qH st) .none kV doc pm an cdv ct) ⟨[u],[]⟩=pure [(a,u)])(F:FunD K x q st .none f fd)(s:Shared)(v:Value):BindsTo s fd ⟨[v],[]⟩ [(a,v)]:=by obtain⟨oc,od,kV,doc,pm,an,cdv,ct,osl,rfl,lk,hcd⟩:=F.ex;exact .of_eq (h kV doc pm an cdv ct v)
theorem FnX.of{oc:Value}{od an:Option Addr}{osl:Array (Option Value)}{kV doc pm cdv ct:Value}(l:K.lookup f=some ⟨oc,od,.func (PySem.W.fnOf x q (yU st) (yH st) (qH st) .none kV doc pm an cdv ct),osl⟩)(c:PySem.W.codeIn K cdv q=true):FnX K x q st f:=⟨_,FunD.mk' l c⟩
theorem qW{N P:List Str}{sc:Scope}(h:(sc.kind=.function∧sc.isCoroutine=false∧sc.isGenerator=false)∧N.Nodup∧N.take P.length=P∧(∀x∈P,sc.names.lookup x=some .local∨sc.names.lookup x=some .cell)∧∀y∈sc.names,y.2≠ .free):FnScope N P sc:=⟨h.1.1,h.1.2.1,h.1.2.2,h.2.1,h.2.2.1,h.2.2.2.1,h.2.2.2.2⟩
end
noncomputable abbrev GFn(K:PySem.W.Frag)(n:Str)(f:Addr):Prop:=PySem.W.nsIn K mainGlobals n=some (some (.ref f))∧PySem.W.keepIn K (.ref f)=true
theorem sz0:0≤sizeLine:=by decide
theorem sz1:1≤sizeLine:=by decide
theorem sz2:2≤sizeLine:=by decide
theorem sz3:3≤sizeLine:=by decide
theorem sz4:4≤sizeLine:=by decide
theorem sz5:5≤sizeLine:=by decide
end L2
namespace W1
open PySem L2
noncomputable def top(i:Nat):Stmt:=PySem.Challenge.pw_wornpages_k81_where_parts_lie.main.body.getD i (.Pass ⟨0,0,0,0⟩)
noncomputable abbrev q2S:Stmt:=(top 16)
noncomputable abbrev q1B:Stmt:=(top 17)
noncomputable abbrev q2T:Stmt:=(top 18)
noncomputable abbrev q2U:Stmt:=(top 19)
noncomputable abbrev q3Y:Stmt:=(top 21)
noncomputable abbrev zZ:Stmt:=(top 22)
noncomputable abbrev q0L:Stmt:=(top 23)
noncomputable abbrev q1C:Stmt:=(top 24)
noncomputable abbrev q0M:Stmt:=(qV (top 25) 0)
noncomputable abbrev q00:Stmt:=(qV (top 25) 1)
noncomputable abbrev q0N:Stmt:=(qV (top 25) 2)
noncomputable abbrev q0O:Stmt:=(qV (top 25) 5)
noncomputable abbrev q0P:Stmt:=(qV (top 25) 6)
noncomputable abbrev v6:Stmt:=(qV (top 25) 7)
noncomputable abbrev q0Q:Stmt:=(qV (top 25) 9)
noncomputable abbrev v7:Stmt:=(qV (top 25) 10)
noncomputable abbrev uH:Stmt:=(qV (top 25) 11)
noncomputable abbrev q1D:Stmt:=(top 27)
noncomputable abbrev uM:Stmt:=(qV (top 28) 0)
noncomputable abbrev q2V:Stmt:=(qV (top 28) 1)
noncomputable abbrev q1E:Stmt:=(qV (top 28) 3)
noncomputable abbrev zL:Stmt:=(qV (top 28) 6)
noncomputable abbrev zM:Stmt:=(qV (top 28) 7)
noncomputable abbrev q01:Stmt:=(qV (top 28) 8)
noncomputable abbrev uU:Stmt:=(qV (top 28) 10)
noncomputable abbrev uI:Stmt:=(qV (top 28) 11)
noncomputable abbrev uJ:Stmt:=(qV (top 28) 12)
noncomputable abbrev uV:Stmt:=(qV (top 28) 13)
noncomputable abbrev vM:Stmt:=(qV (top 28) 14)
noncomputable abbrev zN:Stmt:=(qV (top 28) 15)
noncomputable abbrev q3Z:Stmt:=(top 32)
noncomputable abbrev q40:Stmt:=(top 33)
noncomputable abbrev q1F:Stmt:=(qV (top 35) 0)
noncomputable abbrev q1G:Stmt:=(qV (top 35) 1)
noncomputable abbrev q1H:Stmt:=(qV (top 35) 2)
noncomputable abbrev q02:Stmt:=(qV (top 35) 3)
noncomputable abbrev q1I:Stmt:=(qV (top 35) 7)
noncomputable abbrev q0R:Stmt:=(qV (top 37) 0)
noncomputable abbrev q0S:Stmt:=(qV (top 37) 1)
noncomputable abbrev jZ:Stmt:=(qV (top 37) 2)
noncomputable abbrev q0T:Stmt:=(qV (top 37) 3)
noncomputable abbrev q0U:Stmt:=(qV (top 37) 4)
noncomputable abbrev vO:Stmt:=(qV (top 37) 5)
noncomputable abbrev q03:Stmt:=(qV (top 37) 6)
noncomputable abbrev uK:Stmt:=(qV (top 37) 7)
noncomputable abbrev v8:Stmt:=(qV (top 37) 8)
noncomputable abbrev q1J:Stmt:=(qV (top 37) 9)
noncomputable abbrev q04:Stmt:=(qV (top 37) 10)
noncomputable abbrev vP:Stmt:=(qV (top 37) 11)
noncomputable abbrev q0V:Stmt:=(qV (top 37) 12)
noncomputable abbrev q0W:Stmt:=(qV (top 37) 13)
noncomputable abbrev uD:Stmt:=(qV (top 37) 14)
noncomputable abbrev uE:Stmt:=(qV (top 37) 15)
noncomputable abbrev uA:Stmt:=(qV (top 39) 0)
noncomputable abbrev zO:Stmt:=(qV (top 39) 1)
noncomputable abbrev q05:Stmt:=(top 41)
noncomputable abbrev q1K:Stmt:=(top 42)
noncomputable abbrev q1L:Stmt:=(top 43)
noncomputable abbrev q1M:Stmt:=(top 44)
noncomputable abbrev q06:Stmt:=(top 45)
noncomputable abbrev q0X:Stmt:=(top 46)
noncomputable abbrev q07:Stmt:=(top 47)
noncomputable abbrev q2W:Stmt:=(top 48)
noncomputable abbrev q1N:Stmt:=(top 49)
noncomputable abbrev q2X:Stmt:=(top 50)
noncomputable abbrev q0Y:Stmt:=(top 51)
noncomputable abbrev qE3:Stmt:=(top 52)
set_option genInjectivity false in
structure Adr where
(f_is_whole f_is_within f_is_shape f_is_value f_is_name f_is_from_one f_check_told f_check_row f_Parts_init f_Parts_write f_Parts_read f_Parts_held f_Parts_room f_Parts_share_of f_Parts_told f_Parts_place_of f_Parts_check_part f_limits_of f_Chip_init f_Chip_put f_Chip_read f_Chip_is_dark f_Chip_cleared f_Chip_failed f_Chip_check_page f_Chip_check_block f_Chip_check_power f_Chip_check_deed f_Chip_is_spent f_Chip_do_deed f_mark_of f_bits_of f_Book_init f_Book_mark f_Book_note f_Book_forget f_Book_held f_Plain_init f_Plain_good f_Plain_free f_Plain_part f_Plain_spot f_Plain_reserve f_Plain_ready f_Plain_make_ready f_Plain_set_down f_Plain_lay f_Plain_write f_Plain_give_up f_Plain_read f_Plain_held f_Plain_check_sheet f_Plain_check_share f_Terms_init f_Terms_closed f_law_cell_at f_law_whole f_law_names f_law_table f_law_refused f_law_faulty f_law_numbers f_law_same f_law_tried f_law_step f_law_nobody f_law C_Parts C_Chip C_Book C_Plain C_Terms C_Full C_NoPart:Addr)
eG:Tok
xK:Tok
oH:Tok
i4:Addr
aA:Addr
structure Txt(K:W.Frag)(mg:Str→Option Value)(t:Adr):Prop where
oG:mg "Parts"=some (.ref t.C_Parts)
aD:Cls K t.C_Parts
aW:qN K t.C_Parts "store"
bI:qN K t.C_Parts "firsts"
aU:qN K t.C_Parts "counts"
aV:qN K t.C_Parts "shares"
tV:Meth K t.C_Parts "write" t.f_Parts_write
x9:Meth K t.C_Parts "read" t.f_Parts_read
fG:Meth K t.C_Parts "held" t.f_Parts_held
eI:Meth K t.C_Parts "room" t.f_Parts_room
bT:Meth K t.C_Parts "share_of" t.f_Parts_share_of
i7:Meth K t.C_Parts "told" t.f_Parts_told
fE:Meth K t.C_Parts "place_of" t.f_Parts_place_of
bM:Meth K t.C_Parts "check_part" t.f_Parts_check_part
oC:Mk K t.C_Parts t.f_Parts_init
aBG:mg "Chip"=some (.ref t.C_Chip)
aE:Cls K t.C_Chip
aZ:qN K t.C_Chip "blocks"
bJ:qN K t.C_Chip "pages"
xZ:qN K t.C_Chip "most"
fW:qN K t.C_Chip "limits"
bW:qN K t.C_Chip "borne"
eQ:qN K t.C_Chip "clearings"
b9:qN K t.C_Chip "deed_counts"
eL:qN K t.C_Chip "broken"
bH:qN K t.C_Chip "deeds_left"
fX:qN K t.C_Chip "record"
aAQ:Meth K t.C_Chip "put" t.f_Chip_put
aAE:Meth K t.C_Chip "read" t.f_Chip_read
tN:Meth K t.C_Chip "is_dark" t.f_Chip_is_dark
tM:Meth K t.C_Chip "cleared" t.f_Chip_cleared
tU:Meth K t.C_Chip "failed" t.f_Chip_failed
eO:Meth K t.C_Chip "check_page" t.f_Chip_check_page
eF:Meth K t.C_Chip "check_block" t.f_Chip_check_block
eD:Meth K t.C_Chip "check_power" t.f_Chip_check_power
iW:Meth K t.C_Chip "check_deed" t.f_Chip_check_deed
oY:Meth K t.C_Chip "is_spent" t.f_Chip_is_spent
tH:Meth K t.C_Chip "do_deed" t.f_Chip_do_deed
aBB:Mk K t.C_Chip t.f_Chip_init
aBF:mg "Book"=some (.ref t.C_Book)
aF:Cls K t.C_Book
tG:qN K t.C_Book "blocks"
eY:qN K t.C_Book "pages"
bV:qN K t.C_Book "stamp"
aR:qN K t.C_Book "where"
fI:qN K t.C_Book "live"
aT:qN K t.C_Book "filled"
oA:qN K t.C_Book "born"
aAL:Meth K t.C_Book "mark" t.f_Book_mark
aAJ:Meth K t.C_Book "note" t.f_Book_note
iN:Meth K t.C_Book "forget" t.f_Book_forget
aAM:Meth K t.C_Book "held" t.f_Book_held
aBD:Mk K t.C_Book t.f_Book_init
aA4:mg "Plain"=some (.ref t.C_Plain)
aB:Cls K t.C_Plain
bE:qN K t.C_Plain "chip"
aG:qN K t.C_Plain "terms"
aJ:qN K t.C_Plain "book"
iZ:Meth K t.C_Plain "good" t.f_Plain_good
i5:Meth K t.C_Plain "free" t.f_Plain_free
i3:Meth K t.C_Plain "part" t.f_Plain_part
aAC:Meth K t.C_Plain "spot" t.f_Plain_spot
oN:Meth K t.C_Plain "reserve" t.f_Plain_reserve
tZ:Meth K t.C_Plain "ready" t.f_Plain_ready
eC:Meth K t.C_Plain "make_ready" t.f_Plain_make_ready
oB:Meth K t.C_Plain "set_down" t.f_Plain_set_down
oQ:Meth K t.C_Plain "lay" t.f_Plain_lay
iJ:Meth K t.C_Plain "write" t.f_Plain_write
oX:Meth K t.C_Plain "give_up" t.f_Plain_give_up
iX:Meth K t.C_Plain "read" t.f_Plain_read
eE:Meth K t.C_Plain "held" t.f_Plain_held
bD:Meth K t.C_Plain "check_sheet" t.f_Plain_check_sheet
f9:Meth K t.C_Plain "check_share" t.f_Plain_check_share
aA7:Mk K t.C_Plain t.f_Plain_init
aA2:mg "Terms"=some (.ref t.C_Terms)
aK:Cls K t.C_Terms
bG:qN K t.C_Terms "blocks"
a9:qN K t.C_Terms "pages"
bL:qN K t.C_Terms "sheets"
bP:qN K t.C_Terms "share"
i6:qN K t.C_Terms "ill"
o0:qN K t.C_Terms "spread"
tK:Meth K t.C_Terms "closed" t.f_Terms_closed
aA0:Mk K t.C_Terms t.f_Terms_init
aAK:mg "Full"=some (.ref t.C_Full)
aA9:XCls K t.C_Full
aX:mg "NoPart"=some (.ref t.C_NoPart)
eJ:XCls K t.C_NoPart
i8:W.exmOne K (.ref t.C_Full) (.ref t.C_Full)=some true
bU:W.exmOne K (.ref t.C_NoPart) (.ref t.C_NoPart)=some true
xP:W.codeHdIn K t.i4 t.aA=true
oU:mg "is_whole"=some (.ref t.f_is_whole)
oS:W.keepIn K (.ref t.f_is_whole)=true
aH:mg "is_within"=some (.ref t.f_is_within)
aI:W.keepIn K (.ref t.f_is_within)=true
o6:mg "is_shape"=some (.ref t.f_is_shape)
oK:W.keepIn K (.ref t.f_is_shape)=true
tE:mg "is_value"=some (.ref t.f_is_value)
oW:W.keepIn K (.ref t.f_is_value)=true
aAT:mg "is_name"=some (.ref t.f_is_name)
aAS:W.keepIn K (.ref t.f_is_name)=true
f7:mg "is_from_one"=some (.ref t.f_is_from_one)
fY:W.keepIn K (.ref t.f_is_from_one)=true
t6:mg "check_told"=some (.ref t.f_check_told)
tS:W.keepIn K (.ref t.f_check_told)=true
xU:mg "check_row"=some (.ref t.f_check_row)
xR:W.keepIn K (.ref t.f_check_row)=true
xY:mg "limits_of"=some (.ref t.f_limits_of)
xV:W.keepIn K (.ref t.f_limits_of)=true
aAV:mg "mark_of"=some (.ref t.f_mark_of)
aAU:W.keepIn K (.ref t.f_mark_of)=true
aAR:mg "bits_of"=some (.ref t.f_bits_of)
aAP:W.keepIn K (.ref t.f_bits_of)=true
aM:mg "_law_cell_at"=some (.ref t.f_law_cell_at)
aN:W.keepIn K (.ref t.f_law_cell_at)=true
bR:mg "_law_whole"=some (.ref t.f_law_whole)
bS:W.keepIn K (.ref t.f_law_whole)=true
xS:mg "_law_names"=some (.ref t.f_law_names)
xT:W.keepIn K (.ref t.f_law_names)=true
xW:mg "_law_table"=some (.ref t.f_law_table)
xQ:W.keepIn K (.ref t.f_law_table)=true
tO:mg "_law_refused"=some (.ref t.f_law_refused)
tI:W.keepIn K (.ref t.f_law_refused)=true
tW:mg "_law_faulty"=some (.ref t.f_law_faulty)
xM:W.keepIn K (.ref t.f_law_faulty)=true
tJ:mg "_law_numbers"=some (.ref t.f_law_numbers)
tF:W.keepIn K (.ref t.f_law_numbers)=true
iB:mg "_law_same"=some (.ref t.f_law_same)
iE:W.keepIn K (.ref t.f_law_same)=true
xX:mg "_law_tried"=some (.ref t.f_law_tried)
x8:W.keepIn K (.ref t.f_law_tried)=true
aAG:mg "_law_step"=some (.ref t.f_law_step)
aAH:W.keepIn K (.ref t.f_law_step)=true
xN:mg "_law_nobody"=some (.ref t.f_law_nobody)
xO:W.keepIn K (.ref t.f_law_nobody)=true
i9:mg "MOST_TOLD"=some (.int 1000000 t.eG)
aAX:mg "ROLL"=some (.int 64 t.xK)
aA1:mg "NAMES"=some (.int 128 t.oH)
aBJ:mg "all"=none
aA8:mg "bool"=none
aA6:mg "int"=none
aL:mg "isinstance"=none
fO:mg "len"=none
tQ:mg "list"=none
aBH:mg "max"=none
aBK:mg "min"=none
fM:mg "range"=none
aBL:mg "set"=none
aAO:mg "sorted"=none
aBI:mg "str"=none
aAW:mg "sum"=none
aBC:mg "tuple"=none
set_option genInjectivity false
structure Fns(K:W.Frag)(t:Adr) where
oE:Fn1 K "is_whole" "is_whole" q2S t.f_is_whole ["thing"]
aO:Fn1 K "is_within" "is_within" q1B t.f_is_within ["thing","low","high"]
oI:Fn1 K "is_shape" "is_shape" q2T t.f_is_shape ["blocks","pages"]
oF:Fn1 K "is_value" "is_value" q2U t.f_is_value ["thing"]
aAD:Fn1 K "is_name" "is_name" q3Y t.f_is_name ["thing"]
eW:Fn1 K "is_from_one" "is_from_one" zZ t.f_is_from_one ["thing"]
iO:Fn1 K "check_told" "check_told" q0L t.f_check_told ["told","terms"]
oR:Fn1 K "check_row" "check_row" q1C t.f_check_row ["row"]
bZ:Fn1 K "__init__" "Parts.__init__" q0M t.f_Parts_init ["self","store","told"]
iA:Fn1 K "write" "Parts.write" q00 t.f_Parts_write ["self","name","sheet","value"]
iP:Fn1 K "read" "Parts.read" q0N t.f_Parts_read ["self","name","sheet"]
eR:Fn1 K "held" "Parts.held" q0O t.f_Parts_held ["self","name"]
bX:Fn1 K "room" "Parts.room" q0P t.f_Parts_room ["self","name"]
aY:Fn1 K "share_of" "Parts.share_of" v6 t.f_Parts_share_of ["self","name"]
fU:Fn1 K "told" "Parts.told" q0Q t.f_Parts_told ["self"]
bO:Fn1 K "place_of" "Parts.place_of" v7 t.f_Parts_place_of ["self","name","sheet"]
aS:Fn1 K "check_part" "Parts.check_part" uH t.f_Parts_check_part ["self","name"]
oO:Fn1 K "limits_of" "limits_of" q1D t.f_limits_of ["ills","blocks"]
bQ:FuncData
x6:Value
aAF:FunD K "__init__" "Chip.__init__" uM x6 t.f_Chip_init bQ
aBE:yM K bQ ["self","blocks","pages","most","ills"] []
f6:List Value
aA5:yM K bQ ["self","blocks","pages","most","ills"] f6
aA3:Vals [.non] f6
fZ:List Value
tT:yM K bQ ["self","blocks","pages","most","ills"] fZ
tX:Vals [.int 1000000,.non] fZ
tR:Fn1 K "put" "Chip.put" q2V t.f_Chip_put ["self","page","stuff"]
o8:Fn1 K "read" "Chip.read" q1E t.f_Chip_read ["self","page"]
fN:Fn1 K "is_dark" "Chip.is_dark" zL t.f_Chip_is_dark ["self"]
fL:Fn1 K "cleared" "Chip.cleared" zM t.f_Chip_cleared ["self","block"]
iG:Fn1 K "failed" "Chip.failed" q01 t.f_Chip_failed ["self","block"]
bK:Fn1 K "check_page" "Chip.check_page" uU t.f_Chip_check_page ["self","page"]
bC:Fn1 K "check_block" "Chip.check_block" uI t.f_Chip_check_block ["self","block"]
bA:Fn1 K "check_power" "Chip.check_power" uJ t.f_Chip_check_power ["self"]
eA:Fn1 K "check_deed" "Chip.check_deed" uV t.f_Chip_check_deed ["self","block"]
fD:Fn1 K "is_spent" "Chip.is_spent" vM t.f_Chip_is_spent ["self","block"]
fH:Fn1 K "do_deed" "Chip.do_deed" zN t.f_Chip_do_deed ["self","word","place","block","fails"]
aAN:Fn1 K "mark_of" "mark_of" q3Z t.f_mark_of ["stamp","name"]
aAI:Fn1 K "bits_of" "bits_of" q40 t.f_bits_of ["sheets"]
oZ:Fn1 K "__init__" "Book.__init__" q1F t.f_Book_init ["self","blocks","pages"]
o7:Fn1 K "mark" "Book.mark" q1G t.f_Book_mark ["self","name"]
oJ:Fn1 K "note" "Book.note" q1H t.f_Book_note ["self","page","name"]
fA:Fn1 K "forget" "Book.forget" q02 t.f_Book_forget ["self","name"]
oM:Fn1 K "held" "Book.held" q1I t.f_Book_held ["self"]
iQ:Fn1 K "__init__" "Plain.__init__" q0R t.f_Plain_init ["self","chip","terms"]
fQ:Fn1 K "good" "Plain.good" q0S t.f_Plain_good ["self"]
eS:FuncData
aAA:FunT K "free" "Plain.free" jZ t.i4 t.f_Plain_free eS
iY:yM K eS ["self"] []
fS:Fn1 K "part" "Plain.part" q0T t.f_Plain_part ["self"]
iS:Fn1 K "spot" "Plain.spot" q0U t.f_Plain_spot ["self"]
eT:Fn1 K "reserve" "Plain.reserve" vO t.f_Plain_reserve ["self"]
iD:Fn1 K "ready" "Plain.ready" q03 t.f_Plain_ready ["self"]
bB:Fn1 K "make_ready" "Plain.make_ready" uK t.f_Plain_make_ready ["self"]
eM:Fn1 K "set_down" "Plain.set_down" v8 t.f_Plain_set_down ["self","name","value"]
iH:Fn1 K "lay" "Plain.lay" q1J t.f_Plain_lay ["self","name","value"]
eZ:Fn1 K "write" "Plain.write" q04 t.f_Plain_write ["self","sheet","value"]
eU:Fn1 K "give_up" "Plain.give_up" vP t.f_Plain_give_up ["self","sheets"]
fR:Fn1 K "read" "Plain.read" q0V t.f_Plain_read ["self","sheet"]
bY:Fn1 K "held" "Plain.held" q0W t.f_Plain_held ["self"]
aQ:Fn1 K "check_sheet" "Plain.check_sheet" uD t.f_Plain_check_sheet ["self","sheet"]
bN:Fn1 K "check_share" "Plain.check_share" uE t.f_Plain_check_share ["self","sheet"]
bF:FuncData
tY:Value
aAB:FunD K "__init__" "Terms.__init__" uA tY t.f_Terms_init bF
aBA:yM K bF ["self","blocks","pages","sheets","share","ill","spread"] []
fJ:List Value
aAY:yM K bF ["self","blocks","pages","sheets","share","ill","spread"] fJ
aAZ:Vals [.int 1000000] fJ
fF:List Value
tL:yM K bF ["self","blocks","pages","sheets","share","ill","spread"] fF
tP:Vals [.int 0,.int 1000000] fF
fK:Fn1 K "closed" "Terms.closed" zO t.f_Terms_closed ["self"]
aP:Fn1 K "_law_cell_at" "_law_cell_at" q05 t.f_law_cell_at ["_law_script","_law_k"]
b8:Fn1 K "_law_whole" "_law_whole" q1K t.f_law_whole ["_law_found"]
o9:Fn1 K "_law_names" "_law_names" q1L t.f_law_names ["_law_cell","_law_place","_law_many"]
oP:Fn1 K "_law_table" "_law_table" q1M t.f_law_table ["_law_script","_law_start"]
iC:Fn1 K "_law_refused" "_law_refused" q06 t.f_law_refused ["_law_store","_law_told"]
iR:Fn1 K "_law_faulty" "_law_faulty" q0X t.f_law_faulty ["_law_rows","_law_cell","_law_store"]
f8:Fn1 K "_law_numbers" "_law_numbers" q07 t.f_law_numbers ["_law_found","_law_due"]
iK:Fn1 K "_law_same" "_law_same" q2W t.f_law_same ["_law_store","_law_parts","_law_mine","_law_row"]
tD:Fn1 K "_law_tried" "_law_tried" q1N t.f_law_tried ["_law_store","_law_parts","_law_ask"]
xL:Fn1 K "_law_step" "_law_step" q2X t.f_law_step ["_law_store","_law_parts","_law_mine","_law_number"]
iU:Fn1 K "_law_nobody" "_law_nobody" q0Y t.f_law_nobody ["_law_store","_law_name"]
law:Fn1 K "law" "law" qE3 t.f_law ["_law_script"]
structure HkE where
P:Program
w:World
K:W.Frag
mg:Str→Option Value
t:Adr
noncomputable def hkB(e:HkE):Prop:=∃(S:Fns e.K e.t) (base:Heap),Txt e.K e.mg e.t∧BmIn base e.mg∧¬S.law.Ok0 e.P e.w e.mg base 16 (q3T e.K [e.t.aA])
instance:Nonempty HkE:=⟨⟨PySem.Challenge.pw_wornpages_k81_where_parts_lie,⟨λ_ _=>0,{ strHash:=λ_=>0,shareClass:=λ_=>0,mergeTok:=id,idOf:=λ_=>0,idOfShared:=λ_ _=>0,followText:=λ_=>false,idOfImm:=λ_=>0 }⟩,[],λ_=>none,by constructor<;>exact(0:Nat)⟩⟩
@[irreducible] noncomputable def hkE:HkE:=Classical.epsilon hkB
noncomputable def P:Program:=hkE.P
noncomputable def w:World:=hkE.w
noncomputable def K:W.Frag:=hkE.K
noncomputable def mg:Str→Option Value:=hkE.mg
noncomputable def t:Adr:=hkE.t
section
variable{base:Heap}
theorem q9R:FnScope ["thing"] ["thing"] (qH q2S):=qW (by decide+kernel)
theorem q87:FnScope ["thing","low","high"] ["thing","low","high"] (qH q1B):=qW (by decide+kernel)
theorem q9S:FnScope ["blocks","pages"] ["blocks","pages"] (qH q2T):=qW (by decide+kernel)
theorem q9T:FnScope ["thing"] ["thing"] (qH q2U):=qW (by decide+kernel)
theorem qAM:FnScope ["thing"] ["thing"] (qH q3Y):=qW (by decide+kernel)
theorem q5W:FnScope ["thing"] ["thing"] (qH zZ):=qW (by decide+kernel)
theorem q2G:FnScope ["told","terms","row"] ["told","terms"] (qH q0L):=qW (by decide+kernel)
theorem q88:FnScope ["row"] ["row"] (qH q1C):=qW (by decide+kernel)
theorem yX:FnScope ["self","store","told","first","name","sheets","share"] ["self","store","told"] (qH q0M):=qW (by decide+kernel)
theorem q1O:FnScope ["self","name","sheet","value","place"] ["self","name","sheet","value"] (qH q00):=qW (by decide+kernel)
theorem q6H:FnScope ["self","name","sheet"] ["self","name","sheet"] (qH q0N):=qW (by decide+kernel)
theorem q2H:FnScope ["self","name","first"] ["self","name"] (qH q0O):=qW (by decide+kernel)
theorem q6I:FnScope ["self","name"] ["self","name"] (qH q0P):=qW (by decide+kernel)
theorem q3J:FnScope ["self","name"] ["self","name"] (qH v6):=qW (by decide+kernel)
theorem q6J:FnScope ["self"] ["self"] (qH q0Q):=qW (by decide+kernel)
theorem q3K:FnScope ["self","name","sheet"] ["self","name","sheet"] (qH v7):=qW (by decide+kernel)
theorem q28:FnScope ["self","name"] ["self","name"] (qH uH):=qW (by decide+kernel)
theorem zB:FnScope ["ills","blocks","limits","block","deeds"] ["ills","blocks"] (qH q1D):=qW (by decide+kernel)
theorem q89:FnScope ["self","blocks","pages","most","ills"] ["self","blocks","pages","most","ills"] (qH uM):=qW (by decide+kernel)
theorem q4D:FnScope ["self","page","stuff","block"] ["self","page","stuff"] (qH q2V):=qW (by decide+kernel)
theorem q8A:FnScope ["self","page"] ["self","page"] (qH q1E):=qW (by decide+kernel)
theorem q4J:FnScope ["self"] ["self"] (qH zL):=qW (by decide+kernel)
theorem q4K:FnScope ["self","block"] ["self","block"] (qH zM):=qW (by decide+kernel)
theorem q5X:FnScope ["self","block"] ["self","block"] (qH q01):=qW (by decide+kernel)
theorem q2Y:FnScope ["self","page"] ["self","page"] (qH uU):=qW (by decide+kernel)
theorem q29:FnScope ["self","block"] ["self","block"] (qH uI):=qW (by decide+kernel)
theorem q2A:FnScope ["self"] ["self"] (qH uJ):=qW (by decide+kernel)
theorem q2Z:FnScope ["self","block"] ["self","block"] (qH uV):=qW (by decide+kernel)
theorem q41:FnScope ["self","block"] ["self","block"] (qH vM):=qW (by decide+kernel)
theorem q4L:FnScope ["self","word","place","block","fails"] ["self","word","place","block","fails"] (qH zN):=qW (by decide+kernel)
theorem qAN:FnScope ["stamp","name"] ["stamp","name"] (qH q3Z):=qW (by decide+kernel)
theorem q0Z:FnScope ["sheets","bits","sheet"] ["sheets"] (qH q40):=qW (by decide+kernel)
theorem q8B:FnScope ["self","blocks","pages"] ["self","blocks","pages"] (qH q1F):=qW (by decide+kernel)
theorem q8C:FnScope ["self","name"] ["self","name"] (qH q1G):=qW (by decide+kernel)
theorem q3L:FnScope ["self","page","name","block"] ["self","page","name"] (qH q1H):=qW (by decide+kernel)
theorem q1P:FnScope ["self","name","page"] ["self","name"] (qH q02):=qW (by decide+kernel)
theorem q8D:FnScope ["self"] ["self"] (qH q1I):=qW (by decide+kernel)
theorem q6K:FnScope ["self","chip","terms"] ["self","chip","terms"] (qH q0R):=qW (by decide+kernel)
theorem q6L:FnScope ["self"] ["self"] (qH q0S):=qW (by decide+kernel)
theorem q2I:FnScope ["self","clear"] ["self"] (qH jZ):=qW (by decide+kernel)
theorem q2J:FnScope ["self","block"] ["self"] (qH q0T):=qW (by decide+kernel)
theorem q08:FnScope ["self","part","free"] ["self"] (qH q0U):=qW (by decide+kernel)
theorem q42:FnScope ["self"] ["self"] (qH vO):=qW (by decide+kernel)
theorem q1Q:FnScope ["self","spare"] ["self"] (qH q03):=qW (by decide+kernel)
theorem q2B:FnScope ["self"] ["self"] (qH uK):=qW (by decide+kernel)
theorem zU:FnScope ["self","name","value","page"] ["self","name","value"] (qH v8):=qW (by decide+kernel)
theorem q8E:FnScope ["self","name","value"] ["self","name","value"] (qH q1J):=qW (by decide+kernel)
theorem q5Y:FnScope ["self","sheet","value"] ["self","sheet","value"] (qH q04):=qW (by decide+kernel)
theorem yR:FnScope ["self","sheets","sheet","held","gone"] ["self","sheets"] (qH vP):=qW (by decide+kernel)
theorem q6M:FnScope ["self","sheet"] ["self","sheet"] (qH q0V):=qW (by decide+kernel)
theorem q6N:FnScope ["self"] ["self"] (qH q0W):=qW (by decide+kernel)
theorem q1R:FnScope ["self","sheet"] ["self","sheet"] (qH uD):=qW (by decide+kernel)
theorem vL:FnScope ["self","sheet","held"] ["self","sheet"] (qH uE):=qW (by decide+kernel)
theorem q6O:FnScope ["self","blocks","pages","sheets","share","ill","spread"] ["self","blocks","pages","sheets","share","ill","spread"] (qH uA):=qW (by decide+kernel)
theorem q4M:FnScope ["self"] ["self"] (qH zO):=qW (by decide+kernel)
theorem q5Z:FnScope ["_law_script","_law_k"] ["_law_script","_law_k"] (qH q05):=qW (by decide+kernel)
theorem q8F:FnScope ["_law_found"] ["_law_found"] (qH q1K):=qW (by decide+kernel)
theorem y3:FnScope ["_law_cell","_law_place","_law_many","_law_letters","_law_size","_law_base","_law_names_here","_law_k","_law_word","_law_j","_law_step_here"] ["_law_cell","_law_place","_law_many"] (qH q1L):=qW (by decide+kernel)
theorem uB:FnScope ["_law_script","_law_start","_law_many","_law_names_here","_law_rows","_law_k","_law_cell"] ["_law_script","_law_start"] (qH q1M):=qW (by decide+kernel)
theorem uW:FnScope ["_law_store","_law_told","_law_outcome","_law_kept"] ["_law_store","_law_told"] (qH q06):=qW (by decide+kernel)
theorem jI:FnScope ["_law_rows","_law_cell","_law_store","_law_at","_law_name","_law_sheets","_law_share","_law_tail","_law_bad","_law_number","_law_wide","_law_deep","_law_some"] ["_law_rows","_law_cell","_law_store"] (qH q0X):=qW (by decide+kernel)
theorem q60:FnScope ["_law_found","_law_due"] ["_law_found","_law_due"] (qH q07):=qW (by decide+kernel)
theorem yT:FnScope ["_law_store","_law_parts","_law_mine","_law_row","_law_name","_law_sheets","_law_share","_law_first","_law_held","_law_sheet","_law_due"] ["_law_store","_law_parts","_law_mine","_law_row"] (qH q2W):=qW (by decide+kernel)
theorem yW:FnScope ["_law_store","_law_parts","_law_ask","_law_outcome","_law_found"] ["_law_store","_law_parts","_law_ask"] (qH q1N):=qW (by decide+kernel)
theorem jM:FnScope ["_law_store","_law_parts","_law_mine","_law_number","_law_name","_law_sheets","_law_share","_law_ask","_law_first","_law_spot","_law_there","_law_full","_law_held","_law_outcome","_law_found"] ["_law_store","_law_parts","_law_mine","_law_number"] (qH q2X):=qW (by decide+kernel)
theorem q09:FnScope ["_law_store","_law_name","_law_outcome"] ["_law_store","_law_name"] (qH q0Y):=qW (by decide+kernel)
theorem yS:FnScope ["_law_script","_law_rows","_law_firsts","_law_first","_law_name","_law_sheets","_law_share","_law_wide","_law_deep","_law_blocks","_law_store","_law_mine","_law_handed","_law_parts","_law_cell","_law_number","_law_again","_law_row","_law_told"] ["_law_script"] (qH qE3):=qW (by decide+kernel)
local macro_rules| `(tactic|walk_at "r")=>`(tactic|repeat (first|with_reducible refine⟨_,rfl,?_⟩|refine⟨_,rfl,?_⟩|refine(iI ?_)))
theorem q4E(T:Txt K mg t)(S:Fns K t):S.oE.Ok0 P w mg base 1 qB1:=by(
refine S.oE.F.ok0 q9R λcdv A _ s H vs Q E hr h=>?_
obtain⟨x,rfl,kn,k⟩:=h
refine⟨_,(qD (qO (uP (qU jY (by rfl) T.aL (by kernel_rfl) (qA (pv 0) (qA (vA rfl T.aA6 (by kernel_rfl) rfl (v:=.ty "int")) qC))) (uZ (q7U (qU jY (by rfl) T.aL (by kernel_rfl) (qA (pv 0) (qA (vA rfl T.aA8 (by kernel_rfl) rfl (v:=.ty "bool")) qC)))))))),?_⟩
try dsimp-beta-proj-iota-zeta-eta only[wishK,cxK]
obtain⟨ty,q,e1,e2,_⟩:=kn.ty (K:=K)
refine⟨_,rfl,x,_,_,ty,_,rfl,rfl,.inl q,e1,_,rfl,?_⟩
have z:=qD5 x
cases qi:isI x with
|true=>rw[qi,kG rfl]at z;refine iteT ?_;refine⟨_,rfl,x,_,_,ty,_,rfl,rfl,.inl q,e2,_,rfl,?_⟩;rw[z];exact k
|false=>rw[qi]at z;refine iteF ?_;have z':false=isW x:=z;rw[z'];exact k)
theorem jO(T:Txt K mg t)(S:Fns K t):S.aO.Ok0 P w mg base 2 qD7:=by(
refine S.aO.F.ok0 q87 λcdv A _ s H vs Q E hr h=>?_
obtain⟨x,lo,hi,rfl,kn,k⟩:=h
refine⟨_,(qD (qO (uP (qT (q4E T S).mono hr rfl T.oU T.oS S.oE.b .nil qL (qA (pv 0) qC)) (uZ (q90 q8Y q8Y (pv 1) (pv 0) (pv 2)))))),?_⟩
try dsimp-beta-proj-iota-zeta-eta only[wishK,cxK]
refine⟨_,rfl,x,rfl,kn,_,rfl,?_⟩
cases x with
|int i=>
 refine iteT ?_;refine⟨_,rfl,_,rfl,_,_,rfl,rfl,_,rfl,?_⟩;have k':Q (V.bl (decide (lo≤i)&&decide (i≤hi))) H:=k;by_cases h1:lo≤i
 ·rw[hI h1]at k' ⊢;refine iteT ?_;exact⟨_,rfl,_,_,rfl,rfl,k'⟩
 rw[hG h1]at k' ⊢;refine iteF ?_;exact k'
|_=>exact iteF k)
theorem q4F(T:Txt K mg t)(S:Fns K t):S.oI.Ok0 P w mg base 3 qEU:=by(
refine S.oI.F.ok0 q9S λcdv A _ s H vs Q E hr h=>?_
obtain⟨x,y,rfl,kx,ky,k⟩:=h
refine⟨_,(qD (qO (uP (qT (jO T S).mono hr rfl T.aH T.aI S.aO.b .nil qL (qA (pv 0) (qA qI (qA qI qC)))) (uZ (qT (jO T S).mono hr rfl T.aH T.aI S.aO.b .nil qL (qA (pv 1) (qA qI (qA qI qC)))))))),?_⟩
try dsimp-beta-proj-iota-zeta-eta only[wishK,cxK]
refine⟨_,rfl,x,_,_,rfl,kx,_,rfl,?_⟩
cases q:inB x 2 16 with
|true=>rw[q]at k;refine iteT ⟨_,rfl,y,_,_,rfl,ky,k⟩
|false=>rw[q]at k;exact iteF k)
structure Gd(m:CM):Prop where
lf:m.lf=none
br:∀b,m.br.getD b false=false
li:∀b,valV m.lim (Sum.inl b)=none
theorem inBi{v lo hi:Int}(h1:lo≤v)(h2:v≤hi):inB (.int v) lo hi=true:=by show(decide (lo≤v)&&decide (v≤hi))=true;rw[hI h1,hI h2];rfl
noncomputable def putC(m:CM)(p:Nat)(st:V):CM:={ m.deed "put" (p:Int) ((p:Int) / m.pg) false with bo:=m.bo.set p st }
noncomputable def spCP(t:Adr):Sp:=λvs H Q E=>∃c a m,∃p:Int,vs=[.ref c,.int p]∧ChipAt t.C_Chip H c a m∧m.Ok∧0≤p∧p≤m.bl*m.pg-1∧Q .non H
theorem zP(T:Txt K mg t)(S:Fns K t):S.bK.Ok0 P w mg base 3 (spCP t):=by(
refine S.bK.F.ok0 q2Y λcdv A _ s H vs Q E hr h=>?_
obtain⟨c,a,m,p,rfl,hc,ok,p0,p1,q⟩:=h
refine⟨_,(qD (jA (jJ (jF (qT (jO T S).mono hr rfl T.aH T.aI S.aO.b .nil qL (qA (pv 1) (qA qI (qA (qP uC (qP zW (qJ (pv 0) rfl) (qJ (pv 0) rfl)) qI) qC)))))) (qD jD) qM)),?_⟩
try dsimp-beta-proj-iota-zeta-eta only[wishK,cxK]
have b1:=ok.bl1
have b2:=ok.bl2
refine⟨_,rfl,_,rfl,c,_,a.dx,_,_,rfl,hc.ins,T.aE,T.aZ,rfl,_,rfl,c,_,a.dx,_,_,rfl,hc.ins,T.aE,T.bJ,rfl,?_⟩
refine⟨_,_,rfl,rfl,.inl ⟨by lia,by lia⟩,_,_,rfl,rfl,.int p,_,_,rfl,.int p,_,rfl,?_⟩
rw[inBi p0 p1]
exact iteF q)
noncomputable def spCB(t:Adr):Sp:=λvs H Q E=>∃c a m,∃p:Int,vs=[.ref c,.int p]∧ChipAt t.C_Chip H c a m∧0≤p∧p≤m.bl-1∧Q .non H
theorem vS(T:Txt K mg t)(S:Fns K t):S.bC.Ok0 P w mg base 3 (spCB t):=by(
refine S.bC.F.ok0 q29 λcdv A _ s H vs Q E hr h=>?_
obtain⟨c,a,m,p,rfl,hc,p0,p1,q⟩:=h
refine⟨_,(qD (jA (jJ (jF (qT (jO T S).mono hr rfl T.aH T.aI S.aO.b .nil qL (qA (pv 1) (qA qI (qA (qP uC (qJ (pv 0) rfl) qI) qC)))))) (qD jD) qM)),?_⟩
try dsimp-beta-proj-iota-zeta-eta only[wishK,cxK]
refine⟨_,rfl,_,rfl,c,_,a.dx,_,_,rfl,hc.ins,T.aE,T.aZ,rfl,_,_,rfl,rfl,.int p,_,_,rfl,.int p,_,rfl,?_⟩
rw[inBi p0 p1]
exact iteF q)
noncomputable def spID(t:Adr):Sp:=λvs H Q E=>∃c a m,vs=[.ref c]∧ChipAt t.C_Chip H c a m∧Q (.bl (decide (m.lf=some 0))) H
theorem q4N(T:Txt K mg t)(S:Fns K t):S.fN.Ok0 P w mg base 1 (spID t):=by(
refine S.fN.F.ok0 q4J λcdv A _ s H vs Q E hr h=>?_
obtain⟨c,a,m,rfl,hc,q⟩:=h
refine⟨_,(qD (qO (yP vG (qJ (pv 0) rfl) qI (qX _)))),?_⟩
try dsimp-beta-proj-iota-zeta-eta only[wishK,cxK]
refine⟨_,rfl,c,_,a.dx,_,_,rfl,hc.ins,T.aE,T.bH,rfl,qET,?_⟩
rw[lf0]
exact q)
noncomputable def spPW(t:Adr):Sp:=λvs H Q E=>∃c a m,vs=[.ref c]∧ChipAt t.C_Chip H c a m∧m.lf=none∧Q .non H
theorem vT(T:Txt K mg t)(S:Fns K t):S.bA.Ok0 P w mg base 2 (spPW t):=by(
refine S.bA.F.ok0 q2A λcdv A _ s H vs Q E hr h=>?_
obtain⟨c,a,m,rfl,hc,hl,q⟩:=h
refine⟨_,(qD (jA (jF (jK (pv 0) T.aE T.tN (q4N T S).mono hr S.fN.b .nil qL)) (qD jD) qM)),?_⟩
try dsimp-beta-proj-iota-zeta-eta only[wishK,cxK]
refine⟨_,rfl,c,a.dx,_,rfl,hc.ins,rfl,c,a,m,rfl,hc,_,rfl,?_⟩
rw[hl]
exact iteF q)
noncomputable def spCD(t:Adr):Sp:=λvs H Q E=>∃c a m b,vs=[.ref c,.int b]∧ChipAt t.C_Chip H c a m∧m.Ok∧Gd m∧0≤b∧b<m.bl∧Q .non H
theorem q30(T:Txt K mg t)(S:Fns K t):S.eA.Ok0 P w mg base 3 (spCD t):=by(
refine S.eA.F.ok0 q2Z λcdv A _ s H vs Q E hr h=>?_
obtain⟨c,a,m,b,rfl,hc,ok,g,b0,b1,q⟩:=h
refine⟨_,(qB (jC (jK (pv 0) T.aE T.eD (vT T S).mono hr S.bA.b .nil qL)) (qD (jA (jF (yJ jX (qJ (pv 0) rfl) (pv 1) (λ_ _=>rfl))) (qD jD) qM))),?_⟩
try dsimp-beta-proj-iota-zeta-eta only[wishK,cxK]
have nb:=ok.nbr
refine⟨_,rfl,c,a.dx,_,rfl,hc.ins,rfl,c,a,m,rfl,hc,g.lf,?_⟩
refine⟨_,rfl,c,_,a.dx,_,_,rfl,hc.ins,T.aE,T.eL,rfl,_,rfl,a.br,_,b,_,rfl,rfl,SqL.of hc.br,getB b0 (by lia),_,rfl,?_⟩
rw[g.br]
exact iteF q)
noncomputable def spIS(t:Adr):Sp:=λvs H Q E=>∃c a m b,vs=[.ref c,.int b]∧ChipAt t.C_Chip H c a m∧Gd m∧Q (.bl false) H
theorem q43(T:Txt K mg t)(S:Fns K t):S.fD.Ok0 P w mg base 1 (spIS t):=by(
refine S.fD.F.ok0 q41 λcdv A _ s H vs Q E hr h=>?_
obtain⟨c,a,m,b,rfl,hc,g,q⟩:=h
have hu:=vR hr
refine⟨_,(qD (qO (uP (qCK (q5E hu (pv 1) (qJ (pv 0) rfl))) (uZ (yP q8Z (yJ jX (qJ (pv 0) rfl) (pv 1) (λ_ _=>rfl)) (qZ hu (qJ (pv 0) rfl) (pv 1) (λ_ _=>rfl)) (qX _)))))),?_⟩
try dsimp-beta-proj-iota-zeta-eta only[wishK,cxK]
refine⟨_,rfl,_,rfl,c,_,a.dx,_,_,rfl,hc.ins,T.aE,T.fW,rfl,a.li,_,rfl,DGet.k (k:=Sum.inl b) hc.li,_,rfl,?_⟩
rw[g.li]
exact iteF q)
noncomputable def spDD(t:Adr):Sp:=λvs H Q E=>∃c a m w pl b,vs=[.ref c,.str w,.int pl,.int b,.bl false]∧ChipAt t.C_Chip H c a m∧m.Ok∧m.lf=none∧m.rc.length<1000000∧0≤b∧b<m.bl∧∀H',ChipAt t.C_Chip H' c a (m.deed w pl b false)→Keep (foot c a) H H'→Q .non H'
theorem q4O(T:Txt K mg t)(S:Fns K t):S.fH.Ok0 P w mg base 3 (spDD t):=by(
refine S.fH.F.ok0 q4L λcdv A _ s H vs Q E hr h=>?_
obtain⟨c,a,m,w,pl,b,rfl,hc,ok,hl,hr1,b0,b1,q⟩:=h
refine⟨_,(qB (jA (qY q4S (qJ (pv 0) rfl) uO (qX _)) (qD jD) qM) (qB (q4R (qJ (pv 0) rfl) (pv 3) q35 qI q7V q0C) (qB (jC (qCZ g6 rX rY q1Z (qJ (pv 0) rfl) (qA (q0I (qA (pv 1) (qA (pv 2) (qA (q7U (pv 4)) qC)))) qC yZ))) (qD (jA (jF (pv 4)) (qB jD (qD jD)) qM))))),?_⟩
try dsimp-beta-proj-iota-zeta-eta only[wishK,cxK]
have nd:=ok.ndc
refine⟨_,rfl,c,_,a.dx,_,_,rfl,hc.ins,T.aE,T.bH,rfl,rfl,_,rfl,?_⟩
rw[show lfV m.lf=V.non from by rw[hl];rfl]
refine iteF ?_
have hc1:ChipAt t.C_Chip H c a { m with lf:=m.lf.map (· - 1) }:=by rw[hl];show ChipAt t.C_Chip H c a { m with lf:=none };rw[←hl];exact hc
refine⟨_,rfl,c,_,a.dx,_,_,rfl,hc.ins,T.aE,T.b9,rfl,_,rfl,a.dc,_,b,_,rfl,rfl,SqL.of hc.dc,getI b0 (by lia),_,_,rfl,rfl,a.dc,_,b,b.toNat,rfl,rfl,hc.dc,by rw[hV];exact ixOk b0 (by lia),?_⟩
rw[←xE]
have hc2:=hc1.setDc (m.dc.set b.toNat (m.dc.getD b.toNat 0+1))
have k2:Keep (foot c a) H (upd H a.dc (.lst ((m.dc.set b.toNat (m.dc.getD b.toNat 0+1)).map V.int))):=Keep.upd hc.dc (λ_ z=>by cases z) (by simp[foot])
generalize upd H a.dc (.lst ((m.dc.set b.toNat (m.dc.getD b.toNat 0+1)).map V.int))=H2 at hc2 k2 ⊢
obtain⟨rs,er,pr⟩:=hc2.rc
have ln:rs.length≤1000000:=by rw[pr.len];exact cC hr1
refine⟨_,rfl,c,_,a.dx,_,_,rfl,hc2.ins,T.aE,T.fX,rfl,.inl ⟨rfl,_,SqL.of er⟩,_,rfl,_,rfl,_,rfl,_,rfl,sz3,λp H3 np sm hp=>?_⟩
have er3:=sm _ _ er
refine⟨a.rc,rs,_,rfl,rfl,er3,cJ ln (by decide),?_⟩
exact⟨_,rfl,_,rfl,iteF (q _ ((hc2.same sm).addRc (d:=(w,pl,!false)) er3 hp) ((k2.trans (Keep.same sm)).trans (Keep.upd (o:=.lst (rs++[.ref p])) er3 (λ_ z=>by cases z) (by simp[foot]))))⟩)
noncomputable def qJ8(t:Adr):Sp:=λvs H Q E=>∃c a m,∃p:Nat,∃st,vs=[.ref c,.int (p:Int),st]∧ChipAt t.C_Chip H c a m∧m.Ok∧m.rc.length<1000000∧Gd m∧(p:Int)≤m.bl*m.pg-1∧m.bo.getD p .non=.non∧∀H',ChipAt t.C_Chip H' c a (putC m p st)→Keep (foot c a) H H'→Q .non H'
theorem q9U(T:Txt K mg t)(S:Fns K t):S.tR.Ok0 P w mg base 4 (qJ8 t):=by(
refine S.tR.F.ok0 q4D λcdv A _ s H vs Q E hr h=>?_
obtain⟨c,a,m,p,st,rfl,hc,ok,hr1,g,p1,hw,q⟩:=h
refine⟨_,(qB (jC (jG (pv 0) T.aE T.eO (zP T S).mono hr S.bK.b .nil qL (qA (pv 1) qC))) (qB (qS (i:=3) q4D.nd rfl (Or.inl rfl) (qP u7 (pv 1) (qJ (pv 0) rfl))) (qB (jC (jG (pv 0) T.aE T.iW (q30 T S).mono hr S.eA.b .nil qL (qA (pv 3) qC))) (qB (jA (qY q4S (yJ jX (qJ (pv 0) rfl) (pv 1) (λ_ _=>rfl)) uO (qX _)) (qD jD) qM) (qB (jC (jG (pv 0) T.aE T.tH (q4O T S).mono hr S.fH.b .nil qL (qA qQ (qA (pv 1) (qA (pv 3) (qA (jG (pv 0) T.aE T.oY (q43 T S).mono hr S.fD.b .nil qL (qA (pv 3) qC)) qC)))))) (qD (q3O (pv 2) (qCM (qJ (pv 0) rfl) (pv 1) q0C)))))))),?_⟩
try dsimp-beta-proj-iota-zeta-eta only[wishK,cxK]
have pg1:=ok.pg1
have pg2:=ok.pg2
have nbo:=ok.nbo
have p0:(0:Int)≤p:=by lia
obtain⟨b0,b1⟩:=qHL ok p0 p1
refine⟨_,rfl,c,a.dx,_,rfl,hc.ins,rfl,_,rfl,c,a,m,p,rfl,hc,ok,p0,p1,?_⟩
refine⟨_,rfl,_,rfl,c,_,a.dx,_,_,rfl,hc.ins,T.aE,T.bJ,rfl,_,_,rfl,rfl,⟨by lia,by lia⟩,?_⟩
refine⟨_,rfl,c,a.dx,_,rfl,hc.ins,rfl,_,rfl,c,a,m,_,rfl,hc,ok,g,b0,b1,?_⟩
refine⟨_,rfl,c,_,a.dx,_,_,rfl,hc.ins,T.aE,T.bW,rfl,_,rfl,a.bo,_,p,_,rfl,rfl,SqL.of hc.bo,getV p0 (by lia),rfl,_,rfl,?_⟩
rw[mL,hI hw]
refine iteF ?_
refine⟨_,rfl,c,a.dx,_,rfl,hc.ins,rfl,_,rfl,_,rfl,_,rfl,c,a.dx,_,rfl,hc.ins,rfl,_,rfl,c,a,m,_,rfl,hc,g,?_⟩
refine⟨c,a,m,"put",p,_,rfl,hc,ok,g.lf,hr1,b0,b1,λH' hc' k'=>?_⟩
refine⟨_,rfl,_,rfl,c,_,a.dx,_,_,rfl,hc'.ins,T.aE,T.bW,rfl,_,rfl,a.bo,_,p,p,rfl,rfl,hc'.bo,ixOk p0 (by show(p:Int)<(m.bo.length:Int);lia),?_⟩
exact q _ (hc'.setBo (m.bo.set p st)) (k'.trans (Keep.upd hc'.bo (λ_ z=>by cases z) (by simp[foot]))))
noncomputable def qI0(t:Adr):Sp:=λvs H Q E=>∃c a m,∃p:Int,vs=[.ref c,.int p]∧ChipAt t.C_Chip H c a m∧m.Ok∧m.lf=none∧0≤p∧p≤m.bl*m.pg-1∧Q (m.bo.getD p.toNat .non) H
theorem q8G(T:Txt K mg t)(S:Fns K t):S.o8.Ok0 P w mg base 4 (qI0 t):=by(
refine S.o8.F.ok0 q8A λcdv A _ s H vs Q E hr h=>?_
obtain⟨c,a,m,p,rfl,hc,ok,hl,p0,p1,q⟩:=h
refine⟨_,(qB (jC (jG (pv 0) T.aE T.eO (zP T S).mono hr S.bK.b .nil qL (qA (pv 1) qC))) (qB (jC (jK (pv 0) T.aE T.eD (vT T S).mono hr S.bA.b .nil qL)) (qD (qO (yJ jX (qJ (pv 0) rfl) (pv 1) (λ_ _=>rfl)))))),?_⟩
try dsimp-beta-proj-iota-zeta-eta only[wishK,cxK]
have nbo:=ok.nbo
exact⟨_,rfl,c,a.dx,_,rfl,hc.ins,rfl,_,rfl,c,a,m,p,rfl,hc,ok,p0,p1,_,rfl,c,a.dx,_,rfl,hc.ins,rfl,c,a,m,rfl,hc,hl,_,rfl,c,_,a.dx,_,_,rfl,hc.ins,T.aE,T.bW,rfl,_,rfl,a.bo,_,p,_,rfl,rfl,SqL.of hc.bo,getV p0 (by lia),q⟩)
noncomputable def spCl(t:Adr):Sp:=λvs H Q E=>∃c a m b,vs=[.ref c,.int b]∧ChipAt t.C_Chip H c a m∧m.Ok∧0≤b∧b≤m.bl-1∧Q (.int (m.cl.getD b.toNat 0)) H
theorem q4P(T:Txt K mg t)(S:Fns K t):S.fL.Ok0 P w mg base 4 (spCl t):=by(
refine S.fL.F.ok0 q4K λcdv A _ s H vs Q E hr h=>?_
obtain⟨c,a,m,b,rfl,hc,ok,b0,b1,q⟩:=h
refine⟨_,(qB (jC (jG (pv 0) T.aE T.eF (vS T S).mono hr S.bC.b .nil qL (qA (pv 1) qC))) (qD (qO (yJ jX (qJ (pv 0) rfl) (pv 1) (λ_ _=>rfl))))),?_⟩
try dsimp-beta-proj-iota-zeta-eta only[wishK,cxK]
have n:=ok.ncl
exact⟨_,rfl,c,a.dx,_,rfl,hc.ins,rfl,_,rfl,c,a,m,b,rfl,hc,b0,b1,_,rfl,c,_,a.dx,_,_,rfl,hc.ins,T.aE,T.eQ,rfl,_,rfl,a.cl,_,b,_,rfl,rfl,SqL.of hc.cl,getI b0 (by lia),q⟩)
noncomputable def spFa(t:Adr):Sp:=λvs H Q E=>∃c a m b,vs=[.ref c,.int b]∧ChipAt t.C_Chip H c a m∧m.Ok∧0≤b∧b≤m.bl-1∧Q (.bl (m.br.getD b.toNat false)) H
theorem q61(T:Txt K mg t)(S:Fns K t):S.iG.Ok0 P w mg base 4 (spFa t):=by(
refine S.iG.F.ok0 q5X λcdv A _ s H vs Q E hr h=>?_
obtain⟨c,a,m,b,rfl,hc,ok,b0,b1,q⟩:=h
refine⟨_,(qB (jC (jG (pv 0) T.aE T.eF (vS T S).mono hr S.bC.b .nil qL (qA (pv 1) qC))) (qD (qO (yJ jX (qJ (pv 0) rfl) (pv 1) (λ_ _=>rfl))))),?_⟩
try dsimp-beta-proj-iota-zeta-eta only[wishK,cxK]
have n:=ok.nbr
exact⟨_,rfl,c,a.dx,_,rfl,hc.ins,rfl,_,rfl,c,a,m,b,rfl,hc,b0,b1,_,rfl,c,_,a.dx,_,_,rfl,hc.ins,T.aE,T.eL,rfl,_,rfl,a.br,_,b,_,rfl,rfl,SqL.of hc.br,getB b0 (by lia),q⟩)
noncomputable def qJ9(K:W.Frag):Sp:=λvs H Q E=>∃l bl,vs=[.ref l,.int bl]∧SqL K H l []∧NewO H (.dK []) Q
theorem q8H(T:Txt K mg t)(S:Fns K t):S.oO.Ok0 P w mg base 3 (qJ9 K):=by(
refine S.oO.F.ok0 zB λcdv A _ s H vs Q E hr h=>?_
obtain⟨l,bl,rfl,sq,q⟩:=h
refine⟨_,(qB (qS (i:=2) zB.nd rfl (Or.inl rfl) zG) (qB (uQ gE rfl (jW (pv 0)) (q12 rfl (jN (qR (i:=3) zB.nd rfl (Or.inl rfl)) (jN (qR (i:=4) zB.nd rfl (Or.inl rfl)) zS))) (qB jD (qB jD (qB jD (qD jD))))) (qD (qO (pv 2))))),?_⟩
try dsimp-beta-proj-iota-zeta-eta only[wishK,cxK]
refine λp np=>?_
have s0:Same H (upd H p (.dK [])):=Same.upd np
refine⟨_,rfl,l,rfl,⟨[],s0.seq sq⟩,vE (K:=K) (xs:=[]) (λ_ σ' H1=>(∃y z,σ'=[some (.ref l),some (.int bl),some (.ref p),y,z])∧H1=upd H p (.dK [])) ⟨⟨_,_,rfl⟩,rfl⟩ (λi σ' H1 _ hp=>by rw[hp.2];exact s0.seq sq) (λi x σ' H1 hx _=>by simp at hx) (λσ' H1 hp=>?_)⟩
obtain⟨⟨y,z,rfl⟩,rfl⟩:=hp
exact⟨_,rfl,q p _ np s0 qG⟩)
structure Wm(C x dx:Addr)(H G:Hp)(fs:List (Str×V))(os:List (Addr×HO)):Prop where
i:G x=some (.ins C dx fs)
u:Up x H G
o:∀p∈os,G p.1=some p.2∧H p.1=none∧p.1≠x
n:(os.map (·.1)).Nodup
section
variable{C x dx:Addr}{H G B:Hp}{fs fs':List (Str×V)}{os:List (Addr×HO)}
theorem Wm.same(h:Wm C x dx H G fs os)(s:Same G B):Wm C x dx H B fs os:=⟨s _ _ h.i,λb o n e=>s _ _ (h.u b o n e),λp hp=>⟨s _ _ (h.o p hp).1,(h.o p hp).2⟩,h.n⟩
theorem Wm.add(h:Wm C x dx H G fs os){a:Addr}{o:HO}(na:G a=none)(s:Same G B)(e:B a=some o):Wm C x dx H B fs (os++[(a,o)]):=by(
have ax:a≠x:=λz=>by rw[z,h.i]at na;cases na
have w:=h.same s
refine⟨w.i,w.u,λp hp=>?_,?_⟩
·rcases gA.mp hp with hp|hp
 ·exact w.o p hp
 rw[kF.mp hp];exact⟨e,Up.free h.u ax na,ax⟩
rw[kX]
refine dR.mpr ⟨h.n,by simp,λb hb c hc=>?_⟩
obtain⟨p,hp,rfl⟩:=mD.mp hb
obtain rfl:c=a:=by simpa using hc
exact qF (h.o p hp).1 na)
theorem Wm.set(h:Wm C x dx H G fs os):Wm C x dx H (upd G x (.ins C dx fs')) fs' os:=⟨qG,λb o n e=>by rw[qE n];exact h.u b o n e,λp hp=>⟨by rw[qE (h.o p hp).2.2];exact(h.o p hp).1,(h.o p hp).2⟩,h.n⟩
theorem Wm.fr(h:Wm C x dx H G fs os)(a:Addr)(ha:a∈os.map (·.1)):H a=none:=by obtain⟨p,hp,rfl⟩:=mD.mp ha;exact(h.o p hp).2.1
theorem Wm.put(h:Wm C x dx H G fs os)(f:Str)(v:V):Wm C x dx H (upd G x (.ins C dx (putF f v fs))) (putF f v fs) os:=h.set
end
noncomputable def spMk(t:Adr):Sp:=λvs H Q E=>∃x dx,∃b p m:Int,vs=[.ref x,.int b,.int p,.int m,.non]∧H x=some (.ins t.C_Chip dx [])∧2≤b∧b≤16∧1≤p∧p≤16∧0≤m∧m≤1000000∧∀a H',ChipAt t.C_Chip H' x a (CM.new b p m [])→(∀b∈[a.li,a.bo,a.cl,a.dc,a.br,a.rc],H b=none)→Up x H H'→Q .non H'
theorem q8I(T:Txt K mg t)(S:Fns K t):FnOk P w K mg base (CX0) 4 t.f_Chip_init S.bQ ["self","blocks","pages","most","ills"] (spMk t):=by(
refine S.aAF.ok0 q89 λcdv A _ s H vs Q E hr h=>?_
obtain⟨x,dx,b,p,m,rfl,hx,b1,b2,p1,p2,m1,m2,q⟩:=h
refine⟨_,(qB (jA (jJ (jF (qT (q4F T S).mono hr rfl T.o6 T.oK S.oI.b .nil qL (qA (pv 1) (qA (pv 2) qC))))) (qD jD) qM) (qB (jA (jJ (jF (qT (jO T S).mono hr rfl T.aH T.aI S.aO.b .nil qL (qA (pv 3) (qA qI (qA (zR rfl T.i9 ⟨_,rfl⟩ (v:=.int 1000000)) qC)))))) (qD jD) qM) (qB (jS (pv 0) (pv 1) rfl) (qB (jS (pv 0) (pv 2) rfl) (qB (jS (pv 0) (pv 3) rfl) (qB (jS (pv 0) (qT (q8H T S).mono hr rfl T.xY T.xV S.oO.b .nil qL (qA (qCL (qY qCQ (pv 4) uO (qX _)) (yN qC) (pv 4)) (qA (pv 1) qC))) rfl) (qB (jS (pv 0) (qP q0J (yN (qA uO qC)) (qP zW (pv 1) (pv 2))) rfl) (qB (jS (pv 0) (qP q0J (yN (qA qI qC)) (pv 1)) rfl) (qB (jS (pv 0) (qP q0J (yN (qA qI qC)) (pv 1)) rfl) (qB (jS (pv 0) (qP q0J (yN (qA uN qC)) (pv 1)) rfl) (qB (jS (pv 0) uO rfl) (qD (jS (pv 0) (yN qC) rfl))))))))))))),?_⟩
try dsimp-beta-proj-iota-zeta-eta only[wishK,cxK]
refine⟨_,rfl,_,rfl,.int b,.int p,rfl,.int b,.int p,_,rfl,?_⟩
rw[inBi b1 b2,inBi p1 p2]
refine iteF ?_
refine⟨_,rfl,.int m,_,_,rfl,.int m,_,rfl,?_⟩
rw[inBi m1 m2]
refine iteF ?_
have bp:b*p≤256:=Int.mul_le_mul b2 p2 (by lia) (by decide)
have bp0:0≤b*p:=lM (by lia) (by lia)
refine⟨_,rfl,_,rfl,x,_,dx,_,rfl,hx,T.aE,T.aZ,by simp,?_⟩
have w1:Wm t.C_Chip x dx H (upd H x (.ins t.C_Chip dx (putF "blocks" (.int b) []))) (putF "blocks" (.int b) []) []:=⟨qG,Up.of (Same.refl H),by simp,by simp⟩
refine⟨_,rfl,_,rfl,x,_,dx,_,rfl,w1.i,T.aE,T.bJ,by show 1<1000;decide,?_⟩
have w2:=w1.put "pages" (.int p)
refine⟨_,rfl,_,rfl,x,_,dx,_,rfl,w2.i,T.aE,T.xZ,by show 2<1000;decide,?_⟩
have w3:=w2.put "most" (.int m)
refine⟨_,rfl,rfl,_,rfl,iteT ⟨sz0,λl0 H2 n0 s0 e0=>?_⟩⟩
refine⟨_,rfl,l0,b,rfl,SqL.of e0,λli H3 n1 s1 e1=>?_⟩
have w4:=(w3.same s0).add n1 s1 e1
refine⟨_,rfl,x,_,dx,_,rfl,w4.i,T.aE,T.fW,by show 3<1000;decide,?_⟩
have w4:=w4.put "limits" (.ref li)
refine⟨sz1,λwa A1 n1 s1 e1=>⟨_,rfl,_,rfl,_,_,rfl,rfl,.inl ⟨by lia,by lia⟩,wa,_,_,rfl,rfl,e1,by lia,by lia,λbo B1 m1 r1 hbo=>?_⟩⟩
have w5:=(w4.same s1).add m1 r1 hbo
refine⟨_,rfl,x,_,dx,_,rfl,w5.i,T.aE,T.bW,by show 4<1000;decide,?_⟩
have w5:=w5.put "borne" (.ref bo)
refine⟨sz1,λwa A2 n2 s2 e2=>⟨_,rfl,wa,_,_,rfl,rfl,e2,by lia,by lia,λcl B2 m2 r2 hcl=>?_⟩⟩
have w6:=(w5.same s2).add m2 r2 hcl
refine⟨_,rfl,x,_,dx,_,rfl,w6.i,T.aE,T.eQ,by show 5<1000;decide,?_⟩
have w6:=w6.put "clearings" (.ref cl)
refine⟨sz1,λwa A3 n3 s3 e3=>⟨_,rfl,wa,_,_,rfl,rfl,e3,by lia,by lia,λdc B3 m3 r3 hdc=>?_⟩⟩
have w7:=(w6.same s3).add m3 r3 hdc
refine⟨_,rfl,x,_,dx,_,rfl,w7.i,T.aE,T.b9,by show 6<1000;decide,?_⟩
have w7:=w7.put "deed_counts" (.ref dc)
refine⟨sz1,λwa A4 n4 s4 e4=>⟨_,rfl,wa,_,_,rfl,rfl,e4,by lia,by lia,λbr B4 m4 r4 hbr=>?_⟩⟩
have w8:=(w7.same s4).add m4 r4 hbr
refine⟨_,rfl,x,_,dx,_,rfl,w8.i,T.aE,T.eL,by show 7<1000;decide,?_⟩
have w8:=w8.put "broken" (.ref br)
refine⟨_,rfl,x,_,dx,_,rfl,w8.i,T.aE,T.bH,by show 8<1000;decide,?_⟩
have w9:=w8.put "deeds_left" .non
refine⟨sz0,λrc B5 m5 r5 hrc=>?_⟩
have w:=w9.add m5 r5 hrc
refine⟨_,rfl,x,_,dx,_,rfl,w.i,T.aE,T.fX,by show 9<1000;decide,?_⟩
have w:=w.set (fs':=chF ⟨dx,li,bo,cl,dc,br,rc⟩ (CM.new b p m []))
refine q ⟨dx,li,bo,cl,dc,br,rc⟩ _ ⟨w.i,(w.o (li,.dK []) (by simp)).1,(w.o (bo,.lst (List.replicate (b*p).toNat .non)) (by simp)).1,?_,?_,?_,⟨[],(w.o (rc,.lst []) (by simp)).1,.nil⟩,(gC.mp (show(li::[bo,cl,dc,br,rc]).Nodup from w.n)).2⟩ (λb' hb'=>w.fr b' hb') w.u
·show _=some (HO.lst ((List.replicate b.toNat (0:Int)).map V.int));rw[wE];exact(w.o (cl,.lst (List.replicate b.toNat (.int 0))) (by simp)).1
·show _=some (HO.lst ((List.replicate b.toNat (0:Int)).map V.int));rw[wE];exact(w.o (dc,.lst (List.replicate b.toNat (.int 0))) (by simp)).1
show _=some (HO.lst ((List.replicate b.toNat false).map V.bl))
rw[wE]
exact(w.o (br,.lst (List.replicate b.toNat (.bl false))) (by simp)).1)
theorem yD(T:Txt K mg t)(S:Fns K t):S.aP.Ok0 P w mg base 1 (qHF K):=by(
refine S.aP.F.ok0 q5Z λcdv A _ s H vs Q E hr h=>?_
obtain⟨a,ns,k,rfl,hS,h0,q⟩:=h
refine⟨_,(qB (jA (qY q70 (pv 1) (qU jH (by rfl) T.fO mW (qA (pv 0) qC)) (qX _)) (qD (qO (yJ jX (pv 0) (pv 1) (λ_ _=>rfl)))) qM) (qD (qO qI))),?_⟩
try dsimp-beta-proj-iota-zeta-eta only[wishK,cxK]
refine⟨_,rfl,_,rfl,a,_,rfl,.inl hS,_,_,rfl,rfl,_,rfl,?_⟩
rw[hV]
by_cases h1:k<(ns.length:Int)
·rw[hI h1];refine iteT ?_;exact⟨_,rfl,_,rfl,a,_,k,_,rfl,rfl,hS,qC1 h0 h1,q⟩
rw[hG h1]
refine iteF ?_
have e:=qAB h0 h1
rw[e]at q
exact q)
theorem qJA{H:Hp}{bl pg mo:Int}{Q:Addr→Hp→Prop}{E:XK}(b1:2≤bl)(b2:bl≤16)(p1:1≤pg)(p2:pg≤16)(m1:0≤mo)(m2:mo≤1000000)
 (q:∀x a H',ChipAt t.C_Chip H' x a (CM.new bl pg mo [])→Same H H'→(∀b∈a.li::foot x a,H b=none)→Q x H') (x dx:Addr) (nx:H x=none) (ndx:H dx=none) (ne:dx≠x):
 spMk t [.ref x,.int bl,.int pg,.int mo,.non] (upd (upd H dx (.own x)) x (.ins t.C_Chip dx [])) (λv H2=>v=.non∧Q x H2) E:=by(
have s0:Same H (upd (upd H dx (.own x)) x (.ins t.C_Chip dx [])):=λb o e=>by rw[qE (qF e nx),qE (qF e ndx)];exact e
refine⟨x,dx,bl,pg,mo,rfl,qG,b1,b2,p1,p2,m1,m2,λa H' hc fr u=>⟨rfl,q x a H' hc (λb o e=>u b o (qF e nx) (s0 b o e)) λb hb=>?_⟩⟩
have hb:b=x∨b∈[a.li,a.bo,a.cl,a.dc,a.br,a.rc]:=by simp[foot]at hb ⊢;rcases hb with rfl|rfl|rfl|rfl|rfl|rfl|rfl<;>simp
rcases hb with rfl|hb
·exact nx
exact s0.free (fr _ hb))
theorem uX(T:Txt K mg t)(S:Fns K t):S.b8.Ok0 P w mg base 1 qB1:=by(
refine S.b8.F.ok0 q8F λcdv A _ s H vs Q E hr h=>?_
obtain⟨x,rfl,kn,k⟩:=h
refine⟨_,(qD (qO (uP (qU jY (by rfl) T.aL (by kernel_rfl) (qA (pv 0) (qA (vA rfl T.aA6 (by kernel_rfl) rfl (v:=.ty "int")) qC))) (uZ (q7U (qU jY (by rfl) T.aL (by kernel_rfl) (qA (pv 0) (qA (vA rfl T.aA8 (by kernel_rfl) rfl (v:=.ty "bool")) qC)))))))),?_⟩
try dsimp-beta-proj-iota-zeta-eta only[wishK,cxK]
obtain⟨ty,q,e1,e2,_⟩:=kn.ty (K:=K)
refine⟨_,rfl,x,_,_,ty,_,rfl,rfl,.inl q,e1,_,rfl,?_⟩
have z:=qD5 x
cases qi:isI x with
|true=>rw[qi,kG rfl]at z;refine iteT ?_;refine⟨_,rfl,x,_,_,ty,_,rfl,rfl,.inl q,e2,_,rfl,?_⟩;rw[z];exact k
|false=>rw[qi]at z;refine iteF ?_;have z':false=isW x:=z;rw[z'];exact k)
noncomputable def qJB(t:Adr):Sp:=λvs H Q E=>∃x dx fs b e,vs=[.ref x]∧H x=some (.ins t.C_Terms dx fs)∧fs.lookup (Str.ofString "blocks")=some (.int b)∧fs.lookup (Str.ofString "ill")=some (.int e)∧Q (.int (b-1-e)) H
theorem q4Q(T:Txt K mg t)(S:Fns K t):S.fK.Ok0 P w mg base 1 (qJB t):=by(
refine S.fK.F.ok0 q4M λcdv A _ s H vs Q E hr h=>?_
obtain⟨x,dx,fs,b,e,rfl,hx,l1,l2,q⟩:=h
refine⟨_,(qD (qO (qP uC (qP uC (qJ (pv 0) rfl) qI) (qJ (pv 0) rfl)))),?_⟩
try dsimp-beta-proj-iota-zeta-eta only[wishK,cxK]
exact⟨_,rfl,x,_,dx,_,_,rfl,hx,T.aK,T.bG,l1,_,_,rfl,rfl,_,rfl,x,_,dx,_,_,rfl,hx,T.aK,T.i6,l2,_,_,rfl,rfl,q⟩)
noncomputable def teF(r0 r1 r2 r3 r4 r5:V):List (Str×V):=[("blocks",r0),("pages",r1),("sheets",r2),("share",r3),("ill",r4),("spread",r5)]
noncomputable def spTm(t:Adr):Sp:=λvs H Q E=>∃x dx,∃b p s r e d:Int,vs=[.ref x,.int b,.int p,.int s,.int r,.int e,.int d]∧H x=some (.ins t.C_Terms dx [])∧2≤b∧b≤16∧1≤p∧p≤16∧1≤s∧s≤64∧1≤r∧r≤(b-1-e)*p-2∧0≤e∧e≤b-2∧1≤d∧d≤1000000∧∀H',H' x=some (.ins t.C_Terms dx (teF (.int b) (.int p) (.int s) (.int r) (.int e) (.int d)))→Up x H H'→Q .non H'
theorem q6P(T:Txt K mg t)(S:Fns K t):FnOk P w K mg base (CX0) 4 t.f_Terms_init S.bF ["self","blocks","pages","sheets","share","ill","spread"] (spTm t):=by(
refine S.aAB.ok0 q6O λcdv A _ s H vs Q E hr h=>?_
obtain⟨x,dx,b,p,s',r,e,d,rfl,hx,b1,b2,p1,p2,s1,s2,r1,r2,e1,e2,d1,d2,q⟩:=h
refine⟨_,(qB (jA (jJ (jF (qT (q4F T S).mono hr rfl T.o6 T.oK S.oI.b .nil qL (qA (pv 1) (qA (pv 2) qC))))) (qD jD) qM) (qB (jA (jJ (jF (qT (jO T S).mono hr rfl T.aH T.aI S.aO.b .nil qL (qA (pv 3) (qA qI (qA qI qC)))))) (qD jD) qM) (qB (jA (jJ (jF (qT (jO T S).mono hr rfl T.aH T.aI S.aO.b .nil qL (qA (pv 5) (qA qI (qA (qP uC (pv 1) qI) qC)))))) (qD jD) qM) (qB (jA (jJ (jF (qT (jO T S).mono hr rfl T.aH T.aI S.aO.b .nil qL (qA (pv 6) (qA qI (qA (zR rfl T.i9 ⟨_,rfl⟩ (v:=.int 1000000)) qC)))))) (qD jD) qM) (qB (jS (pv 0) (pv 1) rfl) (qB (jS (pv 0) (pv 2) rfl) (qB (jS (pv 0) (pv 3) rfl) (qB (jS (pv 0) (pv 4) rfl) (qB (jS (pv 0) (pv 5) rfl) (qB (jS (pv 0) (pv 6) rfl) (qD (jA (jJ (jF (qT (jO T S).mono hr rfl T.aH T.aI S.aO.b .nil qL (qA (pv 4) (qA qI (qA (qP uC (qP zW (jK (pv 0) T.aK T.tK (q4Q T S).mono hr S.fK.b .nil qL) (pv 2)) qI) qC)))))) (qD jD) qM)))))))))))),?_⟩
try dsimp-beta-proj-iota-zeta-eta only[wishK,cxK]
refine⟨_,rfl,_,rfl,.int b,.int p,rfl,.int b,.int p,_,rfl,?_⟩
rw[inBi b1 b2,inBi p1 p2]
refine iteF ⟨_,rfl,.int s',_,_,rfl,.int s',_,rfl,?_⟩
rw[inBi s1 s2]
refine iteF ⟨_,rfl,_,rfl,_,_,rfl,rfl,.int e,_,_,rfl,.int e,_,rfl,?_⟩
rw[inBi e1 e2]
refine iteF ⟨_,rfl,.int d,_,_,rfl,.int d,_,rfl,?_⟩
rw[inBi d1 d2]
refine iteF ⟨_,rfl,_,rfl,x,_,dx,_,rfl,hx,T.aK,T.bG,by simp,?_⟩
have w1:Wm t.C_Terms x dx H (upd H x (.ins t.C_Terms dx (putF "blocks" (.int b) []))) (putF "blocks" (.int b) []) []:=⟨qG,Up.of (Same.refl H),by simp,by simp⟩
refine⟨_,rfl,_,rfl,x,_,dx,_,rfl,w1.i,T.aK,T.a9,by show 1<1000;decide,?_⟩
have w2:=w1.put "pages" (.int p)
refine⟨_,rfl,_,rfl,x,_,dx,_,rfl,w2.i,T.aK,T.bL,by show 2<1000;decide,?_⟩
have w3:=w2.put "sheets" (.int s')
refine⟨_,rfl,_,rfl,x,_,dx,_,rfl,w3.i,T.aK,T.bP,by show 3<1000;decide,?_⟩
have w4:=w3.put "share" (.int r)
refine⟨_,rfl,_,rfl,x,_,dx,_,rfl,w4.i,T.aK,T.i6,by show 4<1000;decide,?_⟩
have w5:=w4.put "ill" (.int e)
refine⟨_,rfl,_,rfl,x,_,dx,_,rfl,w5.i,T.aK,T.o0,by show 5<1000;decide,?_⟩
have w:=w5.put "spread" (.int d)
refine⟨_,rfl,_,rfl,x,dx,_,rfl,w.i,rfl,x,dx,_,b,e,rfl,w.i,rfl,rfl,_,rfl,_,_,rfl,rfl,.inr ⟨by lia,by lia⟩,_,_,rfl,rfl,.int r,_,_,rfl,.int r,_,rfl,?_⟩
rw[inBi r1 r2]
exact iteF (q _ w.i w.u))
theorem qJC{H:Hp}{b p s r e d:Int}{Q:Addr→Hp→Prop}{E:XK}(b1:2≤b)(b2:b≤16)(p1:1≤p)(p2:p≤16)(s1:1≤s)(s2:s≤64)(r1:1≤r)(r2:r≤(b-1-e)*p-2)(e1:0≤e)(e2:e≤b-2)(d1:1≤d)(d2:d≤1000000)
 (q:∀x dx H',Same H H'→H' x=some (.ins t.C_Terms dx (teF (.int b) (.int p) (.int s) (.int r) (.int e) (.int d)))→Q x H') (x dx:Addr) (nx:H x=none) (ndx:H dx=none) (ne:dx≠x):
 spTm t [.ref x,.int b,.int p,.int s,.int r,.int e,.int d] (upd (upd H dx (.own x)) x (.ins t.C_Terms dx [])) (λv H2=>v=.non∧Q x H2) E:=by
 have s0:Same H (upd (upd H dx (.own x)) x (.ins t.C_Terms dx [])):=λb o e=>by rw[qE (qF e nx),qE (qF e ndx)];exact e
 exact⟨x,dx,b,p,s,r,e,d,rfl,qG,b1,b2,p1,p2,s1,s2,r1,r2,e1,e2,d1,d2,λH' h u=>⟨rfl,q x dx H' (λb o e=>u b o (qF e nx) (s0 b o e)) h⟩⟩
noncomputable def qJD:Sp:=λvs H Q _=>∃s n,vs=[.int s,.int n]∧Q (.int (s*128+n)) H
theorem qAO(T:Txt K mg t)(S:Fns K t):S.aAN.Ok0 P w mg base 1 qJD:=by(
refine S.aAN.F.ok0 qAN λcdv A _ s H vs Q E hr h=>?_
obtain⟨s',n,rfl,q⟩:=h
refine⟨_,(qD (qO (qP jQ (qP zW (pv 0) (zR rfl T.aA1 ⟨_,rfl⟩ (v:=.int 128))) (pv 1)))),?_⟩
try dsimp-beta-proj-iota-zeta-eta only[wishK,cxK]
exact⟨_,rfl,_,_,rfl,rfl,.inr ⟨by decide,by decide⟩,_,rfl,_,_,rfl,rfl,q⟩)
structure BkA where
bk:Addr
dx:Addr
wv:Addr
lv:Addr
fi:Addr
bo:Addr
structure BkAt(t:Adr)(H:Hp)(a:BkA)(m:QM):Prop where
o:H a.bk=some (.ins t.C_Book a.dx [("blocks",.int (m.B:Int)),("pages",.int (m.P:Int)),("stamp",.int m.nx),("where",.ref a.wv),("live",.ref a.lv),("filled",.ref a.fi),("born",.ref a.bo)])
w:H a.wv=some (.dK (dI m.V))
l:H a.lv=some (.lst (m.lv.map V.int))
f:H a.fi=some (.lst (m.fi.map V.int))
b:H a.bo=some (.lst (m.bo.map V.int))
structure Dst(a:BkA):Prop where
lf:a.lv≠a.fi
lb:a.lv≠a.bo
fb:a.fi≠a.bo
theorem BkAt.same{t:Adr}{H H':Hp}{a:BkA}{m:QM}(h:BkAt t H a m)(s:Same H H'):BkAt t H' a m:=⟨s _ _ h.o,s _ _ h.w,s _ _ h.l,s _ _ h.f,s _ _ h.b⟩
theorem BkAt.keep{t:Adr}{H H':Hp}{a:BkA}{m:QM}{F:List Addr}(h:BkAt t H a m)(k:Keep F H H')(n:∀b∈[a.bk,a.wv,a.lv,a.fi,a.bo],b∉F):BkAt t H' a m:=⟨k.k _ _ (n _ (by simp)) h.o,k.k _ _ (n _ (by simp)) h.w,k.k _ _ (n _ (by simp)) h.l,k.k _ _ (n _ (by simp)) h.f,k.k _ _ (n _ (by simp)) h.b⟩
noncomputable def bk0(B P:Nat):QM:=⟨P,B,1,[],List.replicate B 0,List.replicate B 0,List.replicate B 0⟩
noncomputable def qJE(t:Adr):Sp:=λvs H Q _=>∃x dx B P,vs=[.ref x,.int (B:Nat),.int (P:Nat)]∧B≤16∧H x=some (.ins t.C_Book dx [])∧∀(a:BkA) H',a.bk=x→a.dx=dx→BkAt t H' a (bk0 B P)→Dst a→(∀b∈[a.wv,a.lv,a.fi,a.bo],H b=none)→(∀b o,b≠x→H b=some o→H' b=some o)→Q .non H'
theorem q8J(T:Txt K mg t)(S:Fns K t):S.oZ.Ok0 P w mg base 1 (qJE t):=by(
refine S.oZ.F.ok0 q8B λcdv A _ s H vs Q E hr h=>?_
obtain⟨x,dx,B,P,rfl,hB,hx,q⟩:=h
refine⟨_,(qB (jS (pv 0) (pv 1) rfl) (qB (jS (pv 0) (pv 2) rfl) (qB (jS (pv 0) qI rfl) (qB (jS (pv 0) zG rfl) (qB (jS (pv 0) (qP q0J (yN (qA qI qC)) (pv 1)) rfl) (qB (jS (pv 0) (qP q0J (yN (qA qI qC)) (pv 1)) rfl) (qD (jS (pv 0) (qP q0J (yN (qA qI qC)) (pv 1)) rfl)))))))),?_⟩
try dsimp-beta-proj-iota-zeta-eta only[wishK,cxK]
refine⟨_,rfl,_,rfl,x,_,dx,_,rfl,hx,T.aF,T.tG,by decide,?_⟩
refine⟨_,rfl,_,rfl,x,_,dx,_,rfl,qG,T.aF,T.eY,by show 1<1000;decide,?_⟩
refine⟨_,rfl,x,_,dx,_,rfl,qG,T.aF,T.bV,by show 2<1000;decide,?_⟩
rw[q7Q,q7Q]
have w1:Wm t.C_Book x dx H (upd H x (.ins t.C_Book dx (putF "stamp" (.int 1) (putF "pages" (.int (P:Int)) (putF "blocks" (.int (B:Int)) []))))) (putF "stamp" (.int 1) (putF "pages" (.int (P:Int)) (putF "blocks" (.int (B:Int)) []))) []:=⟨qG,Up.of (Same.refl H),by simp,by simp⟩
have rep:∀n:Nat,List.replicate n (V.int 0)=(List.replicate n (0:Int)).map V.int:=λn=>by rw[wE]
have eB:((B:Int)).toNat=B:=by lia
refine λwv nwv=>?_
have w2:=w1.add nwv (Same.upd (o:=.dK []) nwv) qG
refine⟨_,rfl,x,_,dx,_,rfl,w2.i,T.aF,T.aR,by show 3<1000;decide,?_⟩
have w2:=w2.put "where" (.ref wv)
refine⟨sz1,λwa A3 n3 s3 e3=>⟨_,rfl,wa,_,_,rfl,rfl,e3,by lia,by lia,λlv B3 m3 r3 hlv=>?_⟩⟩
rw[eB,rep]at hlv
have w3:=(w2.same s3).add m3 r3 hlv
refine⟨_,rfl,x,_,dx,_,rfl,w3.i,T.aF,T.fI,by show 4<1000;decide,?_⟩
have w3:=w3.put "live" (.ref lv)
refine⟨sz1,λwa A4 n4 s4 e4=>⟨_,rfl,wa,_,_,rfl,rfl,e4,by lia,by lia,λfi B4 m4 r4 hfi=>?_⟩⟩
rw[eB,rep]at hfi
have w4:=(w3.same s4).add m4 r4 hfi
refine⟨_,rfl,x,_,dx,_,rfl,w4.i,T.aF,T.aT,by show 5<1000;decide,?_⟩
have w4:=w4.put "filled" (.ref fi)
refine⟨sz1,λwa A5 n5 s5 e5=>⟨_,rfl,wa,_,_,rfl,rfl,e5,by lia,by lia,λbo B5 m5 r5 hbo=>?_⟩⟩
rw[eB,rep]at hbo
have w5:=(w4.same s5).add m5 r5 hbo
refine⟨_,rfl,x,_,dx,_,rfl,w5.i,T.aF,T.oA,by show 6<1000;decide,?_⟩
have w5:=w5.put "born" (.ref bo)
have nd:[wv,lv,fi,bo].Nodup:=w5.n
simp only[gC,kL,gY,not_or,or_false]at nd
exact q ⟨x,dx,wv,lv,fi,bo⟩ _ rfl rfl ⟨w5.i,(w5.o (wv,.dK []) (by simp)).1,(w5.o (lv,.lst ((List.replicate B (0:Int)).map V.int)) (by simp)).1,(w5.o (fi,.lst ((List.replicate B (0:Int)).map V.int)) (by simp)).1,(w5.o (bo,.lst ((List.replicate B (0:Int)).map V.int)) (by simp)).1⟩ ⟨nd.2.1.1,nd.2.1.2,nd.2.2.1⟩ (λb' hb'=>w5.fr b' hb') w5.u)
noncomputable def qI1(t:Adr):Sp:=λvs H Q _=>∃a,∃m:QM,∃n,vs=[.ref a.bk,.int n]∧BkAt t H a m∧Q (.int (m.nx*128+n)) H
theorem q8K(T:Txt K mg t)(S:Fns K t):S.o7.Ok0 P w mg base 2 (qI1 t):=by(
refine S.o7.F.ok0 q8C λcdv A _ s H vs Q E hr h=>?_
obtain⟨a,m,n,rfl,hb,q⟩:=h
refine⟨_,(qD (qO (qT (qAO T S).mono hr rfl T.aAV T.aAU S.aAN.b .nil qL (qA (qJ (pv 0) rfl) (qA (pv 1) qC))))),?_⟩
try dsimp-beta-proj-iota-zeta-eta only[wishK,cxK]
exact⟨_,rfl,a.bk,_,a.dx,_,_,rfl,hb.o,T.aF,T.bV,rfl,_,rfl,_,_,rfl,q⟩)
noncomputable def spFg(t:Adr):Sp:=λvs H Q _=>∃a,∃m:QM,∃n,vs=[.ref a.bk,.int n]∧BkAt t H a m∧m.Ok∧Dst a∧∀H',BkAt t H' a (m.forget n)→Keep [a.wv,a.lv] H H'→Q .non H'
theorem q1S(T:Txt K mg t)(S:Fns K t):S.fA.Ok0 P w mg base 1 (spFg t):=by(
refine S.fA.F.ok0 q1P λcdv A _ s H vs Q E hr h=>?_
obtain⟨a,m,n,rfl,hb,ok,ds,q⟩:=h
have hu:=vR hr
have p1:=ok.p1
have p2:=ok.p2
have ob:a.bk≠a.wv:=jP hb.o hb.w (by intro z;cases z)
have ol:a.bk≠a.lv:=jP hb.o hb.l (by intro z;cases z)
have wl:a.wv≠a.lv:=jP hb.w hb.l (by intro z;cases z)
have wf:a.fi≠a.wv:=jP hb.f hb.w (by intro z;cases z)
have wb:a.bo≠a.wv:=jP hb.b hb.w (by intro z;cases z)
refine⟨_,(qD (jA (q7R (q5E hu (pv 1) (qJ (pv 0) rfl))) (qB (qS (i:=2) q1P.nd rfl (Or.inl rfl) (qD3 (qJ (pv 0) rfl) (pv 1) ⟨rfl,rfl,rfl,rfl⟩)) (qD (q4R (qJ (pv 0) rfl) (qP u7 (pv 2) (qJ (pv 0) rfl)) q35 qI qGH q0C))) qM)),?_⟩
try dsimp-beta-proj-iota-zeta-eta only[wishK,cxK]
refine⟨_,rfl,_,rfl,a.bk,_,a.dx,_,_,rfl,hb.o,T.aF,T.aR,rfl,a.wv,_,rfl,DGet.k (k:=Sum.inl n) hb.w,_,rfl,?_⟩
rcases QM.find_V (m:=m) (n:=n)with⟨p,hp,ef⟩|⟨hn,ef⟩
·have hv:(n,p)∈m.V:=hp;rw[uT ok.nd hv];refine iteT ?_;refine⟨_,rfl,a.bk,_,a.dx,_,_,rfl,hb.o,T.aF,T.aR,rfl,a.wv,rfl,.inl ⟨_,.inl hb.w⟩,_,rfl,_,Sum.inl n,_,hb.w,rfl,uT ok.nd hv,?_⟩;rw[q9L];have k1:Keep [a.wv,a.lv] H (upd H a.wv (.dK (dI (jU m.V n)))):=Keep.upd hb.w (λ_ z=>by cases z) (by simp);have w1:(upd H a.wv (.dK (dI (jU m.V n)))) a.wv=some (.dK (dI (jU m.V n))):=qG;have u1:∀b o,b≠a.wv→H b=some o→(upd H a.wv (.dK (dI (jU m.V n)))) b=some o:=λb o nb e=>by rw[qE nb];exact e
 generalize upd H a.wv (.dK (dI (jU m.V n)))=H1 at k1 w1 u1 ⊢;obtain⟨c,hc,ec⟩:=ok.blk _ hp;have ec:p / (m.P:Int)=(c:Int):=ec;have hcl:c<m.lv.length:=by rw[ok.ll];exact hc
 have l1:=u1 _ _ wl.symm hb.l;refine⟨_,rfl,a.bk,_,a.dx,_,_,rfl,u1 _ _ ob hb.o,T.aF,T.fI,rfl,_,rfl,_,rfl,a.bk,_,a.dx,_,_,rfl,u1 _ _ ob hb.o,T.aF,T.eY,rfl,_,_,rfl,rfl,⟨by lia,by lia⟩,a.lv,_,_,_,rfl,rfl,SqL.of l1,(by rw[ec];exact atV hcl),_,_,rfl,rfl,a.lv,_,_,c,rfl,rfl,l1,(by rw[ec];exact q84 (by rw[hV];exact hcl)),?_⟩;rw[setV];have el:(m.forget n).lv=m.lv.set c (m.lv.getD c 0-1):=by show BM.lvF m.P m.V m.lv n=_;unfold BM.lvF;rw[ef];show m.lv.set (p / (m.P:Int)).toNat (m.lv.getD (p / (m.P:Int)).toNat 0-1)=_;rw[ec,show((c:Int)).toNat=c by lia]
 refine q _ ⟨?_,?_,?_,?_,?_⟩ (k1.trans (Keep.upd l1 (λ_ z=>by cases z) (by simp)))
 ·rw[qE ol];exact u1 _ _ ob hb.o
 ·rw[qE wl];exact w1
 ·rw[el];exact qG
 ·rw[qE ds.lf.symm];exact u1 _ _ wf hb.f
 rw[qE ds.lb.symm];exact u1 _ _ wb hb.b
rw[v5 (λz=>by obtain⟨r,hr',e⟩:=mD.mp z;exact hn r hr' e)]
refine iteF ?_
have el:(m.forget n).lv=m.lv:=by show BM.lvF m.P m.V m.lv n=_;unfold BM.lvF;rw[ef]
have eV:(m.forget n).V=m.V:=qF7 λr hr'=>hn r hr'
exact q H ⟨hb.o,by rw[eV];exact hb.w,by rw[el];exact hb.l,hb.f,hb.b⟩ Keep.refl)
theorem q62{V:Mp}:(dI V).length=V.length:=by unfold dI;rw[hV]
noncomputable def spNt(t:Adr):Sp:=λvs H Q _=>∃a,∃m:QM,∃b f n,vs=[.ref a.bk,.int ((b*m.P+f:Nat):Int),.int n]∧BkAt t H a m∧m.Ok∧Dst a∧b<m.B∧f<m.P∧m.fi.getD b 0=(f:Int)∧∀H',BkAt t H' a (m.put b f n)→Keep [a.bk,a.wv,a.lv,a.fi,a.bo] H H'→Q .non H'
theorem q8L(T:Txt K mg t)(S:Fns K t):S.oJ.Ok0 P w mg base 2 (spNt t):=by(
refine S.oJ.F.ok0 q3L λcdv A _ s H vs Q E hr h=>?_
obtain⟨a,m,b,f,n,rfl,hb,ok,ds,hB,hf,ef,q⟩:=h
have hu:=vR hr
have p1:=ok.p1
have p2:=ok.p2
have ob:a.bk≠a.wv:=jP hb.o hb.w (by intro z;cases z)
have ol:a.bk≠a.lv:=jP hb.o hb.l (by intro z;cases z)
have of':a.bk≠a.fi:=jP hb.o hb.f (by intro z;cases z)
have oo:a.bk≠a.bo:=jP hb.o hb.b (by intro z;cases z)
have wl:a.wv≠a.lv:=jP hb.w hb.l (by intro z;cases z)
have wf:a.fi≠a.wv:=jP hb.f hb.w (by intro z;cases z)
have wb:a.bo≠a.wv:=jP hb.b hb.w (by intro z;cases z)
have eb:((b*m.P+f:Nat):Int) / (m.P:Int)=(b:Int):=by rw[←nV,q83 hf]
refine⟨_,(qB (qS (i:=3) q3L.nd rfl (Or.inl rfl) (qP u7 (pv 1) (qJ (pv 0) rfl))) (qB (jC (jG (pv 0) T.aF T.iN (q1S T S).mono hr S.fA.b .nil qL (qA (pv 2) qC))) (qB (vW hu (qJ (pv 0) rfl) (pv 2) (pv 1) rfl) (qB (q4R (qJ (pv 0) rfl) (pv 3) q35 qI q7V q0C) (q21 (jA (qY vG (yJ jX (qJ (pv 0) rfl) (pv 3) (λ_ _=>rfl)) qI (qX _)) (qD (q3O (qJ (pv 0) rfl) (qCM (qJ (pv 0) rfl) (pv 3) q0C))) qM) (qB (q4R (qJ (pv 0) rfl) (pv 3) q35 qI q7V q0C) (qD (qBR (pv 0) qI qGK)))))))),?_⟩
try dsimp-beta-proj-iota-zeta-eta only[wishK,cxK]
refine⟨_,rfl,_,rfl,a.bk,_,a.dx,_,_,rfl,hb.o,T.aF,T.eY,rfl,_,_,rfl,rfl,⟨by lia,by lia⟩,?_⟩
try dsimp only
rw[eb]
refine⟨_,rfl,a.bk,a.dx,_,rfl,hb.o,rfl,_,rfl,a,m,n,rfl,hb,ok,ds,λH1 hb1 k1=>?_⟩
have k1:Keep [a.bk,a.wv,a.lv,a.fi,a.bo] H H1:=k1.mono (by intro x hx;simp at hx ⊢;rcases hx with rfl|rfl<;>simp)
have lnV:(jU m.V n).length≤65:=mE (mT _ _) ok.lenV
have w0:H1 a.wv=some (.dK (dI (jU m.V n))):=hb1.w
refine⟨_,rfl,iV rfl (iF hb1.o T.aF T.aR rfl ⟨_,rfl,a.wv,_,rfl,.inl ⟨_,Sum.inl n,w0,rfl,(by rw[q62];exact cJ (m:=65) (by lia) (by decide)),rfl⟩,?_⟩)⟩
rw[qBC,qC9]
have k2:Keep [a.bk,a.wv,a.lv,a.fi,a.bo] H1 (upd H1 a.wv (.dK (dI (jU m.V n++[(n,((b*m.P+f:Nat):Int))])))):=Keep.upd w0 (λ_ z=>by cases z) (by simp)
have w2:(upd H1 a.wv (.dK (dI (jU m.V n++[(n,((b*m.P+f:Nat):Int))])))) a.wv=some (.dK (dI (jU m.V n++[(n,((b*m.P+f:Nat):Int))]))):=qG
have u2:∀x o,x≠a.wv→H1 x=some o→(upd H1 a.wv (.dK (dI (jU m.V n++[(n,((b*m.P+f:Nat):Int))])))) x=some o:=λx o nb e=>by rw[qE nb];exact e
generalize upd H1 a.wv (.dK (dI (jU m.V n++[(n,((b*m.P+f:Nat):Int))])))=H2 at k2 w2 u2 ⊢
have o2:=u2 _ _ ob hb1.o
have l2:H2 a.lv=some (.lst ((BM.lvF m.P m.V m.lv n).map V.int)):=u2 _ _ wl.symm hb1.l
have f2:H2 a.fi=some (.lst (m.fi.map V.int)):=u2 _ _ wf hb1.f
have b2:H2 a.bo=some (.lst (m.bo.map V.int)):=u2 _ _ wb hb1.b
have hbl:b<(BM.lvF m.P m.V m.lv n).length:=by rw[show(BM.lvF m.P m.V m.lv n).length=m.B from(ok.forget n).ll];exact hB
have hbf:b<m.fi.length:=by rw[ok.lf];exact hB
have hbo:b<m.bo.length:=by rw[ok.lo];exact hB
refine⟨_,rfl,a.bk,_,a.dx,_,_,rfl,o2,T.aF,T.fI,rfl,_,rfl,a.lv,_,_,_,rfl,rfl,SqL.of l2,atV hbl,_,_,rfl,rfl,a.lv,_,_,b,rfl,rfl,l2,q84 (by rw[hV];exact hbl),?_⟩
rw[setV]
have k3:Keep [a.bk,a.wv,a.lv,a.fi,a.bo] H2 (upd H2 a.lv (.lst (((BM.lvF m.P m.V m.lv n).set b ((BM.lvF m.P m.V m.lv n).getD b 0+1)).map V.int))):=Keep.upd l2 (λ_ z=>by cases z) (by simp)
have l3:(upd H2 a.lv (.lst (((BM.lvF m.P m.V m.lv n).set b ((BM.lvF m.P m.V m.lv n).getD b 0+1)).map V.int))) a.lv=some (.lst (((BM.lvF m.P m.V m.lv n).set b ((BM.lvF m.P m.V m.lv n).getD b 0+1)).map V.int)):=qG
have u3:∀x o,x≠a.lv→H2 x=some o→(upd H2 a.lv (.lst (((BM.lvF m.P m.V m.lv n).set b ((BM.lvF m.P m.V m.lv n).getD b 0+1)).map V.int))) x=some o:=λx o nb e=>by rw[qE nb];exact e
generalize upd H2 a.lv (.lst (((BM.lvF m.P m.V m.lv n).set b ((BM.lvF m.P m.V m.lv n).getD b 0+1)).map V.int))=H3 at k3 l3 u3 ⊢
have o3:=u3 _ _ ol o2
have w3:=u3 _ _ wl w2
have f3:=u3 _ _ ds.lf.symm f2
have b3:=u3 _ _ ds.lb.symm b2
refine⟨λσ' H'=>σ'=[some (.ref a.bk),some (.int ((b*m.P+f:Nat):Int)),some (.int n),some (.int (b:Int))]∧Keep [a.bk,a.wv,a.lv,a.fi,a.bo] H3 H'∧H' a.bo=some (.lst ((m.put b f n).bo.map V.int))∧∀x o,x≠a.bo→H3 x=some o→H' x=some o,?_,?_⟩
·refine⟨_,rfl,a.bk,_,a.dx,_,_,rfl,o3,T.aF,T.aT,rfl,_,rfl,a.fi,_,_,_,rfl,rfl,SqL.of f3,atV hbf,rfl,_,rfl,?_⟩;rw[q5G];by_cases z:m.fi.getD b 0=0
 ·rw[hI z];refine iteT ?_;refine⟨_,rfl,a.bk,_,a.dx,_,_,rfl,o3,T.aF,T.bV,rfl,_,rfl,a.bk,_,a.dx,_,_,rfl,o3,T.aF,T.oA,rfl,_,rfl,a.bo,_,_,b,rfl,rfl,b3,q84 (by rw[hV];exact hbo),?_⟩;rw[setV];refine⟨rfl,Keep.upd b3 (λ_ z=>by cases z) (by simp),?_,λx o nb e=>by rw[qE nb];exact e⟩;rw[qG];show _=some (HO.lst ((if m.fi.getD b 0=0 then m.bo.set b m.nx else m.bo).map V.int));rw[kG z];rfl
 rw[hG z];refine iteF ⟨rfl,Keep.refl,?_,λx o _ e=>e⟩;show _=some (HO.lst ((if m.fi.getD b 0=0 then m.bo.set b m.nx else m.bo).map V.int));rw[kC z];exact b3
rintro σ' H4 ⟨rfl,k4,b4,u4⟩
have o4:=u4 _ _ oo o3
have w4:=u4 _ _ wb.symm w3
have l4:=u4 _ _ ds.lb l3
have f4:=u4 _ _ ds.fb f3
refine⟨_,rfl,a.bk,_,a.dx,_,_,rfl,o4,T.aF,T.aT,rfl,_,rfl,a.fi,_,_,_,rfl,rfl,SqL.of f4,atV hbf,_,_,rfl,rfl,a.fi,_,_,b,rfl,rfl,f4,q84 (by rw[hV];exact hbf),?_⟩
rw[setV]
have k5:Keep [a.bk,a.wv,a.lv,a.fi,a.bo] H4 (upd H4 a.fi (.lst ((m.fi.set b (m.fi.getD b 0+1)).map V.int))):=Keep.upd f4 (λ_ z=>by cases z) (by simp)
have f5:(upd H4 a.fi (.lst ((m.fi.set b (m.fi.getD b 0+1)).map V.int))) a.fi=some (.lst ((m.fi.set b (m.fi.getD b 0+1)).map V.int)):=qG
have u5:∀x o,x≠a.fi→H4 x=some o→(upd H4 a.fi (.lst ((m.fi.set b (m.fi.getD b 0+1)).map V.int))) x=some o:=λx o nb e=>by rw[qE nb];exact e
generalize upd H4 a.fi (.lst ((m.fi.set b (m.fi.getD b 0+1)).map V.int))=H5 at k5 f5 u5 ⊢
have o5:=u5 _ _ of' o4
refine⟨_,rfl,a.bk,_,a.dx,_,_,rfl,o5,T.aF,T.bV,rfl,_,_,rfl,rfl,a.dx,_,o5,by show 7<1000;decide,?_⟩
refine q _ ⟨?_,?_,?_,?_,?_⟩ ((((k1.trans k2).trans k3).trans k4).trans (k5.trans (Keep.upd o5 (λ_ z=>by cases z) (by simp))))
·exact qG
·rw[qE ob.symm];exact u5 _ _ wf.symm w4
·rw[qE ol.symm];exact u5 _ _ ds.lf l4
·rw[qE of'.symm];exact f5
rw[qE oo.symm]
exact u5 _ _ ds.fb.symm b4)
noncomputable def lamE:Expr:=match((yH jZ).getLast?:Option Stmt)with
|some (Stmt.Return (some (Expr.Call _ _ (k::_) _)) _)=>k.value
|_=>Expr.Name "" ⟨0,0,0,0⟩
noncomputable abbrev lamA:Arguments:=match lamE with
| .Lambda a _ _ _=>a
|_=>yU jZ
noncomputable abbrev lamB:Expr:=match lamE with
| .Lambda _ b _ _=>b
|_=>lamE
noncomputable abbrev qE4:Scope:=match lamE with
| .Lambda _ _ s _=>s
|_=>qH jZ
noncomputable abbrev lamP:Pos:=match lamE with
| .Lambda _ _ _ p=>p
|_=>⟨0,0,0,0⟩
noncomputable abbrev lamQ:Str:=(PyProof.Rows.envOfC "Plain.free" (qH jZ) 0 0 .none).qual++"<lambda>"
noncomputable abbrev q63(clos:List (Str×Addr))(pm ct:Value)(c:Addr):FuncData:=W.kla_fn "<lambda>" lamQ lamA lamB qE4 clos pm (.ref c) ct
noncomputable def tri(c:Addr):Array Value:=#[rawInt lamP.line,rawInt lamP.col,.ref c]
noncomputable def TbF(t:Adr)(H:Hp):Prop:=∃ps,H t.aA=some (.tbl ps)∧(ps=#[]∨∃c,ps=tri c∧H c=some (cdO c lamQ))
theorem TbF.same{t:Adr}{H H':Hp}(s:Same H H')(h:TbF t H):TbF t H':=by(
obtain⟨ps,hT,h⟩:=h
refine⟨ps,s _ _ hT,?_⟩
rcases h with h|⟨c,h,a⟩
·exact .inl h
exact .inr ⟨c,h,s _ _ a⟩)
structure Sto where
s:Addr
sd:Addr
tm:Addr
td:Addr
c:Addr
a:CA
k:BkA
noncomputable def bf(k:BkA):List Addr:=[k.bk,k.wv,k.lv,k.fi,k.bo]
noncomputable def sf(x:Sto):List Addr:=foot x.c x.a++bf x.k
structure Fit(m:CM)(q:QM):Prop where
ok:m.Ok
oq:q.Ok
eB:m.bl=(q.B:Int)
eP:m.pg=(q.P:Int)
structure StAt(t:Adr)(H:Hp)(x:Sto)(r2 r3 r4 r5:V)(m:CM)(q:QM):Prop where
o:H x.s=some (.ins t.C_Plain x.sd [("chip",.ref x.c),("terms",.ref x.tm),("book",.ref x.k.bk)])
te:H x.tm=some (.ins t.C_Terms x.td (teF (.int m.bl) (.int m.pg) r2 r3 r4 r5))
ch:ChipAt t.C_Chip H x.c x.a m
bk:BkAt t H x.k q
tb:TbF t H
ds:Dst x.k
d1:∀b∈x.a.li::foot x.c x.a,b∉bf x.k
d2:∀b∈[x.s,x.tm],b∉sf x
section
variable{H H':Hp}{x:Sto}{r2 r3 r4 r5:V}{m:CM}{q:QM}
theorem StAt.same(h:StAt t H x r2 r3 r4 r5 m q)(s:Same H H'):StAt t H' x r2 r3 r4 r5 m q:=⟨s _ _ h.o,s _ _ h.te,h.ch.same s,h.bk.same s,h.tb.same s,h.ds,h.d1,h.d2⟩
theorem TbF.ne(h:TbF t H){b:Addr}{o:HO}(e:H b=some o)(n:∀ps,o≠ .tbl ps):b≠t.aA:=λz=>by obtain⟨ps,hT,_⟩:=h;rw[z,hT]at e;exact n ps (kJ e).symm
theorem StAt.nT(h:StAt t H x r2 r3 r4 r5 m q):∀b∈[x.s,x.tm]++(x.a.li::sf x),b∉[t.aA]:=by(
intro b hb z
have z:b=t.aA:=by simpa using z
have ne:∀{b:Addr} {o:HO},H b=some o→(∀ps,o≠ .tbl ps)→b≠t.aA:=λe n=>h.tb.ne e n
obtain⟨rs,er,_⟩:=h.ch.rc
have hb:b=x.s∨b=x.tm∨b=x.a.li∨b=x.c∨b=x.a.bo∨b=x.a.cl∨b=x.a.dc∨b=x.a.br∨b=x.a.rc∨b=x.k.bk∨b=x.k.wv∨b=x.k.lv∨b=x.k.fi∨b=x.k.bo:=by simpa[sf,bf,foot]using hb
rcases hb with y|y|y|y|y|y|y|y|y|y|y|y|y|y<;>rw[y]at z
·exact ne h.o (λ_ z=>by cases z) z
·exact ne h.te (λ_ z=>by cases z) z
·exact ne h.ch.li (λ_ z=>by cases z) z
·exact ne h.ch.ins (λ_ z=>by cases z) z
·exact ne h.ch.bo (λ_ z=>by cases z) z
·exact ne h.ch.cl (λ_ z=>by cases z) z
·exact ne h.ch.dc (λ_ z=>by cases z) z
·exact ne h.ch.br (λ_ z=>by cases z) z
·exact ne er (λ_ z=>by cases z) z
·exact ne h.bk.o (λ_ z=>by cases z) z
·exact ne h.bk.w (λ_ z=>by cases z) z
·exact ne h.bk.l (λ_ z=>by cases z) z
·exact ne h.bk.f (λ_ z=>by cases z) z
exact ne h.bk.b (λ_ z=>by cases z) z)
theorem StAt.keep(h:StAt t H x r2 r3 r4 r5 m q){F:List Addr}(k:Keep F H H')(n:∀b∈[x.s,x.tm]++(x.a.li::sf x),b∉F)(tb:TbF t H'):StAt t H' x r2 r3 r4 r5 m q:=⟨k.k _ _ (n _ (by simp)) h.o,k.k _ _ (n _ (by simp)) h.te,h.ch.keep k (λb hb=>n b (by
  rcases kL.mp hb with rfl|hb
  ·simp
  ·simp[sf,hb])),h.bk.keep k (λb hb=>n b (by
  have hb:b∈bf x.k:=hb;simp[sf,hb])),tb,h.ds,h.d1,h.d2⟩
theorem StAt.kT(h:StAt t H x r2 r3 r4 r5 m q)(k:Keep [t.aA] H H')(tb:TbF t H'):StAt t H' x r2 r3 r4 r5 m q:=h.keep k h.nT tb
end
noncomputable def spGd(t:Adr):Sp:=λvs H Q _=>∃x r2 r3 r4 r5 m q,vs=[.ref x.s]∧StAt t H x r2 r3 r4 r5 m q∧Fit m q∧NewO H (.lst ((zI q.B m.br).map vn)) Q
theorem q2K(T:Txt K mg t)(S:Fns K t):S.fQ.Ok0 P w mg base 5 (spGd t):=by(
refine S.fQ.F.ok0 q6L λcdv A _ s H vs Q E hr h=>?_
obtain⟨x,r2,r3,r4,r5,m,q,rfl,hs,ft,k⟩:=h
have b2:=ft.oq.b2
have eB:=ft.eB
refine⟨_,(qD (qO (yV ["self","block"] [0] rfl (uL rfl T.fM (qA (qJ (qJ (pv 0) rfl) rfl) qC)) (λ_ _ _ _ _=>(qR (i:=1) (show List.Nodup (["self","block"]:List Str)from by decide) rfl (Or.inl rfl))) (λ_ _ _ _ _=>(vY (jJ (jF (jG (q3D (K:=K) rfl (pv 0) rfl) T.aE T.tU (q61 T S).mono hr S.iG.b .nil qL (qA (pv 1) qC)))))) (λ_ _ _ _ _=>(pv 1)) (by kernel_rfl) (yC (by decide))))),?_⟩
try dsimp-beta-proj-iota-zeta-eta only[wishK,cxK]
refine(iV rfl (iF hs.o T.aB T.aG rfl (iF hs.te T.aK T.bG rfl ⟨m.bl,rfl,by lia,by lia,λD H2 nD s2 hD=>?_⟩)))
refine q3U (D:=D) (λi H3=>Same H H3∧H3 D=some (.lst (((List.range i).filter λb=>!(m.br.getD b false)).map vn))) ⟨s2,hD⟩ (λi H3 hi hp=>?_) (λH3 hp=>?_)
·obtain⟨sm,hd⟩:=hp;have hi:i<q.B:=by lia
 have h3:=hs.same sm;refine(iV rfl (iF h3.o T.aB T.bE rfl (iM h3.ch.ins rfl ⟨_,rfl,x.c,x.a,m,_,rfl,h3.ch,ft.ok,by lia,by lia,?_⟩)));rw[show(0+(i:Int)).toNat=i by lia,g4];refine⟨_,rfl,?_⟩;rw[g8,gR,kX];cases z:m.br.getD i false with
 |true=>refine iteF ⟨sm,?_⟩;rw[hd,gF,z];simp
 |false=>
  refine iteT ?_;refine⟨_,rfl,_,hd,?_,λb o e=>?_,?_⟩
  ·rw[hV];have:((List.range i).filter λb=>!(m.br.getD b false)).length≤i:=mE (mT _ _) (by rw[mG];exact kB _);have:(16:Nat)<sizeLine:=by decide
   lia
  ·rw[qE (qF e nD)];exact sm _ _ e
  rw[qG,gF,z];rfl
obtain⟨sm,hd⟩:=hp
rw[show m.bl.toNat=q.B by lia]at hd
exact k D H3 nD sm hd)
noncomputable def spLm(t:Adr)(x:Sto)(g c:Addr)(fd:FuncData):Sp:=λvs H Q _=>∃r2 r3 r4 r5,∃m:CM,∃q:QM,∃b:Nat,vs=[.int (b:Int)]∧StAt t H x r2 r3 r4 r5 m q∧Fit m q∧b<q.B∧H g=some (fnO g fd)∧H c=some (cdO c lamQ)∧∀tp H',H tp=none→Same H H'→H' tp=some (.tup [.int (m.cl.getD b 0),.int (b:Int)])→Q (.ref tp) H'
theorem qI2(T:Txt K mg t)(S:Fns K t){g c ca:Addr}{pm ct:Value}{x:Sto}(hc:base.IsCell ca (some (.ref x.s))):
 FnOk P w K mg base CX0 5 g (q63 [("self",ca)] pm ct c) ["block"] (spLm t x g c (q63 [("self",ca)] pm ct c)):=by(
refine qF0 (k:=4) (x0:="block") (fvs:=[.ref x.s]) (qCA (u:=.ref x.s) rfl rfl rfl (by decide+kernel) (by decide+kernel) (by decide+kernel) rfl hc) (λvs H Q E h=>?_) (λvs H Q E h=>?_) (λA outer s H v0 Q E hr h=>?_)
·repeat obtain⟨_,h⟩:=h
 all_goals subst_vars;rfl
·obtain⟨r2,r3,r4,r5,m,q,b,rfl,_,_,_,a,d,_⟩:=h;exact⟨a,d⟩
obtain⟨r2,r3,r4,r5,m,q,b,e,hs,ft,hb,_,_,k⟩:=h
obtain rfl:v0=.int (b:Int):=by simpa using e
have eB:=ft.eB
refine⟨_,q0I (qA (jG (qJ (pv 1) rfl) T.aE T.tM (q4P T S).mono hr S.fL.b .nil qL (qA (pv 0) qC)) (qA (pv 0) qC)),?_⟩
refine(iV rfl (iF hs.o T.aB T.bE rfl (iM hs.ch.ins rfl ⟨_,rfl,x.c,x.a,m,_,rfl,hs.ch,ft.ok,by lia,by lia,?_⟩)))
rw[mL]
exact⟨_,rfl,sz2,k⟩)
theorem qCF{clos:List (Str×Addr)}{c:Addr}{pm ct:Value}:yM K (q63 clos pm ct c) ["block"] []:=yM.all λus hl=>match us,hl with| [_],_=>rfl
theorem qFL{t:Adr}{H:Hp}(h:TbF t H):∃ps,H t.aA=some (.tbl ps)∧TriplesOk ps.toList∧((codeAmong lamP ps.toList=none∧∀c H',H' t.aA=some (.tbl (ps++tri c))→H' c=some (cdO c lamQ)→TbF t H')∨∃c,codeAmong lamP ps.toList=some (.ref c)∧H c=some (cdO c lamQ)):=by(
obtain⟨ps,hT,h⟩:=h
rcases h with rfl|⟨c,rfl,a⟩
·exact⟨_,hT,trivial,.inl ⟨rfl,λc H' e1 e2=>⟨_,e1,.inr ⟨c,rfl,e2⟩⟩⟩⟩
exact⟨_,hT,trivial,.inr ⟨c,rfl,a⟩⟩)
theorem q7L(T:Txt K mg t)(S:Fns K t){cells:List (Str×Addr)}{σ:St}{H4:Hp}{D f c':Addr}{x:Sto}{r2 r3 r4 r5:V}{m:CM}{q:QM}{clos:List (Str×Addr)}{pm ct:Value}{Q:VK}(hσ:σ[0]?=some (some (.ref x.s)))(hcl:∀ca,cells.lookup ("self":Str)=some ca→clos=[(("self":Str),ca)])
 (hs:StAt t H4 x r2 r3 r4 r5 m q) (ft:Fit m q) (hD:H4 D=some (.lst ((yY q.B m.br q.fi).map vn))) (hf:H4 f=some (fnO f (q63 clos pm ct c'))) (hc:H4 c'=some (cdO c' lamQ)) (k:∀l p H',FreeIs q.B m.br m.cl q.fi l→H4 p=none→Same H4 H'→H' p=some (.lst (l.map vn))→Q (.ref p) H'):
 ∃(f':Addr) (fd:FuncData) (sp:Heap→Sp),V.ref f=.ref f'∧(∀base',(∀b o,base.get? b=some o→base'.get? b=some o)→q5M cells σ base' [(0,"self")]→FnOk P w K mg base' CX0 5 f' fd ["block"] (sp base'))∧yM K fd ["block"] []∧∃(l:Addr) (us:List V) (Pv:Nat→List V→Hp→Prop),[V.ref D]=[.ref l]∧SqL K H4 l us∧us.length<64∧Pv 0 [] H4∧(∀base' i x zs H',q5M cells σ base' [(0,"self")]→us[i]?=some x→Pv i zs H'→sp base' [x] H' (λz H''=>Pv (i+1) (zs++[z]) H'') E0)∧∀zs H',zs.length=us.length→Pv us.length zs H'→∃kk m,Paired (TupI K H') zs kk∧(∀k∈kk,k.length=m)∧0<m∧∀q:List Nat,q.Perm (List.range us.length)→(q.map λi=>kk.getD i []).Pairwise (λa b=>lx b a=false)→NewO H' (.lst (q.map λi=>us.getD i .non)) Q:=by(
have b2:=ft.oq.b2
have ln:=qCC (B:=q.B) (br:=m.br) (fi:=q.fi)
refine⟨f,q63 clos pm ct c',λ_=>spLm t x f c' (q63 clos pm ct c'),rfl,λbase' _ cv=>?_,qCF,D,_,λi zs H'=>Same H4 H'∧Paired (TupD H') zs (((yY q.B m.br q.fi).take i).map (keyN m.cl)),rfl,SqL.of hD,by rw[hV];lia,⟨Same.refl H4,.nil⟩,λbase' i y zs H' _ hy hp=>?_,λzs H' lz hp=>?_⟩
·obtain⟨ca,u,hk,ru,hcell⟩:=cv (0,"self") (kF.mpr rfl) (.ref x.s) hσ;obtain rfl:u=Value.ref x.s:=ru;rw[hcl ca hk];exact qI2 T S hcell
·obtain⟨sm,pr⟩:=hp;rw[kW]at hy;obtain⟨b,hb,rfl⟩:=mF.mp hy;have mb:=q7G.mp (mJ hb);refine⟨r2,r3,r4,r5,m,q,b,rfl,hs.same sm,ft,mb.1.1,sm _ _ hf,sm _ _ hc,λtp H5 ntp s5 e5=>⟨sm.trans s5,?_⟩⟩;rw[q7H (f:=keyN m.cl) hb];exact L2.Paired.snoc (qAJ pr s5) ⟨tp,rfl,e5⟩
obtain⟨sm,pr⟩:=hp
rw[hV,mZ]at pr
refine⟨_,2,qFA pr,λk hk=>?_,by decide,λq' p1 p2 p H5 np s5 e5=>?_⟩
·obtain⟨b,_,rfl⟩:=mD.mp hk;rfl
rw[hV]at p1
have hin:∀i∈q',i<(yY q.B m.br q.fi).length:=λi hi=>k7.mp (p1.mem_iff.mp hi)
rw[q5Q (e:=0) hin]at e5
exact k _ p H5 (qFG p1 p2) (Same.free sm np) (sm.trans s5) e5)
noncomputable def spFr(t:Adr):Sp:=λvs H Q _=>∃x r2 r3 r4 r5 m q,vs=[.ref x.s]∧StAt t H x r2 r3 r4 r5 m q∧Fit m q∧∀l p H',FreeIs q.B m.br m.cl q.fi l→H p=none→Keep [t.aA] H H'→TbF t H'→H' p=some (.lst (l.map vn))→Q (.ref p) H'
theorem q2L(T:Txt K mg t)(S:Fns K t)(B:BmIn base mg):FnOk P w K mg base (CX0) 8 t.f_Plain_free S.eS ["self"] (spFr t):=by(
refine S.aAA.ok0 q2I λA _ s H vs Q E hr h=>?_
obtain⟨x,r2,r3,r4,r5,m,q,rfl,hs,ft,k⟩:=h
have b2:=ft.oq.b2
have eB:=ft.eB
refine⟨_,(qB (q5L (i:=1) ["self","block"] [0] rfl (jW (jK (pv 0) T.aB T.iZ (q2K T S).mono hr S.fQ.b .nil qL)) (λ_ _ _ _ _=>(qR (i:=1) (show List.Nodup (["self","block"]:List Str)from by decide) rfl (Or.inl rfl))) (λ_ _ _ _ _=>(vY (qY vG (yJ (qDJ (K:=K) rfl) (q3D (K:=K) rfl (q3D (K:=K) rfl (pv 0) rfl) rfl) (pv 1) (λ_ _=>rfl)) qI (qX _)))) (λ_ _ _ _ _=>(pv 1)) (by kernel_rfl) (yC (by decide)) q2I.nd rfl (Or.inl rfl)) (qD (qO (qAK (k:=5) (x:="block") [(0,"self")] (by intro p hp;simp only[kL,gY,or_false]at hp;rcases hp with rfl<;>exact⟨rfl,by kernel_rfl,rfl⟩) hr (by rfl) T.aAO (qFC rfl T.xP B (qFB (by kernel_rfl)) rfl) (qA (pv 1) qC))))),?_⟩
try dsimp-beta-proj-iota-zeta-eta only[wishK,cxK]
refine⟨_,rfl,x.s,x.sd,_,rfl,hs.o,rfl,x,r2,r3,r4,r5,m,q,rfl,hs,ft,λp H1 n1 s1 h1=>?_⟩
refine⟨p,rfl,⟨_,SqL.of h1⟩,λD H2 nD s2 hD=>?_⟩
refine q17 (K:=K) (xs:=(zI q.B m.br).map vn) (D:=D) (λi H3=>Same H1 H3∧H3 D=some (.lst ((((zI q.B m.br).take i).filter λb=>decide (q.fi.getD b 0=0)).map vn))) ⟨s2,hD⟩ (λi H3 hp=>SqL.of (hp.1 _ _ h1)) (λi y H3 hy hp=>?_) (λH3 hp=>?_)
·obtain⟨sm,hd⟩:=hp;have h3:=(hs.same s1).same sm;rw[kW]at hy;obtain⟨b,hb,rfl⟩:=mF.mp hy;have hi:=(hU.mp hb).1;have mb:=q3E.mp (mJ hb);refine(iV rfl (iF h3.o T.aB T.aJ rfl (iF h3.bk.o T.aF T.aT rfl ⟨_,rfl,iL (k:=_) (v:=_) (SqL.of h3.bk.f) (atV (by rw[ft.oq.lf];exact mb.1)) ⟨rfl,_,rfl,?_⟩⟩)));rw[q5G,←mB hi,gR,kX];obtain rfl:(zI q.B m.br)[i]=b:=(hU.mp hb).2;by_cases z:q.fi.getD (zI q.B m.br)[i] 0=0
 ·rw[hI z];refine iteT ?_;refine⟨_,rfl,_,hd,?_,λb o e=>?_,?_⟩
  ·rw[hV];have l1:(((zI q.B m.br).take i).filter λb=>decide (q.fi.getD b 0=0)).length≤q.B:=mE (mT _ _) (mE (by rw[mR];lia) (q9N (B:=q.B) (br:=m.br)));have:(16:Nat)<sizeLine:=by decide
   lia
  ·rw[qE (qF e nD)];exact sm _ _ e
  rw[qG,gF,hI z];rfl
 rw[hG z];refine iteF ⟨sm,?_⟩;rw[hd,gF,hG z];simp
obtain⟨sm,hd⟩:=hp
rw[hV,mZ]at hd
have hd:H3 D=some (.lst ((yY q.B m.br q.fi).map vn)):=hd
have h3:=(hs.same s1).same sm
refine⟨_,rfl,?_⟩
obtain⟨ps,hT,ht,hc⟩:=qFL h3.tb
have nT:D≠t.aA:=h3.tb.ne hd (λ_ z=>by cases z)
have keep:∀(f c':Addr) (ctv pm:Value) (clos:List (Str×Addr)) (H4:Hp),H4 f=some (fnO f (q63 clos pm ctv c'))→H4 c'=some (cdO c' lamQ)→TbF t H4→(∀b o,b≠t.aA→H3 b=some o→H4 b=some o)→Keep [t.aA] H3 H4:=λf c' ctv pm clos H4 _ _ tb4 kp=>⟨λb o nb e=>kp b o (λz=>nb (by rw[z];simp)) e,λb xs e=>kp b _ (h3.tb.ne e (λ_ z=>by cases z)) e⟩
refine⟨ps,hT,ht,?_⟩
rcases hc with⟨hn,tb⟩|⟨c0,hn,hc0⟩
·refine .inl ⟨hn,λf c' ctv H4 nf hf hc' hT4 kp=>?_⟩;have tb4:=tb c' H4 hT4 hc';have k4:=keep f c' ctv _ _ H4 hf hc' tb4 kp;refine q7L T S rfl (λca hk=>q9M (names:=qE4.names) hk rfl) (h3.kT k4 tb4) ft (kp _ _ nT hd) hf hc' (λl p' H5 hl np s5 e5=>k l p' H5 hl ?_ ?_ (tb4.same s5) e5)
 ·refine Same.free s1 (Same.free sm (k4.none (λz=>?_) np));obtain⟨ps',hT',_⟩:=tb4;rw[kF.mp z,hT']at np;cases np
 exact((Keep.same s1).trans (Keep.same sm)).trans (k4.trans (Keep.same s5))
refine .inr ⟨c0,hn,λf ctv H4 nf hf s4=>?_⟩
refine q7L T S rfl (λca hk=>q9M (names:=qE4.names) hk rfl) (h3.same s4) ft (s4 _ _ hd) hf (s4 _ _ hc0) (λl p' H5 hl np s5 e5=>k l p' H5 hl ?_ ?_ ((h3.tb.same s4).same s5) e5)
·exact Same.free s1 (Same.free sm (Same.free s4 np))
exact Keep.same (((s1.trans sm).trans s4).trans s5))
noncomputable def spPt(t:Adr):Sp:=λvs H Q _=>∃x r2 r3 r4 r5 m q,vs=[.ref x.s]∧StAt t H x r2 r3 r4 r5 m q∧Fit m q∧∀H',Same H H'→Q (oV (q2F q.B q.P m.br q.fi)) H'
theorem qCG{α:Type}{p:α→Bool}{L:List α}{i:Nat}{x:α}(h:L[i]?=some x)(n:(L.take i).find? p=none):(p x=true→L.find? p=some x)∧(p x=false→(L.take (i+1)).find? p=none):=by(
have hi:=(hU.mp h).1
obtain rfl:L[i]=x:=(hU.mp h).2
constructor
·intro hp;have e:L=L.take i++L[i]::L.drop (i+1):=by rw[List.getElem_cons_drop,List.take_append_drop]
 conv=>lhs;arg 2;rw[e]
 rw[nO,n,g7,hp];rfl
intro hp
rw[←mB hi,nO,n,g7,hp]
rfl)
theorem q2M(T:Txt K mg t)(S:Fns K t):S.fS.Ok0 P w mg base 6 (spPt t):=by(
refine S.fS.F.ok0 q2J λcdv A _ s H vs Q E hr h=>?_
obtain⟨x,r2,r3,r4,r5,m,q,rfl,hs,ft,k⟩:=h
refine⟨_,(qB (uQ gE rfl (jW (jK (pv 0) T.aB T.iZ (q2K T S).mono hr S.fQ.b .nil qL)) (qR (i:=1) q2J.nd rfl (Or.inl rfl)) (qD (jA (q58 q70 q70 qI (yJ jX (qJ (qJ (pv 0) rfl) rfl) (pv 1) (λ_ _=>rfl)) (qJ (qJ (pv 0) rfl) rfl)) (qD (qO (pv 1))) qM))) (qD (qO uO))),?_⟩
try dsimp-beta-proj-iota-zeta-eta only[wishK,cxK]
refine⟨_,rfl,x.s,x.sd,_,rfl,hs.o,rfl,x,r2,r3,r4,r5,m,q,rfl,hs,ft,λp H1 n1 s1 h1=>?_⟩
refine⟨p,rfl,⟨_,SqL.of h1⟩,?_⟩
refine vE (K:=K) (xs:=(zI q.B m.br).map vn) (λi σ' H2=>∃y,σ'=[some (.ref x.s),y]∧Same H1 H2∧((zI q.B m.br).take i).find? (zY q.P q.fi)=none) ⟨_,rfl,Same.refl H1,rfl⟩ (λi σ' H2 hi hp=>?_) (λi y σ' H2 hy hp=>?_) (λσ' H2 hp=>?_)
·obtain⟨y,rfl,sm,_⟩:=hp;exact SqL.of (sm _ _ h1)
·obtain⟨y',rfl,sm,hn⟩:=hp;have h3:=(hs.same s1).same sm;rw[kW]at hy;obtain⟨b,hb,rfl⟩:=mF.mp hy;have mb:=q3E.mp (mJ hb);obtain⟨y1,y2⟩:=qCG hb hn;refine(iV rfl (iF h3.o T.aB T.aJ rfl (iF h3.bk.o T.aF T.aT rfl ⟨_,rfl,iL (k:=_) (v:=_) (SqL.of h3.bk.f) (atV (by rw[ft.oq.lf];exact mb.1)) ?_⟩)));refine⟨_,_,rfl,rfl,_,rfl,?_⟩;by_cases z1:0<q.fi.getD b 0
 ·rw[hI z1];refine iteT ?_;refine(iV rfl (iF h3.o T.aB T.aG rfl (iF h3.te T.aK T.a9 rfl (iI ⟨_,rfl,?_⟩))));by_cases z2:q.fi.getD b 0<m.pg
  ·rw[hI z2];have z:=k H2 (s1.trans sm);unfold q2F at z;rw[y1 (by unfold zY;rw[hI z1,hI (by rw[←ft.eP];exact z2)];rfl)]at z;exact iteT ⟨_,rfl,z⟩
  rw[hG z2];exact iteF ⟨_,rfl,sm,y2 (by unfold zY;rw[hI z1,hG (by rw[←ft.eP];exact z2)];rfl)⟩
 rw[hG z1];exact iteF ⟨_,rfl,iteF ⟨_,rfl,sm,y2 (by unfold zY;rw[hG z1];rfl)⟩⟩
obtain⟨y',rfl,sm,hn⟩:=hp
rw[hV,mZ]at hn
have z:=k H2 (s1.trans sm)
unfold q2F at z
rw[hn]at z
exact z)
noncomputable def spSp(t:Adr):Sp:=λvs H Q _=>∃x r2 r3 r4 r5 m q,vs=[.ref x.s]∧StAt t H x r2 r3 r4 r5 m q∧Fit m q∧∀l H',FreeIs q.B m.br m.cl q.fi l→Keep [t.aA] H H'→TbF t H'→Q (pgV q.P q.fi (zJ q.B q.P m.br q.fi l)) H'
theorem q6Q(T:Txt K mg t)(S:Fns K t)(B:BmIn base mg):S.iS.Ok0 P w mg base 9 (spSp t):=by(
refine S.iS.F.ok0 q08 λcdv A _ s H vs Q E hr h=>?_
obtain⟨x,r2,r3,r4,r5,m,q,rfl,hs,ft,k⟩:=h
refine⟨_,(qB (qS (i:=1) q08.nd rfl (Or.inl rfl) (jK (pv 0) T.aB T.i3 (q2M T S).mono hr S.fS.b .nil qL)) (qB (jA (qY q4S (pv 1) uO (qX _)) (qD (qO (qP jQ (qP zW (pv 1) (qJ (qJ (pv 0) rfl) rfl)) (yJ jX (qJ (qJ (pv 0) rfl) rfl) (pv 1) (λ_ _=>rfl))))) qM) (qB (qS (i:=2) q08.nd rfl (Or.inl rfl) (jK (pv 0) T.aB T.i5 (q2L T S B).mono hr S.iY .nil qL)) (qB (jA (qY (qDH hr.units) (pv 2) (yN qC) (qX _)) (qD (qO uO)) qM) (qD (qO (qP zW (yJ jX (pv 2) qI (λ_ _=>rfl)) (qJ (qJ (pv 0) rfl) rfl)))))))),?_⟩
try dsimp-beta-proj-iota-zeta-eta only[wishK,cxK]
refine⟨_,rfl,x.s,x.sd,_,rfl,hs.o,rfl,x,r2,r3,r4,r5,m,q,rfl,hs,ft,λH1 s1=>?_⟩
have h1:=hs.same s1
have b2:=ft.oq.b2
have p2:=ft.oq.p2
have eP:=ft.eP
cases hpn:q2F q.B q.P m.br q.fi with
|some b=>
 have hb:=q5P hpn;refine⟨_,rfl,rfl,_,rfl,iteT ?_⟩;refine⟨_,rfl,iV rfl (iF h1.o T.aB T.aG rfl (iF h1.te T.aK T.a9 rfl (iI ⟨.inl ⟨by lia,by lia⟩,?_⟩)))⟩;refine(iV rfl (iF h1.o T.aB T.aJ rfl (iF h1.bk.o T.aF T.aT rfl ⟨_,rfl,iL (k:=_) (v:=_) (SqL.of h1.bk.f) (atV (by rw[ft.oq.lf];exact hb.1)) (iI ?_)⟩)));obtain⟨l,hl⟩:=FreeIs.ex q.B m.br m.cl q.fi;have kk:=k l H1 hl (Keep.same s1) h1.tb;unfold zJ at kk;rw[hpn]at kk;have e:pgV q.P q.fi (some b)=V.int ((b:Int)*m.pg+q.fi.getD b 0):=by rw[eP];rfl
 have kk:Q (pgV q.P q.fi (some b)) H1:=kk;rw[e]at kk;exact kk
|none=>
 refine⟨_,rfl,rfl,_,rfl,iteF ?_⟩;refine⟨_,rfl,x.s,x.sd,_,rfl,h1.o,rfl,x,r2,r3,r4,r5,m,q,rfl,h1,ft,λl p H2 hl np k2 tb2 h2=>?_⟩;have h2':=h1.kT k2 tb2;refine⟨_,rfl,sz0,λe H3 n3 s3 h3=>⟨p,_,e,rfl,rfl,SqL.of (s3 _ _ h2),SqL.of h3,_,rfl,?_⟩⟩;have h3':=h2'.same s3;have kk:=k l H3 hl (((Keep.same s1).trans k2).trans (Keep.same s3)) (tb2.same s3);unfold zJ at kk;rw[hpn]at kk;cases l with
 |nil=>refine iteT ?_;exact kk
 |cons b r=>
  refine iteF ?_;have hb:=hl.mem (kO (a:=b) (l:=r));refine⟨_,rfl,iL (k:=0) (v:=.int (b:Int)) (SqL.of (s3 _ _ h2)) (uR (j:=0) rfl) (iV rfl (iF h3'.o T.aB T.aG rfl (iF h3'.te T.aK T.a9 rfl (iI ⟨.inl ⟨by lia,by lia⟩,?_⟩))))⟩;have e:pgV q.P q.fi ((b::r).head?)=V.int ((b:Int)*m.pg):=by show V.int ((b:Int)*(q.P:Int)+q.fi.getD b 0)=_;rw[hb.2.2,eP,Int.add_zero]
  have kk:Q (pgV q.P q.fi ((b::r).head?)) H3:=kk;rw[e]at kk;exact kk)
theorem q44(T:Txt K mg t)(S:Fns K t):S.eT.Ok0 P w mg base 1 (λvs H Q _=>∃x,vs=[.ref x]∧Q (.int 0) H):=by refine S.eT.F.ok0 q42 λcdv A _ s H vs Q E hr h=>?_;obtain⟨x,rfl,q⟩:=h;exact⟨_,(qD (qO qI)),q⟩
theorem qE5{B P:Nat}{br:List Bool}{fi:List Int}{l:List Nat}:(zJ B P br fi l).isSome=(decide (0<l.length)||(q2F B P br fi).isSome):=by(
unfold zJ
cases q2F B P br fi with
|some b=>simp
|none=>cases l<;>simp)
noncomputable def spRd(t:Adr):Sp:=λvs H Q _=>∃x r2 r3 r4 r5 m q,vs=[.ref x.s]∧StAt t H x r2 r3 r4 r5 m q∧Fit m q∧∀l H',FreeIs q.B m.br m.cl q.fi l→Keep [t.aA] H H'→TbF t H'→Q (.bl (zJ q.B q.P m.br q.fi l).isSome) H'
theorem q64(T:Txt K mg t)(S:Fns K t)(B:BmIn base mg):S.iD.Ok0 P w mg base 9 (spRd t):=by(
refine S.iD.F.ok0 q1Q λcdv A _ s H vs Q E hr h=>?_
obtain⟨x,r2,r3,r4,r5,m,q,rfl,hs,ft,k⟩:=h
refine⟨_,(qB (qS (i:=1) q1Q.nd rfl (Or.inl rfl) (qP uC (qU jH (by rfl) T.fO mW (qA (jK (pv 0) T.aB T.i5 (q2L T S B).mono hr S.iY .nil qL) qC)) (jK (pv 0) T.aB T.oN (q44 T S).mono hr S.eT.b .nil qL))) (qD (qO (qIK (yP qCP (pv 1) qI (qX _)) (uZ (uP (yP vG (pv 1) qI (qX _)) (uZ (yP q4S (jK (pv 0) T.aB T.i3 (q2M T S).mono hr S.fS.b .nil qL) uO (qX _))))))))),?_⟩
try dsimp-beta-proj-iota-zeta-eta only[wishK,cxK]
refine(iV rfl (iM hs.o rfl ⟨x,r2,r3,r4,r5,m,q,rfl,hs,ft,λl p H1 hl np k1 tb1 h1=>?_⟩))
have hs1:=hs.kT k1 tb1
refine⟨p,_,rfl,.inl (SqL.of h1),iV rfl (iM hs1.o rfl ⟨x.s,rfl,iI ?_⟩)⟩
refine⟨_,rfl,_,_,rfl,rfl,_,rfl,?_⟩
have kk:=λH' s'=>k l H' hl (k1.trans (Keep.same s')) (tb1.same s')
rw[qE5]at kk
rw[hV]
by_cases z:0<l.length
·rw[hI (show((l.length:Int)-0>0) by lia)];refine iteT ?_;have:=kk H1 (Same.refl H1);rw[hI z]at this;exact this
rw[hG (show ¬((l.length:Int)-0>0) by lia)]
refine iteF ?_
have e0:(l.length:Int)-0=0:=by lia
refine⟨_,rfl,rfl,_,rfl,?_⟩
rw[q5G,hI e0]
refine iteT ?_
refine(iV rfl (iM hs1.o rfl ⟨x,r2,r3,r4,r5,m,q,rfl,hs1,ft,λH2 s2=>⟨rfl,?_⟩⟩))
have:=kk H2 s2
rw[hG z,xC]at this
cases hp:q2F q.B q.P m.br q.fi with
|none=>rw[hp]at this;exact this
|some b=>rw[hp]at this;exact this)
noncomputable def spMr(t:Adr):Sp:=λvs H Q E=>∃x r2 r3 r4 r5 m q,vs=[.ref x.s]∧StAt t H x r2 r3 r4 r5 m q∧Fit m q∧∀l H',FreeIs q.B m.br m.cl q.fi l→Keep [t.aA] H H'→TbF t H'→if(zJ q.B q.P m.br q.fi l).isSome=true then Q .non H' else False
theorem vU(T:Txt K mg t)(S:Fns K t)(B:BmIn base mg):S.bB.Ok0 P w mg base 10 (spMr t):=by(
refine S.bB.F.ok0 q2B λcdv A _ s H vs Q E hr h=>?_
obtain⟨x,r2,r3,r4,r5,m,q,rfl,hs,ft,k⟩:=h
refine⟨_,(qD (jA (jJ (jF (jK (pv 0) T.aB T.tZ (q64 T S B).mono hr S.iD.b .nil qL))) (qD jD) qM)),?_⟩
try dsimp-beta-proj-iota-zeta-eta only[wishK,cxK]
refine(iV rfl (iM hs.o rfl ⟨x,r2,r3,r4,r5,m,q,rfl,hs,ft,λl H1 hl k1 tb1=>⟨_,rfl,?_⟩⟩))
have kk:=k l H1 hl k1 tb1
cases z:(zJ q.B q.P m.br q.fi l).isSome with
|true=>rw[z,kG rfl]at kk;exact iteF kk
|false=>rw[z,kC (by decide)]at kk;exact kk.elim)
noncomputable def qG7(t:Adr):Sp:=λvs H Q E=>∃x r2 r3 r4 r5 m q n v,vs=[.ref x.s,.int n,.int v]∧StAt t H x r2 r3 r4 r5 m q∧Fit m q∧Gd m∧m.rc.length<1000000∧∀l,FreeIs q.B m.br m.cl q.fi l→∃b f:Nat,zJ q.B q.P m.br q.fi l=some b∧q.fi.getD b 0=(f:Int)∧m.bo.getD (b*q.P+f) .non=.non∧∀tp H',H' tp=some (.tup [.int (q.nx*128+n),.int v])→Keep (t.aA::sf x) H H'→StAt t H' x r2 r3 r4 r5 (putC m (b*q.P+f) (.ref tp)) (q.put b f n)→Q (.int ((b*q.P+f:Nat):Int)) H'
theorem StAt.put{H H':Hp}{x:Sto}{r2 r3 r4 r5:V}{m m':CM}{q:QM}(h:StAt t H x r2 r3 r4 r5 m q)(hc:ChipAt t.C_Chip H' x.c x.a m')(k:Keep (foot x.c x.a) H H')(e1:m'.bl=m.bl)(e2:m'.pg=m.pg):StAt t H' x r2 r3 r4 r5 m' q:=by(
have nf:∀b∈bf x.k,b∉foot x.c x.a:=λb hb z=>h.d1 b (kD _ z) hb
have n2:∀b∈[x.s,x.tm],b∉foot x.c x.a:=λb hb z=>h.d2 b hb (by unfold sf;exact mP _ z)
obtain⟨ps,hT,hc'⟩:=h.tb
have nT:t.aA∉foot x.c x.a:=λz=>h.nT t.aA (by simp[sf,z]) (by simp)
refine⟨k.k _ _ (n2 _ (by simp)) h.o,by rw[e1,e2];exact k.k _ _ (n2 _ (by simp)) h.te,hc,h.bk.keep k nf,⟨ps,k.k _ _ nT hT,?_⟩,h.ds,h.d1,h.d2⟩
rcases hc' with z|⟨c,z,hcd⟩
·exact .inl z
refine .inr ⟨c,z,k.k _ _ (λy=>?_) hcd⟩
have y:c=x.c∨c=x.a.bo∨c=x.a.cl∨c=x.a.dc∨c=x.a.br∨c=x.a.rc:=by simpa[foot]using y
obtain⟨rs,er,_⟩:=h.ch.rc
rcases y with y|y|y|y|y|y<;>rw[y]at hcd
·rw[h.ch.ins]at hcd;cases hcd
·rw[h.ch.bo]at hcd;cases hcd
·rw[h.ch.cl]at hcd;cases hcd
·rw[h.ch.dc]at hcd;cases hcd
·rw[h.ch.br]at hcd;cases hcd
rw[er]at hcd;cases hcd)
theorem StAt.note{H H':Hp}{x:Sto}{r2 r3 r4 r5:V}{m:CM}{q q':QM}(h:StAt t H x r2 r3 r4 r5 m q)(hb:BkAt t H' x.k q')(k:Keep (bf x.k) H H'):StAt t H' x r2 r3 r4 r5 m q':=by(
have n2:∀b∈[x.s,x.tm],b∉bf x.k:=λb hb z=>h.d2 b hb (by unfold sf;exact kP _ z)
obtain⟨ps,hT,hc'⟩:=h.tb
have nT:t.aA∉bf x.k:=λz=>h.nT t.aA (by simp[sf,z]) (by simp)
refine⟨k.k _ _ (n2 _ (by simp)) h.o,k.k _ _ (n2 _ (by simp)) h.te,h.ch.keep k h.d1,hb,⟨ps,k.k _ _ nT hT,?_⟩,h.ds,h.d1,h.d2⟩
rcases hc' with z|⟨c,z,hcd⟩
·exact .inl z
refine .inr ⟨c,z,k.k _ _ (λy=>?_) hcd⟩
have y:c=x.k.bk∨c=x.k.wv∨c=x.k.lv∨c=x.k.fi∨c=x.k.bo:=by simpa[bf]using y
rcases y with y|y|y|y|y<;>rw[y]at hcd
·rw[h.bk.o]at hcd;cases hcd
·rw[h.bk.w]at hcd;cases hcd
·rw[h.bk.l]at hcd;cases hcd
·rw[h.bk.f]at hcd;cases hcd
rw[h.bk.b]at hcd;cases hcd)
theorem q3M(T:Txt K mg t)(S:Fns K t)(B:BmIn base mg):S.eM.Ok0 P w mg base 10 (qG7 t):=by(
refine S.eM.F.ok0 zU λcdv A _ s H vs Q E hr h=>?_
obtain⟨x,r2,r3,r4,r5,m,q,n,v,rfl,hs,ft,gd,hrc,k⟩:=h
refine⟨_,(qB (qS (i:=3) zU.nd rfl (Or.inl rfl) (jK (pv 0) T.aB T.aAC (q6Q T S B).mono hr S.iS.b .nil qL)) (qB (jA (qY qCQ (pv 3) uO (qX _)) (qD jD) qM) (qB (jC (jG (qJ (pv 0) rfl) T.aE T.aAQ (q9U T S).mono hr S.tR.b .nil qL (qA (pv 3) (qA (q0I (qA (jG (qJ (pv 0) rfl) T.aF T.aAL (q8K T S).mono hr S.o7.b .nil qL (qA (pv 1) qC)) (qA (pv 2) qC))) qC yZ)))) (qB (jC (jG (qJ (pv 0) rfl) T.aF T.aAJ (q8L T S).mono hr S.oJ.b .nil qL (qA (pv 3) (qA (pv 1) qC)))) (qD (qO (pv 3))))))),?_⟩
try dsimp-beta-proj-iota-zeta-eta only[wishK,cxK]
refine⟨_,rfl,x.s,x.sd,_,rfl,hs.o,rfl,x,r2,r3,r4,r5,m,q,rfl,hs,ft,λl H1 hl k1 tb1=>?_⟩
have hs1:=hs.kT k1 tb1
obtain⟨b,f,hsp,ef,hn,kk⟩:=k l hl
rw[hsp]
obtain⟨hB,hbr,f0,f1⟩:=q9O hl ft.oq.p1 hsp
have hf:f<q.P:=by lia
have epg:pgV q.P q.fi (some b)=V.int ((b*q.P+f:Nat):Int):=by show V.int ((b:Int)*(q.P:Int)+q.fi.getD b 0)=_;rw[ef,lG,r9]
rw[epg]
refine⟨_,rfl,rfl,_,rfl,iteF ?_⟩
refine(iV rfl (iF hs1.o T.aB T.bE rfl (iM hs1.ch.ins rfl ⟨_,rfl,?_⟩)))
refine(iV rfl (iF hs1.o T.aB T.aJ rfl (iM hs1.bk.o rfl ⟨_,rfl,x.k,q,n,rfl,hs1.bk,_,rfl,sz2,λtp H2 n2 s2 e2=>?_⟩)))
have hs2:=hs1.same s2
have hpg:((b*q.P+f:Nat):Int)≤m.bl*m.pg-1:=by rw[ft.eB,ft.eP,←r9];have:b*q.P+f<q.B*q.P:=(Nat.div_lt_iff_lt_mul (by lia)).mp (by rw[q83 hf];exact hB);lia
refine⟨x.c,x.a,m,_,.ref tp,rfl,hs2.ch,ft.ok,hrc,gd,hpg,hn,λH3 hc3 k3=>?_⟩
have hs3:=hs2.put hc3 k3 rfl rfl
refine(iV rfl (iF hs3.o T.aB T.aJ rfl (iM hs3.bk.o rfl ⟨_,rfl,_,rfl,x.k,q,b,f,n,rfl,hs3.bk,ft.oq,hs3.ds,hB,hf,ef,λH4 hb4 k4=>⟨_,rfl,?_⟩⟩)))
exact kk tp H4 (k4.tp _ _ (k3.tp _ _ e2)) ((((k1.mono (by simp)).trans (Keep.same s2)).trans (k3.mono (λb hb=>by unfold sf;exact kD _ (mP _ hb)))).trans (k4.mono (λb hb=>by unfold sf;exact kD _ (kP _ hb)))) (hs3.note hb4 k4))
theorem q3N(T:Txt K mg t)(S:Fns K t)(B:BmIn base mg):S.iH.Ok0 P w mg base 11 (qG7 t):=by(
refine S.iH.F.ok0 q8E λcdv A _ s H vs Q E hr h=>?_
obtain⟨x,r2,r3,r4,r5,m,q,n,v,rfl,hs,k⟩:=h
refine⟨_,(qD (qO (jG (pv 0) T.aB T.oB (q3M T S B).mono hr S.eM.b .nil qL (qA (pv 1) (qA (pv 2) qC))))),?_⟩
try dsimp-beta-proj-iota-zeta-eta only[wishK,cxK]
exact⟨_,rfl,x.s,x.sd,_,rfl,hs.o,rfl,_,rfl,_,rfl,x,r2,r3,r4,r5,m,q,n,v,rfl,hs,k⟩)
theorem bor(a b:Nat):Builtin.bitOr (a:Int) (b:Int)=((a|||b:Nat):Int):=by(
have e:∀c:Nat,Builtin.bitNot (Builtin.bitNot (c:Int))=(c:Int):=λc=>by unfold Builtin.bitNot;lia
have n:∀c:Nat,decide (0≤Builtin.bitNot (c:Int))=false:=λc=>hG (by unfold Builtin.bitNot;lia)
unfold Builtin.bitOr Builtin.bitAnd
rw[n a,n b]
show Builtin.bitNot (Builtin.bitNot (((Builtin.bitNot (Builtin.bitNot (a:Int))).toNat|||(Builtin.bitNot (Builtin.bitNot (b:Int))).toNat:Nat):Int))=_
rw[e,e a,e b,mL,mL])
noncomputable abbrev vN(ks:List Nat):List V:=ks.map λ(k:Nat)=>V.int (k:Int)
noncomputable def spBo(K:W.Frag):Sp:=λvs H Q _=>∃l ss,vs=[.ref l]∧SqL K H l (vN ss)∧(∀s∈ss,s<64)∧Q (.int ((orB ss 0:Nat):Int)) H
theorem q9V(s:Nat):∀(l:List Nat) (b:Nat),orB (l++[s]) b=orB l b|||2 ^ s
| [],b=>rfl
|x::r,b=>q9V s r _
theorem qAP(T:Txt K mg t)(S:Fns K t):S.aAI.Ok0 P w mg base 1 (spBo K):=by(
refine S.aAI.F.ok0 q0Z λcdv A _ s H vs Q E hr h=>?_
obtain⟨l,ss,rfl,hl,hs,q⟩:=h
refine⟨_,(qB (qS (i:=1) q0Z.nd rfl (Or.inl rfl) qI) (qB (uQ gE rfl (jW (pv 0)) (qR (i:=2) q0Z.nd rfl (Or.inl rfl)) (qD (qS (i:=1) q0Z.nd rfl (Or.inl rfl) (qP qIR (pv 1) (qP qGI qI (pv 2)))))) (qD (qO (pv 1))))),?_⟩
try dsimp-beta-proj-iota-zeta-eta only[wishK,cxK]
refine⟨_,rfl,l,rfl,⟨_,hl⟩,?_⟩
refine vE (K:=K) (xs:=vN ss) (λi σ' H2=>∃y,σ'=[some (.ref l),some (.int ((orB (ss.take i) 0:Nat):Int)),y]∧H2=H) ⟨_,rfl,rfl⟩ (λi σ' H2 hi hp=>?_) (λi x σ' H2 hx hp=>?_) (λσ' H2 hp=>?_)
·obtain⟨y,rfl,rfl⟩:=hp;exact hl
·obtain⟨y,rfl,rfl⟩:=hp;rw[kW]at hx;obtain⟨n,hn,rfl⟩:=mF.mp hx;obtain⟨hi,rfl⟩:=hU.mp hn;have:=hs _ (dY hi);refine⟨_,rfl,_,rfl,_,_,rfl,rfl,⟨by lia,by lia,by decide⟩,_,_,rfl,rfl,?_⟩;have e:(1:Int)*2 ^ ((ss[i]:Nat):Int).toNat=((2 ^ ss[i]:Nat):Int):=by rw[Int.one_mul,mL];exact(Int.natCast_pow 2 _).symm
 try dsimp only
 rw[e,bor];refine⟨some (.int ((ss[i]:Nat):Int)),?_,rfl⟩;rw[←mB hi,q9V];rfl
obtain⟨y,rfl,rfl⟩:=hp
rw[show(vN ss).length=ss.length by simp[vN],mZ]
exact⟨_,rfl,q⟩)
noncomputable def hdN(W:Mp):List Int:=(W.map (·.1)).filter λn=>decide (n≠64)
noncomputable def spHe(t:Adr):Sp:=λvs H Q _=>∃a,∃m:QM,vs=[.ref a.bk]∧BkAt t H a m∧m.Ok∧(hdN m.V).length<64∧∀l ns H',Same H H'→H l=none→H' l=some (.lst (List.map V.int ns))→ns.Perm (hdN m.V)→ns.Pairwise (·≤·)→Q (.ref l) H'
theorem q8M(T:Txt K mg t)(S:Fns K t):S.oM.Ok0 P w mg base 1 (spHe t):=by(
refine S.oM.F.ok0 q8D λcdv A _ s H vs Q E hr h=>?_
obtain⟨a,m,rfl,hb,ok,hl64,q⟩:=h
have hu:=vR hr
have lV:m.V.length≤65:=ok.lenV
refine⟨_,(qD (qO (qU q80 (by rfl) T.aAO (by kernel_rfl) (qA (qB7 (yV ["name"] [] rfl (qF1 (qJ (pv 0) rfl)) (λ_ _ _ _ _=>(qR (i:=0) (show List.Nodup (["name"]:List Str)from by decide) rfl (Or.inl rfl))) (λ_ _ _ _ _=>(vY (qY q2C (pv 0) (zR rfl T.aAX ⟨_,rfl⟩ (v:=.int 64)) (qX _)))) (λ_ _ _ _ _=>(pv 0)) (by kernel_rfl) (yC (by decide)))) qC)))),?_⟩
try dsimp-beta-proj-iota-zeta-eta only[wishK,cxK]
refine⟨a.wv,_,hb.w,_,rfl,a.bk,_,a.dx,_,_,rfl,hb.o,T.aF,T.aR,rfl,a.wv,_,rfl,hb.w,λo D H2 nD s2 hD=>?_⟩
have kk:∀x u,x≠a.wv→H x=some u→H2 x=some u:=λx u nx e=>s2 _ _ (by rw[qE nx];exact e)
have fz:H2 a.wv=some (.frz o (.dK (dI m.V))):=s2 _ _ qG
have Dw:D≠a.wv:=λz=>by rw[z,fz]at hD;cases hD
have nDH:H D=none:=by rw[qE Dw]at nD;exact nD
refine qDV (D:=D) (λi H3=>H3 a.wv=some (.frz o (.dK (dI m.V)))∧(∀x u,x≠a.wv→H x=some u→H3 x=some u)∧H3 D=some (.lst ((hdN (m.V.take i)).map V.int))) ⟨fz,kk,hD⟩ (λi H3 hp=>hp.1) (λi kv H3 hk hp=>?_) (λH3 hp=>?_)
·obtain⟨fz3,k3,hd⟩:=hp;have hi:i<m.V.length:=by have:=(hU.mp hk).1;rw[q62]at this;exact this
 obtain rfl:((Sum.inl m.V[i].1:Key),V.int m.V[i].2)=kv:=by
  have e:(dI m.V)[i]?=some ((Sum.inl m.V[i].1:Key),V.int m.V[i].2):=by unfold dI;rw[kW,hZ hi];rfl
  rw[e]at hk;exact kJ hk
 have tk:m.V.take (i+1)=m.V.take i++[m.V[i]]:=(mB hi).symm;show zF _ (V.int m.V[i].1) _ _ _;refine⟨_,rfl,rfl,_,rfl,?_⟩;rw[q5G];by_cases e:m.V[i].1=64
 ·rw[hI e];refine iteF ?_;refine⟨fz3,k3,?_⟩;have:hdN (m.V.take (i+1))=hdN (m.V.take i):=by unfold hdN;rw[tk,kX,gR];simp[e]
  rw[this];exact hd
 rw[hG e];refine iteT ?_;refine⟨_,rfl,_,hd,?_,?_,λx u nx e'=>?_,?_⟩
 ·rw[hV];have l2:(hdN (m.V.take i)).length≤65:=by unfold hdN;refine mE (mT _ _) ?_;rw[hV,mR];lia
  have:(65:Nat)<sizeLine:=by decide
  lia
 ·rw[qE Dw.symm];exact fz3
 ·rw[qE (qF e' nDH)];exact k3 _ _ nx e'
 have:hdN (m.V.take (i+1))=hdN (m.V.take i)++[m.V[i].1]:=by unfold hdN;rw[tk,kX,gR];simp[e]
 rw[qG,this,kX];rfl
obtain⟨fz3,k3,hd⟩:=hp
rw[q62,mZ]at hd
refine⟨o,_,fz3,?_⟩
have sH:Same H (upd H3 a.wv (.dK (dI m.V))):=qDW hb.w k3
have hd4:(upd H3 a.wv (.dK (dI m.V))) D=some (.lst ((hdN m.V).map V.int)):=by rw[qE Dw];exact hd
generalize upd H3 a.wv (.dK (dI m.V))=H4 at sH hd4 ⊢
refine⟨D,hdN m.V,rfl,SqL.of hd4,by lia,λns pp pw l H5 n5 s5 h5=>?_⟩
exact q l ns H5 (sH.trans s5) (sH.free n5) h5 pp pw)
structure HeldIs(q:QM)(ns:List Int):Prop where
pm:ns.Perm (hdN q.V)
so:ns.Pairwise (·≤·)
noncomputable def spHd(t:Adr):Sp:=λvs H Q _=>∃x r2 r3 r4 r5 m q,vs=[.ref x.s]∧StAt t H x r2 r3 r4 r5 m q∧Fit m q∧(hdN q.V).length<64∧∀l ns H',HeldIs q ns→Same H H'→H l=none→H' l=some (.lst (List.map V.int ns))→Q (.ref l) H'
theorem vB(T:Txt K mg t)(S:Fns K t):S.bY.Ok0 P w mg base 2 (spHd t):=by(
refine S.bY.F.ok0 q6N λcdv A _ s H vs Q E hr h=>?_
obtain⟨x,r2,r3,r4,r5,m,q,rfl,hs,ft,h64,k⟩:=h
refine⟨_,(qD (qO (jK (qJ (pv 0) rfl) T.aF T.aAM (q8M T S).mono hr S.oM.b .nil qL))),?_⟩
try dsimp-beta-proj-iota-zeta-eta only[wishK,cxK]
exact(iV rfl (iF hs.o T.aB T.aJ rfl (iM hs.bk.o rfl ⟨x.k,q,rfl,hs.bk,ft.oq,h64,λl ns H' s' n' h' pm so=>k l ns H' ⟨pm,so⟩ s' n' h'⟩))))
noncomputable def spCs(t:Adr):Sp:=λvs H Q E=>∃x r3 r4 r5 m q v,∃sh:Int,vs=[.ref x.s,v]∧StAt t H x (.int sh) r3 r4 r5 m q∧Knd H v∧(if inB v 0 (sh-1)=true then Q .non H else False)
theorem u6(T:Txt K mg t)(S:Fns K t):S.aQ.Ok0 P w mg base 3 (spCs t):=by(
refine S.aQ.F.ok0 q1R λcdv A _ s H vs Q E hr h=>?_
obtain⟨x,r3,r4,r5,m,q,v,sh,rfl,hs,kn,k⟩:=h
refine⟨_,(qD (jA (jJ (jF (qT (jO T S).mono hr rfl T.aH T.aI S.aO.b .nil qL (qA (pv 1) (qA qI (qA (qP uC (qJ (qJ (pv 0) rfl) rfl) qI) qC)))))) (qD jD) qM)),?_⟩
try dsimp-beta-proj-iota-zeta-eta only[wishK,cxK]
refine⟨_,rfl,iV rfl (iF hs.o T.aB T.aG rfl (iF hs.te T.aK T.bL rfl (iI ⟨v,_,_,rfl,kn,_,rfl,?_⟩)))⟩
cases z:inB v 0 (sh-1)with
|true=>rw[z,kG rfl]at k;exact iteF k
|false=>rw[z,kC (by decide)]at k;exact k.elim)
theorem q4G(T:Txt K mg t)(S:Fns K t):S.oF.Ok0 P w mg base 3 (λvs H Q _=>∃v,vs=[v]∧Knd H v∧Q (.bl (inB v 0 (10 ^ 30-1))) H):=by(
refine S.oF.F.ok0 q9T λcdv A _ s H vs Q E hr h=>?_
obtain⟨v,rfl,kn,k⟩:=h
refine⟨_,(qD (qO (qT (jO T S).mono hr rfl T.aH T.aI S.aO.b .nil qL (qA (pv 0) (qA qI (qA (qP uC (qP qA1 qI qI) qI) qC)))))),?_⟩
try dsimp-beta-proj-iota-zeta-eta only[wishK,cxK]
exact⟨_,rfl,_,_,rfl,rfl,⟨by decide,by decide,by decide⟩,_,_,rfl,rfl,v,_,_,rfl,kn,k⟩)
noncomputable def hold(q:QM)(s:Int):Bool:=decide (s∈hdN q.V)
theorem q26{s:Int}:∀{ns:List Int},inV (.int s) (ns.map V.int)=decide (s∈ns)
| []=>rfl
|n::r=>by
 have ih:=q26 (s:=s) (ns:=r);unfold inV at ih ⊢;rw[mS,d9,ih];by_cases e:n=s
 ·subst e;simp[eqV]
 have e':¬s=n:=λz=>e z.symm;simp[eqV,e,e']
theorem q7M{ns:List Int}:(ns.map V.int).all vQ=true:=by(
rw[gK]
intro v hv
obtain⟨n,_,rfl⟩:=mD.mp hv
rfl)
theorem HeldIs.hold{q:QM}{ns:List Int}(h:HeldIs q ns)(s:Int):decide (s∈ns)=hold q s:=by(
unfold W1.hold
by_cases z:s∈ns
·rw[hI z,hI (h.pm.mem_iff.mp z)]
rw[hG z,hG (λy=>z (h.pm.mem_iff.mpr y))])
noncomputable def spSh(t:Adr):Sp:=λvs H Q E=>∃x r2 r4 r5 m q,∃s sr:Int,vs=[.ref x.s,.int s]∧StAt t H x r2 (.int sr) r4 r5 m q∧Fit m q∧(hdN q.V).length<64∧∀H',Same H H'→if hold q s=false∧sr≤((hdN q.V).length:Int)then E (.ref t.C_Full) none H' else Q .non H'
theorem q1T(T:Txt K mg t)(S:Fns K t):S.bN.OkE P w mg base 4 (spSh t):=by(
refine S.bN.F.okE vL (λvs H Q E h=>?_) (λcdv A outer s H vs Q E hr h=>?_)
·repeat obtain⟨_,h⟩:=h
 all_goals subst_vars;rfl
obtain⟨x,r2,r4,r5,m,q,s,sr,rfl,hs,ft,h64,k⟩:=h
refine⟨_,(qB (qS (i:=2) vL.nd rfl (Or.inl rfl) (jK (pv 0) T.aB T.eE (vB T S).mono hr S.bY.b .nil qL)) (qD (jA (PW.pt (q7T (qY vV (pv 1) (pv 2) rfl) (q7S (qY q8Z (qU jH (by rfl) T.fO mW (qA (pv 2) qC)) (qJ (qJ (pv 0) rfl) rfl) (qX _))))) (qD (uG yA rfl rfl T.aAK T.aA9 (qA qQ qC))) qM))),?_⟩
try dsimp-beta-proj-iota-zeta-eta only[wishK,cxK]
refine⟨_,rfl,x.s,x.sd,_,rfl,hs.o,rfl,x,r2,.int sr,r4,r5,m,q,rfl,hs,ft,h64,λl ns H1 hn s1 n1 h1=>?_⟩
refine⟨_,rfl,_,rfl,?_⟩
refine⟨l,_,rfl,.inl (SqL.of h1),rfl,q7M,_,rfl,?_⟩
have kk:=k H1 s1
have e:inV (.int s) (ns.map V.int)=hold q s:=by rw[q26];exact hn.hold s
show if(!inV (.int s) (ns.map V.int))=true then _ else _
rw[e]
cases z:hold q s with
|true=>rw[z,kC (λy=>by cases y.1)]at kk;exact iteF kk
|false=>
 refine iteT ?_;refine⟨_,rfl,l,_,rfl,.inl (SqL.of h1),iV rfl (iF (hs.same s1).o T.aB T.aG rfl (iF (hs.same s1).te T.aK T.bP rfl (iI ⟨_,rfl,?_⟩)))⟩;rw[hV,hn.pm.length_eq];by_cases y:sr≤((hdN q.V).length:Int)
 ·rw[hI y];rw[kG ⟨z,y⟩]at kk;exact iteT ⟨sz1,kk⟩
 rw[hG y];rw[kC (λw=>y w.2)]at kk;exact iteF kk)
theorem _root_.L2.ChipAt.has{C c:Addr}{a:CA}{m:CM}{H:Hp}(h:ChipAt C H c a m){b:Addr}(hb:b∈a.li::foot c a):∃o,H b=some o∧(b≠c→∀C d f,o≠ .ins C d f):=by(
obtain⟨rs,er,_⟩:=h.rc
have hb:b=a.li∨b=c∨b=a.bo∨b=a.cl∨b=a.dc∨b=a.br∨b=a.rc:=by simpa[foot]using hb
rcases hb with rfl|rfl|rfl|rfl|rfl|rfl|rfl
·exact⟨_,h.li,λ_ _ _ _ z=>by cases z⟩
·exact⟨_,h.ins,λn=>absurd rfl n⟩
·exact⟨_,h.bo,λ_ _ _ _ z=>by cases z⟩
·exact⟨_,h.cl,λ_ _ _ _ z=>by cases z⟩
·exact⟨_,h.dc,λ_ _ _ _ z=>by cases z⟩
·exact⟨_,h.br,λ_ _ _ _ z=>by cases z⟩
exact⟨_,er,λ_ _ _ _ z=>by cases z⟩)
noncomputable def spPi(t:Adr):Sp:=λvs H Q E=>∃x dx tm td c a r2 r3 r4 r5,∃m:CM,∃B P:Nat,vs=[.ref x,.ref c,.ref tm]∧H x=some (.ins t.C_Plain dx [])∧H tm=some (.ins t.C_Terms td (teF (.int (B:Int)) (.int (P:Int)) r2 r3 r4 r5))∧ChipAt t.C_Chip H c a m∧m.bl=(B:Int)∧m.pg=(P:Int)∧B≤16∧TbF t H∧∀k H',StAt t H' ⟨x,dx,tm,td,c,a,k⟩ r2 r3 r4 r5 m (bk0 B P)→(∀b∈bf k,H b=none)→(∀b o,b≠x→H b=some o→H' b=some o)→Q .non H'
theorem q6R(T:Txt K mg t)(S:Fns K t):S.iQ.Ok0 P w mg base 3 (spPi t):=by(
refine S.iQ.F.ok0 q6K λcdv A _ s H vs Q E hr h=>?_
obtain⟨x,dx,tm,td,c,a,r2,r3,r4,r5,m,B,P',rfl,hx,htm,hc,eB,eP,hB,tb,k⟩:=h
refine⟨_,(qB (jA (PW.pt (q11 (qY q2C (qJ (pv 2) rfl) (qJ (pv 1) rfl) (qX _)) (zE (qY q2C (qJ (pv 2) rfl) (qJ (pv 1) rfl) (qX _))))) (qD jD) qM) (qB (jS (pv 0) (pv 1) rfl) (qB (jS (pv 0) (pv 2) rfl) (qD (jS (pv 0) (q4U T.aBD (q8J T S).mono hr rfl T.aBF S.oZ.b .nil qL (qA (qJ (pv 1) rfl) (qA (qJ (pv 1) rfl) qC))) rfl))))),?_⟩
try dsimp-beta-proj-iota-zeta-eta only[wishK,cxK]
refine⟨_,rfl,tm,_,td,_,_,rfl,htm,T.aK,T.bG,rfl,_,rfl,c,_,a.dx,_,_,rfl,hc.ins,T.aE,T.aZ,rfl,rfl,_,rfl,?_⟩
rw[show(!decide (V.int (B:Int)=V.int m.bl))=false by rw[eB];simp]
refine iteF ?_
refine⟨_,rfl,tm,_,td,_,_,rfl,htm,T.aK,T.a9,rfl,_,rfl,c,_,a.dx,_,_,rfl,hc.ins,T.aE,T.bJ,rfl,rfl,_,rfl,?_⟩
rw[show(!decide (V.int (P':Int)=V.int m.pg))=false by rw[eP];simp]
refine iteF ?_
refine⟨_,rfl,_,rfl,x,_,dx,_,rfl,hx,T.aB,T.bE,by decide,?_⟩
refine⟨_,rfl,_,rfl,x,_,dx,_,rfl,qG,T.aB,T.aG,by show 1<1000;decide,?_⟩
rw[q7Q]
have tx:tm≠x:=jP htm hx (by intro z;injection z with z1 z2 z3;unfold teF at z3;cases z3)
have cx:c≠x:=jP hc.ins hx (by intro z;injection z with z1 z2 z3;unfold chF at z3;cases z3)
have k1:∀b o,b≠x→H b=some o→(upd H x (.ins t.C_Plain dx [("chip",.ref c),("terms",.ref tm)])) b=some o:=λb o nb e=>by rw[qE nb];exact e
have o1:(upd H x (.ins t.C_Plain dx [("chip",.ref c),("terms",.ref tm)])) x=some (.ins t.C_Plain dx [("chip",.ref c),("terms",.ref tm)]):=qG
have f1:∀b,(upd H x (.ins t.C_Plain dx [("chip",.ref c),("terms",.ref tm)])) b=none→H b=none:=λb e=>by
 by_cases z:b=x
 ·rw[z,qG]at e;cases e
 rw[qE z]at e;exact e
rw[show putF "terms" (.ref tm) (putF "chip" (.ref c) ([]:List (Str×V)))=([("chip",V.ref c),("terms",V.ref tm)]:List (Str×V))from rfl]
generalize upd H x (.ins t.C_Plain dx [("chip",.ref c),("terms",.ref tm)])=H1 at k1 o1 f1 ⊢
have hc1:=k1 _ _ cx hc.ins
refine⟨_,rfl,c,_,a.dx,_,_,rfl,hc1,T.aE,T.aZ,rfl,_,rfl,c,_,a.dx,_,_,rfl,hc1,T.aE,T.bJ,rfl,λk' kd nk nkd nn=>?_⟩
rw[eB,eP]
refine⟨k',kd,B,P',rfl,hB,qG,λka H3 e1 e2 hb3 ds fr up=>⟨rfl,?_⟩⟩
have s0:Same H1 (upd (upd H1 kd (.own k')) k' (.ins t.C_Book kd [])):=q39 nk nkd
have up':∀b o,H1 b=some o→H3 b=some o:=λb o e=>up b o (qF e nk) (s0 b o e)
refine⟨_,rfl,x,_,dx,_,rfl,up' _ _ o1,T.aB,T.aJ,by show 2<1000;decide,?_⟩
have hx3:=up' _ _ o1
have kx:ka.bk≠x:=by rw[e1];exact(qF o1 nk).symm
have lH:∀b∈bf ka,H b=none:=λb hb=>by
 have hb:b=ka.bk∨b∈[ka.wv,ka.lv,ka.fi,ka.bo]:=by simpa[bf]using hb
 rcases hb with rfl|hb
 ·rw[e1];exact f1 _ nk
 exact f1 _ (Same.free s0 (fr b hb))
have kpx:∀b o,b≠x→H3 b=some o→(upd H3 x (.ins t.C_Plain dx (putF "book" (.ref k') [("chip",V.ref c),("terms",V.ref tm)]))) b=some o:=λb o nb e=>by rw[qE nb];exact e
have up2:∀b o,b≠x→H b=some o→(upd H3 x (.ins t.C_Plain dx (putF "book" (.ref k') [("chip",V.ref c),("terms",V.ref tm)]))) b=some o:=λb o nb e=>kpx b o nb (up' b o (k1 b o nb e))
have nx:∀{b:Addr} {o:HO},H3 b=some o→(∀C d fs,o≠ .ins C d fs)→b≠x:=fun {b o} e n z=>by rw[z,hx3]at e;exact n _ _ _ (kJ e).symm
have cfx:∀b∈a.li::foot c a,b≠x:=λb hb z=>by
 obtain⟨o,e,no⟩:=hc.has hb;by_cases y:b=c
 ·exact cx (y.symm.trans z)
 rw[z,hx]at e;exact no y _ _ _ (kJ e).symm
have kK:Keep [x] H (upd H3 x (.ins t.C_Plain dx (putF "book" (.ref k') [("chip",V.ref c),("terms",V.ref tm)]))):=⟨λb o nb e=>up2 b o (λz=>nb (by rw[z];simp)) e,λb xs e=>up2 b _ (λz=>by rw[z,hx]at e;cases e) e⟩
refine k ka _ ⟨?_,?_,?_,?_,?_,ds,?_,?_⟩ lH up2
·rw[e1];exact qG
·rw[eB,eP];exact up2 _ _ tx htm
·exact hc.keep kK (λb hb z=>cfx b hb (kF.mp z))
·exact⟨kpx _ _ kx hb3.o,kpx _ _ (nx hb3.w (λ_ _ _ z=>by cases z)) hb3.w,kpx _ _ (nx hb3.l (λ_ _ _ z=>by cases z)) hb3.l,kpx _ _ (nx hb3.f (λ_ _ _ z=>by cases z)) hb3.f,kpx _ _ (nx hb3.b (λ_ _ _ z=>by cases z)) hb3.b⟩
·obtain⟨ps,hT,h⟩:=tb;refine⟨ps,up2 _ _ (λz=>by rw[z,hx]at hT;cases hT) hT,?_⟩;rcases h with h|⟨c',h,hcd⟩
 ·exact .inl h
 exact .inr ⟨c',h,up2 _ _ (λz=>by rw[z,hx]at hcd;cases hcd) hcd⟩
·intro b hb z;obtain⟨o,e,_⟩:=hc.has hb;rw[lH b z]at e;cases e
intro b hb z
have hb:b=x∨b=tm:=by simpa using hb
have y0:b∈foot c a∨b∈bf ka:=by simpa[sf]using z
clear z
rcases y0 with z|z
·rcases hb with rfl|rfl
 ·exact cfx _ (kD _ z) rfl
 obtain⟨o,e,no⟩:=hc.has (kD _ z);by_cases y:b=c
 ·rw[y,hc.ins]at htm;have htm:=kJ htm;injection htm with z1 z2 z3
  unfold chF teF at z3;have:=dB List.length z3;simp at this
 rw[htm]at e;exact no y _ _ _ (kJ e).symm
have n:=lH b z
rcases hb with rfl|rfl
·rw[hx]at n;cases n
rw[htm]at n;cases n)
noncomputable def RT(t:Adr)(H H':Hp):Prop:=∀b o,b≠t.aA→H b=some o→H' b=some o
theorem RT.keep{H Hi Hj:Hp}{F:List Addr}(r:RT t H Hi)(k:Keep F Hi Hj)(f:∀b∈F,b=t.aA∨H b=none):RT t H Hj:=λb o nb e=>k.k b o (λz=>by
 rcases f b z with z|z
 ·exact nb z
 rw[z]at e;cases e) (r b o nb e)
theorem RT.same{H Hi Hj:Hp}(r:RT t H Hi)(s:Same Hi Hj):RT t H Hj:=λb o nb e=>s b o (r b o nb e)
theorem RT.of{H Hi:Hp}(s:Same H Hi):RT t H Hi:=λb o _ e=>s b o e
theorem RT.sq{H Hi:Hp}{ps:Array Value}{sa:Addr}{xs:List V}(r:RT t H Hi)(hT:H t.aA=some (.tbl ps))(h:SqL K H sa xs):SqL K Hi sa xs:=by(
rcases h with(h|⟨ob,h⟩)|h
·exact .inl (.inl (r _ _ (λz=>by rw[z,hT]at h;cases h) h))
·exact .inl (.inr ⟨ob,r _ _ (λz=>by rw[z,hT]at h;cases h) h⟩)
exact .inr h)
theorem qI3{B0 P1:Nat}(b2:B0≤16)(p1:1≤P1)(p2:P1≤16):(bk0 B0 P1).Ok:=by(
refine⟨p1,p2,b2,m7,m7,m7,by simp[bk0],λq hq=>absurd (show q∈([]:Mp)from hq) (by simp),λq hq=>absurd (show q∈([]:Mp)from hq) (by simp),λb hb=>⟨0,?_,mI _⟩⟩
show(List.replicate B0 (0:Int)).getD b 0=_
rw[rep8]
rfl)
theorem qFM{ns:List Int}{lo hi:Option Int}{i:Nat}{x:V}(h:(cutV (ns.map V.int) lo hi)[i]?=some x):∃n,x=.int n:=by(
have m1:=mJ h
unfold cutV at m1
obtain⟨n,_,rfl⟩:=mD.mp (sF (sG m1))
exact⟨n,rfl⟩)
theorem qCH{K:W.Frag}{H:Hp}{a b:Addr}{xs:List V}(ha:SqL K H a xs)(hb:SqL K H b xs)(f:xs.all vQ=true):Eqv K H 6 (.ref a) (.ref b):=.lst ha hb rfl λj x y hx hy=>by  obtain rfl:x=y:=kJ (hx.symm.trans hy);exact .flat (gK.mp f x (mJ hx))
theorem yF{W:Mp}{x:Int}:x∈W.map (·.1)↔∃v,(x,v)∈W:=by(
constructor
·intro h;obtain⟨⟨a,b⟩,h1,rfl⟩:=mD.mp h;exact⟨b,h1⟩
rintro⟨v,h⟩
exact mD.mpr ⟨_,h,rfl⟩)
theorem q51{V:Mp}{x:Int}:x∈hdN V↔(∃p,(x,p)∈V)∧x≠64:=by unfold hdN;rw[mO,yF,kQ]
theorem qI4{V W:Mp}{s p v:Int}(ndV:(V.map (·.1)).Nodup)(ndW:(W.map (·.1)).Nodup)(pm:(hdN V).Perm (W.map (·.1)))(s64:s≠64):(hdN (jU V s++[(s,p)])).Perm ((putW W s v).map (·.1)):=by(
have n1:((jU V s++[(s,p)]).map (·.1)).Nodup:=by
 rw[kX];refine dR.mpr ⟨q3C ndV,by simp,λa ha c hc=>?_⟩;obtain⟨q,hq,rfl⟩:=mD.mp ha;have hc:c=s:=by simpa using hc
 rw[hc];exact(jE.mp hq).2
refine q3B (n1.sublist rS) (q7F ndW) λx=>?_
rw[q51,yF]
have hx:x∈hdN V↔x∈W.map (·.1):=pm.mem_iff
rw[q51,yF]at hx
constructor
·rintro⟨⟨p',h⟩,h64⟩
 rcases gA.mp h with h|h
 ·obtain⟨h1,h2⟩:=jE.mp h;obtain⟨v',hv⟩:=hx.mp ⟨⟨p',h1⟩,h64⟩;exact⟨v',(q1A ndW).mpr (.inr (jE.mpr ⟨hv,h2⟩))⟩
 obtain⟨rfl,rfl⟩:x=s∧p'=p:=by simpa using h
 exact⟨v,(q1A ndW).mpr (.inl rfl)⟩
rintro⟨v',h⟩
rcases(q1A ndW).mp h with h|h
·obtain⟨rfl,rfl⟩:x=s∧v'=v:=by simpa using h
 exact⟨⟨p,kP _ (by simp)⟩,s64⟩
obtain⟨h1,h2⟩:=jE.mp h
obtain⟨⟨p',hp⟩,h64⟩:=hx.mpr ⟨v',h1⟩
exact⟨⟨p',mP _ (jE.mpr ⟨hp,h2⟩)⟩,h64⟩)
structure PS(t:Adr)(H:Hp)(x:Sto)(so:Nat)(sr:Int)(m:CM)(q:QM)(n:Nat)(W:Mp)(dk:Bool):Prop where
st:StAt t H x (.int (so:Int)) (.int sr) (.int 0) (.int 1000000) m q
ft:Fit m q
br:m.br=List.replicate q.B false
cl:m.cl=List.replicate q.B 0
fi:q.fi=linF q.B q.P n
li:∀b,valV m.lim (Sum.inl b)=none
lf:m.lf=if dk then some 0 else none
nb:n≤q.B*q.P
rc:m.rc.length=n
cr:∀p:Nat,n≤p→m.bo.getD p .non=.non
nd:(W.map (·.1)).Nodup
pm:(hdN q.V).Perm (W.map (·.1))
kb:∀s∈W.map (·.1),0≤s∧s<(so:Int)
vl:∀s v,(s,v)∈W→∃p st mk,(s,p)∈q.V∧0≤p∧p≤m.bl*m.pg-1∧m.bo.getD p.toNat .non=.ref st∧H st=some (.tup [mk,.int v])
so1:so≤60
section
variable{H H':Hp}{x:Sto}{so:Nat}{sr:Int}{m:CM}{q:QM}{n:Nat}{W:Mp}{dk:Bool}
theorem PS.mv(h:PS t H x so sr m q n W dk)(st:StAt t H' x (.int (so:Int)) (.int sr) (.int 0) (.int 1000000) m q)(tp:∀b xs,H b=some (.tup xs)→H' b=some (.tup xs)):PS t H' x so sr m q n W dk:=by
 have vl':∀a b,(a,b)∈W→∃p st mk,(a,p)∈q.V∧0≤p∧p≤m.bl*m.pg-1∧m.bo.getD p.toNat .non=.ref st∧H' st=some (.tup [mk,.int b]):=λa b c=>by obtain⟨p,st,mk,a1,a2,a3,a4,a5⟩:=h.vl a b c;exact⟨p,st,mk,a1,a2,a3,a4,tp _ _ a5⟩
 exact { h with st:=st,vl:=vl' }
theorem PS.same(h:PS t H x so sr m q n W dk)(s:Same H H'):PS t H' x so sr m q n W dk:=h.mv (h.st.same s) λb xs e=>s _ _ e
theorem PS.kT(h:PS t H x so sr m q n W dk)(k:Keep [t.aA] H H')(tb:TbF t H'):PS t H' x so sr m q n W dk:=h.mv (h.st.kT k tb) λb xs e=>k.tp _ _ e
theorem PS.hold(h:PS t H x so sr m q n W dk)(s:Int):hold q s=decide (s∈W.map (·.1)):=by unfold W1.hold;exact wS.mpr h.pm.mem_iff
theorem PS.h64(h:PS t H x so sr m q n W dk):(hdN q.V).length<64:=by(
have so1:=h.so1
rw[h.pm.length_eq]
have:=q9J (l:=W.map (·.1)) (m:=(List.range so).map λi:Nat=>(i:Int)) h.nd λz hz=>by have:=h.kb z hz;exact mD.mpr ⟨z.toNat,k7.mpr (by lia),by lia⟩
rw[hV (as:=List.range so),mG]at this
lia)
theorem PS.spot(h:PS t H x so sr m q n W dk){l:List Nat}(hl:FreeIs q.B m.br m.cl q.fi l):zJ q.B q.P m.br q.fi l=if n<q.B*q.P then some (n / q.P)else none:=by rw[h.br,h.cl,h.fi]at hl;rw[h.br,h.fi];exact qDY h.ft.oq.p1 h.nb hl
theorem PS.at(h:PS t H x so sr m q n W dk)(hn:n<q.B*q.P):n / q.P<q.B∧q.fi.getD (n / q.P) 0=((n%q.P:Nat):Int)∧n / q.P*q.P+n%q.P=n∧n%q.P<q.P:=by obtain⟨a,b⟩:=q9P h.ft.oq.p1 hn;obtain⟨c,d⟩:=q25 (P:=q.P) (n:=n) h.ft.oq.p1;exact⟨a,by rw[h.fi];exact b,c.symm,d⟩
theorem PS.gd(h:PS t H x so sr m q n W false):Gd m:=⟨h.lf,λb=>by rw[h.br];exact rep8,h.li⟩
theorem PS.wrote{F:List Addr}(h:PS t H x so sr m q n W false)(hn:n<q.B*q.P)(hn9:n<1000){s v:Int}{mk:V}{tp:Addr}(s0:0≤s)(s1:s<(so:Int))(st':StAt t H' x (.int (so:Int)) (.int sr) (.int 0) (.int 1000000) (putC m n (.ref tp)) (q.put (n / q.P) (n%q.P) s))
 (htp:H' tp=some (.tup [mk,.int v])) (k:Keep F H H'):PS t H' x so sr (putC m n (.ref tp)) (q.put (n / q.P) (n%q.P) s) (n+1) (putW W s v) false:=by(
obtain⟨a,b,c,d⟩:=h.at hn
have so1:=h.so1
have rc:=h.rc
have eB:=h.ft.eB
have eP:=h.ft.eP
have nbo:=h.ft.ok.nbo
have lbo:m.bo.length=q.B*q.P:=by rw[eB,eP,←r9]at nbo;lia
have okd:(m.deed "put" (n:Int) ((n:Int) / m.pg) false).Ok:=h.ft.ok.deed (by lia)
have ok':CM.Ok (putC m n (.ref tp)):=⟨okd.bl1,okd.bl2,okd.pg1,okd.pg2,by show((m.bo.set n (.ref tp)).length:Int)=_;rw[gD];exact nbo,okd.ncl,okd.ndc,okd.nbr,okd.lim,okd.nrc⟩
refine⟨st',⟨ok',h.ft.oq.put a d b s0 (by lia),eB,eP⟩,h.br,h.cl,?_,h.li,by show m.lf.map _=none;rw[h.lf];rfl,hn,?_,λp hp=>?_,q7F h.nd,qI4 h.ft.oq.nd h.nd h.pm (by lia),λs' hs'=>?_,λs' v' hv=>?_,h.so1⟩
·show q.fi.set (n / q.P) (q.fi.getD (n / q.P) 0+1)=linF q.B q.P (n+1);rw[h.fi];exact qBG h.ft.oq.p1 hn
·show(m.rc++[_]).length=n+1;rw[mU,rc];rfl
·show(m.bo.set n (.ref tp)).getD p .non=.non;rw[q0F,kC (λy=>by lia)];exact h.cr p (by lia)
·obtain⟨v',hv⟩:=yF.mp hs';rcases(q1A h.nd).mp hv with hv|hv
 ·obtain⟨rfl,rfl⟩:s'=s∧v'=v:=by simpa using hv
  exact⟨s0,s1⟩
 exact h.kb s' (yF.mpr ⟨v',(jE.mp hv).1⟩)
rcases(q1A h.nd).mp hv with hv|hv
·obtain⟨rfl,rfl⟩:s'=s∧v'=v:=by simpa using hv
 refine⟨(n:Int),tp,mk,?_,by lia,?_,?_,htp⟩
 ·refine kP _ ?_;rw[c];simp
 ·show(n:Int)≤m.bl*m.pg-1;rw[eB,eP,←r9];lia
 show(m.bo.set n (.ref tp)).getD ((n:Int)).toNat .non=_;rw[show((n:Int)).toNat=n by lia,q0F,kG ⟨rfl,by lia⟩]
obtain⟨h1,h2⟩:=jE.mp hv
obtain⟨p,st,mk',a1,a2,a3,a4,a5⟩:=h.vl s' v' h1
refine⟨p,st,mk',mP _ (jE.mpr ⟨a1,h2⟩),a2,a3,?_,k.tp _ _ a5⟩
show(m.bo.set n (.ref tp)).getD p.toNat .non=_
rw[q0F,kC (λy=>by rw[←y.1,h.cr n (kB _)]at a4;cases a4)]
exact a4)
end
noncomputable def spWr(t:Adr):Sp:=λvs H Q E=>∃x so sr m q n W,∃s v:Int,vs=[.ref x.s,.int s,.int v]∧PS t H x so sr m q n W false∧0≤s∧s<(so:Int)∧0≤v∧v<10 ^ 30∧n<q.B*q.P∧n<1000∧((s∈W.map (·.1)∨((W.length:Nat):Int)<sr)→∀m' q' H',PS t H' x so sr m' q' (n+1) (putW W s v) false→q'.B=q.B→q'.P=q.P→(s,(n:Int))∈q'.V→Keep (t.aA::sf x) H H'→Q (.int (n:Int)) H')∧(¬(s∈W.map (·.1)∨((W.length:Nat):Int)<sr)→∀H',Same H H'→E (.ref t.C_Full) none H')
theorem q1U(T:Txt K mg t)(S:Fns K t)(B:BmIn base mg):S.eZ.OkE P w mg base 12 (spWr t):=by(
refine S.eZ.F.okE q5Y (λvs H Q E h=>?_) (λcdv A outer s H vs Q E hr h=>?_)
·repeat obtain⟨_,h⟩:=h
 all_goals subst_vars;rfl
obtain⟨x,so,sr,m,q,n,W,s,v,rfl,h,s0,s1,v0,v1,nb,n9,k,k2'⟩:=h
refine⟨_,(qB (jC (jG (pv 0) T.aB T.bD (u6 T S).mono hr S.aQ.b .nil qL (qA (pv 1) qC))) (qB (jA (jJ (jF (qT (q4G T S).mono hr rfl T.tE T.oW S.oF.b .nil qL (qA (pv 2) qC)))) (qD jD) qM) (qB (jC (yO yA (pv 0) T.aB T.f9 (q1T T S).mono hr S.bN.b .nil (qA (pv 1) qC))) (qB (jC (jK (pv 0) T.aB T.eC (vU T S B).mono hr S.bB.b .nil qL)) (qD (qO (jG (pv 0) T.aB T.oQ (q3N T S B).mono hr S.iH.b .nil qL (qA (pv 1) (qA (pv 2) qC))))))))),?_⟩
try dsimp-beta-proj-iota-zeta-eta only[wishK,cxK]
have hs:=h.st
refine(iV rfl (iM hs.o rfl ⟨_,rfl,x,_,_,_,m,q,.int s,(so:Int),rfl,hs,.int _,?_⟩))
rw[kG (inBi s0 (by lia))]
refine⟨_,rfl,.int v,rfl,.int _,?_⟩
refine⟨_,rfl,?_⟩
rw[inBi v0 (by lia)]
refine iteF ?_
refine(iV rfl (iM hs.o rfl ⟨_,rfl,x,_,_,_,m,q,s,sr,rfl,hs,h.ft,h.h64,λH1 s1'=>?_⟩))
have lw:(hdN q.V).length=W.length:=by rw[h.pm.length_eq,hV]
by_cases hw:s∈W.map (·.1)∨((W.length:Nat):Int)<sr
·rw[kC (λz=>by
  rw[h.hold,lw]at z;rcases hw with y|y
  ·exact absurd z.1 (by rw[hI y];decide)
  lia)]
 have h1:=h.same s1';refine(iV rfl (iM h1.st.o rfl ⟨x,_,_,_,_,m,q,rfl,h1.st,h1.ft,λl H2 hl k2 tb2=>?_⟩));rw[h1.spot hl,kG nb];refine iteT ?_;have h2:=h1.kT k2 tb2;refine(iV rfl (iM h2.st.o rfl ⟨_,rfl,_,rfl,x,_,_,_,_,m,q,s,v,rfl,h2.st,h2.ft,h2.gd,by rw[h.rc];lia,λl' hl'=>?_⟩));obtain⟨a,b,c,d⟩:=h2.at nb;refine⟨n / q.P,n%q.P,by rw[h2.spot hl',kG nb],b,by rw[c];exact h.cr n (kB _),λtp H3 htp k3 st3=>?_⟩;have hin:(s,((n / q.P*q.P+n%q.P:Nat):Int))∈(q.put (n / q.P) (n%q.P) s).V:=kP _ (by simp);rw[c]at st3 hin ⊢;exact k hw _ _ H3 (h2.wrote nb n9 s0 s1 st3 htp k3) rfl rfl hin (((Keep.same s1').trans (k2.mono (by simp))).trans k3)
rw[kG ⟨by rw[h.hold];exact hG (λy=>hw (.inl y)),by rw[lw];exact Int.not_lt.mp (λy=>hw (.inr y))⟩]
exact k2' hw H1 s1')
noncomputable def spPR(t:Adr):Sp:=λvs H Q E=>∃x so sr m q n W,∃s:Int,vs=[.ref x.s,.int s]∧PS t H x so sr m q n W false∧0≤s∧s<(so:Int)∧(s∉W.map (·.1)→∀H',Same H H'→Q .non H')∧(∀v,(s,v)∈W→∀H',Same H H'→Q (.int v) H')
theorem q2N(T:Txt K mg t)(S:Fns K t):S.fR.Ok0 P w mg base 5 (spPR t):=by(
refine S.fR.F.ok0 q6M λcdv A _ s H vs Q E hr h=>?_
obtain⟨x,so,sr,m,q,n,W,s,rfl,h,s0,s1,kn,ky⟩:=h
have hu:=vR hr
have hs:=h.st
refine⟨_,(qB (jC (jG (pv 0) T.aB T.bD (u6 T S).mono hr S.aQ.b .nil qL (qA (pv 1) qC))) (qB (jA (qY vV (pv 1) (jK (pv 0) T.aB T.eE (vB T S).mono hr S.bY.b .nil qL) rfl) (qD (qO uO)) qM) (qD (qO (yJ q3Q (jG (qJ (pv 0) rfl) T.aE T.aAE (q8G T S).mono hr S.o8.b .nil qL (qA (qZ hu (qJ (qJ (pv 0) rfl) rfl) (pv 1) (λ_ _=>rfl)) qC)) qI (λ_ _=>rfl)))))),?_⟩
try dsimp-beta-proj-iota-zeta-eta only[wishK,cxK]
refine(iV rfl (iM hs.o rfl ⟨_,rfl,x,_,_,_,m,q,.int s,(so:Int),rfl,hs,.int _,?_⟩))
rw[kG (inBi s0 (by lia))]
refine⟨_,rfl,iV rfl (iM hs.o rfl ⟨x,_,_,_,_,m,q,rfl,hs,h.ft,h.h64,λl ns H1 hn s1 n1 h1=>?_⟩)⟩
have hs1:=hs.same s1
refine⟨l,_,rfl,.inl (SqL.of h1),rfl,q7M,_,rfl,?_⟩
have e:inV (.int s) (ns.map V.int)=decide (s∈W.map (·.1)):=by rw[q26,hn.hold s,h.hold]
show if(!inV (.int s) (ns.map V.int))=true then _ else _
rw[e]
by_cases y:s∈W.map (·.1)
·rw[hI y];obtain⟨v,hv⟩:=yF.mp y;obtain⟨p,st,mk,a1,a2,a3,a4,a5⟩:=h.vl s v hv;refine iteF ?_;refine(iV rfl (iF hs1.o T.aB T.bE rfl (iM hs1.ch.ins rfl (iV rfl (iF hs1.o T.aB T.aJ rfl (iF hs1.bk.o T.aF T.aR rfl ⟨_,rfl,x.k.wv,.int p,rfl,?_,?_⟩))))))
 ·have:=DGet.k (k:=Sum.inl s) hs1.bk.w;rw[uT h.ft.oq.nd a1]at this;exact this
 refine⟨x.c,x.a,m,_,rfl,hs1.ch,h.ft.ok,h.lf,a2,a3,?_⟩;rw[a4];exact(iT (k:=1) (v:=.int v) (SqT.of (s1 _ _ a5)) rfl (ky v hv H1 s1))
rw[hG y]
exact iteT (kn y H1 s1))
noncomputable def lowC(c:Nat):Bool:=!decide (([c]:List Nat) < [97])&& !decide (([122]:List Nat) < [c])
noncomputable def isNm:V→Bool
| .str x=>decide (1≤x.length)&&decide (x.length≤8)&&x.cps.toList.all lowC
|_=>false
noncomputable def spNm:Sp:=λvs H Q _=>∃v,vs=[v]∧Knd H v∧(∀x,v=.str x→x.length≤100)∧∀H',Same H H'→Q (.bl (isNm v)) H'
theorem qAQ(T:Txt K mg t)(S:Fns K t):S.aAD.Ok0 P w mg base 1 spNm:=by(
refine S.aAD.F.ok0 qAM λcdv A _ s H vs Q E hr h=>?_
obtain⟨v,rfl,kn,ln,k⟩:=h
refine⟨_,(qB (jA (PW.pt (q11 (jJ (jF (qU jY (by rfl) T.aL (by kernel_rfl) (qA (pv 0) (qA (vA rfl T.aBI (by kernel_rfl) rfl (v:=.ty "str")) qC))))) (zE (jJ (q58 q8Y q8Y qI (qU q7X (by rfl) T.fO mW (qA (pv 0) qC)) qI))))) (qD (qO uN)) qM) (qD (qO (qU (qC5 rfl) (by rfl) T.aBJ (by kernel_rfl) (qA (yV ["sign"] [] rfl (qHZ (pv 0)) (λ_ _ _ _ _=>(qR (i:=0) (show List.Nodup (["sign"]:List Str)from by decide) rfl (Or.inl rfl))) (λ_ _ _ _ _=>vX) (λ_ _ _ _ _=>(q90 q7J q7J qQ (pv 0) qQ)) (by kernel_rfl) (yC (by decide))) qC))))),?_⟩
try dsimp-beta-proj-iota-zeta-eta only[wishK,cxK]
obtain⟨ty,q,_,_,e3⟩:=kn.ty (K:=K)
refine⟨_,rfl,v,_,_,ty,_,rfl,rfl,.inl q,e3,_,rfl,?_⟩
cases v with
|str x=>
 have sz:(100:Nat)<sizeLine:=by decide
 have l1:=ln x rfl;refine iteF ?_;refine⟨_,rfl,_,rfl,by lia,_,_,rfl,rfl,_,rfl,?_⟩;have kk:∀H',Same H H'→Q (.bl (decide (1≤x.length)&&decide (x.length≤8)&&x.cps.toList.all lowC)) H':=k;by_cases z1:1≤x.length
 ·rw[hI (show(1:Int)≤(x.length:Int) by lia)];rw[hI z1]at kk;refine iteT (iI ⟨_,rfl,?_⟩);by_cases z2:x.length≤8
  ·rw[hI (show(x.length:Int)≤(8:Int) by lia)];rw[hI z2]at kk;refine iteF ?_;refine⟨_,rfl,x,rfl,λD H1 nD s1 hD=>?_⟩;refine qFK (D:=D) (λi H3=>Same H H3∧H3 D=some (.lst (((x.cps.toList.take i).map lowC).map V.bl))) ⟨s1,hD⟩ (λi c H3 hc hp=>?_) (λH3 hp=>?_)
   ·obtain⟨sm,hd⟩:=hp;have ci:i<x.cps.toList.length:=(hU.mp hc).1;have cl:x.cps.toList.length=x.length:=by simp[Str.length]
    have fin:∃vs,H3 D=some (HO.lst vs)∧vs.length<sizeLine∧Same H (upd H3 D (.lst (vs++[.bl (lowC c)])))∧upd H3 D (.lst (vs++[.bl (lowC c)])) D=some (.lst (((x.cps.toList.take (i+1)).map lowC).map V.bl)):=by
     refine⟨_,hd,by rw[hV,hV,mR];lia,λb o e=>?_,?_⟩
     ·rw[qE (qF e nD)];exact sm _ _ e
     rw[qG,q7H (f:=lowC) hc,kX];rfl
    refine⟨_,rfl,_,_,rfl,rfl,_,rfl,?_⟩;show if(!decide (([c]:List Nat) < [97]))=true then _ else _;rw[show lowC c=(!decide (([c]:List Nat) < [97])&& !decide (([122]:List Nat) < [c]))from rfl]at fin;cases z3:!decide (([c]:List Nat) < [97])with
    |true=>rw[z3,cV]at fin;exact iteT ⟨(⟨#[c]⟩:Str),(Str.ofString "z"),rfl,rfl,fin⟩
    |false=>rw[z3,pZ]at fin;exact iteF fin
   obtain⟨sm,hd⟩:=hp;rw[mZ]at hd;refine⟨D,_,rfl,SqL.of hd,?_⟩;have:=kk H3 sm;rw[xF];exact this
  rw[hG (show ¬(x.length:Int)≤(8:Int) by lia)];rw[hG z2]at kk;exact iteT (kk H (Same.refl H))
 rw[hG (show ¬(1:Int)≤(x.length:Int) by lia)];rw[hG z1]at kk;exact iteF ⟨_,rfl,iteT (kk H (Same.refl H))⟩
|_=>exact iteT (k H (Same.refl H)))
noncomputable def isF:V→Bool
| .int i=>decide (1≤i)
|_=>false
theorem q1V(T:Txt K mg t)(S:Fns K t):S.eW.Ok0 P w mg base 2 (λvs H Q _=>∃v,vs=[v]∧Knd H v∧Q (.bl (isF v)) H):=by(
refine S.eW.F.ok0 q5W λcdv A _ s H vs Q E hr h=>?_
obtain⟨v,rfl,kn,k⟩:=h
refine⟨_,(qD (qO (uP (qT (q4E T S).mono hr rfl T.oU T.oS S.oE.b .nil qL (qA (pv 0) qC)) (uZ (yP q8Z (pv 0) qI (qX _)))))),?_⟩
try dsimp-beta-proj-iota-zeta-eta only[wishK,cxK]
refine⟨_,rfl,v,rfl,kn,_,rfl,?_⟩
cases v with
|int i=>exact iteT ⟨_,rfl,iI k⟩
|_=>exact iteF k)
noncomputable def RwAt(H:Hp)(v:V)(x:Str)(c s:Int):Prop:=∃a,v=.ref a∧H a=some (.tup [.str x,.int c,.int s])
theorem RwAt.tp{H H':Hp}{v:V}{x:Str}{c s:Int}(h:RwAt H v x c s)(k:∀b xs,H b=some (.tup xs)→H' b=some (.tup xs)):RwAt H' v x c s:=by obtain⟨a,e,h⟩:=h;exact⟨a,e,k _ _ h⟩
inductive Fl:V→Prop
|non:Fl .non
|bl (b:Bool):Fl (.bl b)
|int (i:Int):Fl (.int i)
|str (x:Str) (h:x.length≤100):Fl (.str x)
theorem Fl.knd{H:Hp}{v:V}(h:Fl v):Knd H v:=by(
cases h with
|non=>exact .non
|bl b=>exact .bl b
|int i=>exact .int i
|str x _=>exact .str x)
theorem Fl.len{v:V}(h:Fl v):∀x,v=.str x→x.length≤100:=λx e=>by(
cases h with
|str y hy=>cases e;exact hy
|_=>cases e)
noncomputable def RowX(H:Hp)(v:V):Prop:=∃a xs,v=.ref a∧(H a=some (.tup xs)∨H a=some (.lst xs))∧xs.length≤100∧∀w∈xs,Fl w
noncomputable def zQ(H:Hp)(v:V):Prop:=∃x c s,RwAt H v x c s∧isNm (.str x)=true∧1≤c∧1≤s
theorem qI5:W.kitOne K (.type "list") (.type "tuple")=some false:=by kernel_rfl
noncomputable def qJF(t:Adr):Sp:=λvs H Q E=>∃v,vs=[v]∧RowX H v∧(zQ H v→∀H',Same H H'→Q .non H')∧(¬zQ H v→∀H',Same H H'→E (.ref t.C_NoPart) none H')
theorem q8N(T:Txt K mg t)(S:Fns K t):S.oR.OkE P w mg base 3 (qJF t):=by(
refine S.oR.F.okE q88 (λvs H Q E h=>?_) (λcdv A outer s H vs Q E hr h=>?_)
·repeat obtain⟨_,h⟩:=h
 all_goals subst_vars;rfl
obtain⟨v,rfl,⟨a,xs,rfl,hx,lx,fl⟩,k1,k2⟩:=h
have rs:(1:Nat)≤sizeLine:=by decide
have sz:(100:Nat)<sizeLine:=by decide
refine⟨_,(qB (jA (PW.pt (q11 (jJ (jF (qU jY (by rfl) T.aL (by kernel_rfl) (qA (pv 0) (qA (vA rfl T.aBC (by kernel_rfl) rfl (v:=.ty "tuple")) qC))))) (zE (qY q2C (qU jH (by rfl) T.fO mW (qA (pv 0) qC)) qI (qX _))))) (qD (uG yA rfl rfl T.aX T.eJ (qA qQ qC))) qM) (qB (jA (jJ (jF (qT (qAQ T S).mono hr rfl T.aAT T.aAS S.aAD.b .nil qL (qA (yJ q3Q (pv 0) qI (λ_ _=>rfl)) qC)))) (qD (uG yA rfl rfl T.aX T.eJ (qA qQ qC))) qM) (qD (jA (PW.pt (q11 (jJ (jF (qT (q1V T S).mono hr rfl T.f7 T.fY S.eW.b .nil qL (qA (yJ q3Q (pv 0) qI (λ_ _=>rfl)) qC)))) (zE (jJ (jF (qT (q1V T S).mono hr rfl T.f7 T.fY S.eW.b .nil qL (qA (yJ q3Q (pv 0) qI (λ_ _=>rfl)) qC))))))) (qD (uG yA rfl rfl T.aX T.eJ (qA qQ qC))) qM)))),?_⟩
try dsimp-beta-proj-iota-zeta-eta only[wishK,cxK]
rcases hx with ha|ha
·refine⟨_,rfl,.ref a,_,_,.type "tuple",_,rfl,rfl,.inl (.tup ha),qHE,_,rfl,iteF ?_⟩;refine⟨_,rfl,a,_,rfl,.inr (SqT.of ha),rfl,_,rfl,?_⟩;by_cases l3:xs.length=3
 ·rw[show(!decide (V.int (xs.length:Int)=V.int 3))=false by rw[l3];simp];refine iteF ?_;obtain⟨e0,e1,e2,rfl⟩:∃e0 e1 e2,xs=[e0,e1,e2]:=by
   match xs,l3 with
   | [a,b,c],_=>exact⟨a,b,c,rfl⟩
  have f0:=fl e0 (by simp);have f1:=fl e1 (by simp);have f2:=fl e2 (by simp);refine⟨_,rfl,iT (k:=0) (v:=e0) (SqT.of ha) rfl ?_⟩;refine⟨e0,rfl,f0.knd,f0.len,λH1 s1=>⟨_,rfl,?_⟩⟩;have ha1:=s1 _ _ ha;have nrow:∀{x c s},RwAt H (.ref a) x c s→e0=.str x∧e1=.int c∧e2=.int s:=fun {x c s} ⟨b,eb,hb⟩=>by cases eb;rw[ha]at hb;cases hb;exact⟨rfl,rfl,rfl⟩
  cases n0:isNm e0 with
  |false=>refine iteT ⟨rs,k2 (λhZ=>?_) H1 s1⟩;obtain⟨x,c,s,r,h1,_⟩:=hZ;rw[(nrow r).1,h1]at n0;cases n0
  |true=>
   refine iteF ?_;refine⟨_,rfl,iT (k:=1) (v:=e1) (SqT.of ha1) rfl ⟨e1,rfl,f1.knd,_,rfl,?_⟩⟩;cases n1:isF e1 with
   |false=>refine iteT ⟨rs,k2 (λhZ=>?_) H1 s1⟩;obtain⟨x,c,s,r,_,h1,_⟩:=hZ;rw[(nrow r).2.1]at n1;exact absurd h1 (wF n1)
   |true=>
    refine iteF ?_;refine⟨_,rfl,iT (k:=2) (v:=e2) (SqT.of ha1) rfl ⟨e2,rfl,f2.knd,_,rfl,?_⟩⟩;cases n2:isF e2 with
    |false=>refine iteT ⟨rs,k2 (λhZ=>?_) H1 s1⟩;obtain⟨x,c,s,r,_,_,h1⟩:=hZ;rw[(nrow r).2.2]at n2;exact absurd h1 (wF n2)
    |true=>
     refine iteF (k1 ?_ H1 s1);cases e0 with
     |str x=>
      cases e1 with
      |int c=>
       cases e2 with
       |int s=>exact⟨x,c,s,⟨a,rfl,ha⟩,n0,m6 n1,m6 n2⟩
       |_=>cases n2
      |_=>cases n1
     |_=>cases n0
 rw[show(!decide (V.int (xs.length:Int)=V.int 3))=true by simp;lia];refine iteT ⟨rs,k2 (λhZ=>?_) H (Same.refl H)⟩;obtain⟨x,c,s,⟨b,eb,hb⟩,_⟩:=hZ;cases eb;rw[ha]at hb;cases hb;exact l3 rfl
refine⟨_,rfl,.ref a,_,_,.type "list",_,rfl,rfl,.inl (.lst ha),qI5,_,rfl,iteT ⟨rs,k2 (λhZ=>?_) H (Same.refl H)⟩⟩
obtain⟨x,c,s,⟨b,eb,hb⟩,_⟩:=hZ
cases eb
rw[ha]at hb
cases hb)
theorem q45{K:W.Frag}{l D:Addr}{H1 H2:Hp}{us:List V}{n k:Nat}{g:Nat→V}{j:Int}{σ0:St}{R:Hp→Prop}(hk:k<σ0.length)(hl:H1 l=some (.lst us))(s2:Same H1 H2)(nD:H1 D=none)(hD:H2 D=some (.lst []))(ln:us.length=n)(n4:n≤100)
 (h:∀i,i<n→∃a xs,us[i]?=some (.ref a)∧H1 a=some (.tup xs)∧atI xs j=some (g i)) (hd:∀H3,Same H1 H3→H3 D=some (.lst ((List.range n).map g))→R H3):
 ∃W:Nat→Nat→Hp→Prop,(∃m,W 0 m H2)∧∀i m H3,W i m H3→((Itl K l).stop i H3∧R H3)∨((Itl K l).go i H3∧∃N:Hp→Prop,(∀H',N H'→∃m',m'<m∧W (i+1) m' H')∧∀x H4,(Itl K l).yld i H3 x H4→zF k x σ0 H4 λσ5 H5=>q16 σ5 H5 λb H6=>
   if b=true then tOp (rIxT K) (tVar k) (tC (.int j)) σ5 H6 (λv H7=>∃vs,H7 D=some (.lst vs)∧vs.length<sizeLine∧N (upd H7 D (.lst (vs++[v]))))else N H6):=by(
have sz:(100:Nat)<sizeLine:=by decide
refine qDK (K:=K) (xs:=us) (λi H3=>Same H1 H3∧H3 D=some (.lst ((List.range i).map g))) ⟨s2,hD⟩ (λi H3 hp=>SqL.of (hp.1 _ _ hl)) (λi x H3 hx hp=>?_) (λH3 hp=>?_)
·obtain⟨sm,hd⟩:=hp;have hi:i<n:=by rw[←ln];exact(hU.mp hx).1
 obtain⟨a,xs,e1,e2,e3⟩:=h i hi;rw[hx]at e1;cases e1;refine⟨_,by rw[wI hk],a,xs,j,g i,rfl,rfl,SqT.of (sm _ _ e2),e3,_,hd,by rw[hV,mG];lia,λb o e=>?_,?_⟩
 ·rw[qE (qF e nD)];exact sm _ _ e
 rw[qG,g8,kX];rfl
obtain⟨sm,hd'⟩:=hp
rw[ln]at hd'
exact hd H3 sm hd')
structure TabOk(n:Nat)(nm:Nat→Str)(ct sc:Nat→Nat):Prop where
n4:n≤4
u:Unl n nm
nm:∀i,i<n→isNm (.str (nm i))=true
c1:∀i,i<n→1≤ct i
s1:∀i,i<n→1≤sc i
noncomputable def Rws(H:Hp)(us:List V)(n:Nat)(nm:Nat→Str)(ct sc:Nat→Nat):Prop:=us.length=n∧∀i,i<n→∃v,us[i]?=some v∧RwAt H v (nm i) (ct i) (sc i)
theorem Rws.tp{H H':Hp}{us:List V}{n:Nat}{nm:Nat→Str}{ct sc:Nat→Nat}(h:Rws H us n nm ct sc)(k:∀b xs,H b=some (.tup xs)→H' b=some (.tup xs)):Rws H' us n nm ct sc:=⟨h.1,λi hi=>by
 obtain⟨v,e,r⟩:=h.2 i hi;exact⟨v,e,r.tp k⟩⟩
theorem Rws.same{H H':Hp}{us:List V}{n:Nat}{nm:Nat→Str}{ct sc:Nat→Nat}(h:Rws H us n nm ct sc)(k:Same H H'):Rws H' us n nm ct sc:=h.tp λb xs e=>k _ _ e
theorem Rws.at{H:Hp}{us:List V}{n:Nat}{nm:Nat→Str}{ct sc:Nat→Nat}(h:Rws H us n nm ct sc){i:Nat}(hi:i<n):∃a,us[i]?=some (.ref a)∧H a=some (.tup [.str (nm i),.int (ct i:Nat),.int (sc i:Nat)]):=by obtain⟨v,e,a,rfl,ha⟩:=h.2 i hi;exact⟨a,e,ha⟩
theorem qCI{n:Nat}{nm:Nat→Str}(u:Unl n nm):(unl ((List.range n).map λi=>(Sum.inr (nm i):Key))).length=n:=by(
have nd:((List.range n).map λi=>(Sum.inr (nm i):Key)).Nodup:=by refine dS _ (λa b h=>h) (rQ.mpr λi j hi hj hij=>?_);simp at hi hj ⊢;intro e;have:=u i j hi hj e;lia
have e:=q7I (ks:=(List.range n).map λi=>(Sum.inr (nm i):Key))
have l1:=q4Z (ks:=(List.range n).map λi=>(Sum.inr (nm i):Key))
have l2:=q9J nd λx hx=>q3G.mpr hx
simp at l1 l2
lia)
theorem qI6{n:Nat}{nm:Nat→Str}(h:¬Unl n nm):(unl ((List.range n).map λi=>(Sum.inr (nm i):Key))).length<n:=by(
have l1:=q4Z (ks:=(List.range n).map λi=>(Sum.inr (nm i):Key))
rw[hV,mG]at l1
refine Nat.lt_of_le_of_ne l1 λe=>h ?_
have nd:=q7I (ks:=(List.range n).map λi=>(Sum.inr (nm i):Key))
have pm:(unl ((List.range n).map λi=>(Sum.inr (nm i):Key))).Nodup∧∀x,x∈unl ((List.range n).map λi=>(Sum.inr (nm i):Key))↔x∈(List.range n).map λi=>(Sum.inr (nm i):Key):=⟨nd,λx=>q3G⟩
intro i j hi hj eq
refine rR λne=>?_
have hs:∀x∈unl ((List.range n).map λi=>(Sum.inr (nm i):Key)),x∈((List.range n).filter λk=>decide (k≠j)).map λi=>(Sum.inr (nm i):Key):=λx hx=>by
 obtain⟨k,hk,rfl⟩:=mD.mp (q3G.mp hx);by_cases c:k=j
 ·subst c;exact mD.mpr ⟨i,mO.mpr ⟨k7.mpr hi,by simp[ne]⟩,by rw[eq]⟩
 exact mD.mpr ⟨k,mO.mpr ⟨hk,by simp[c]⟩,rfl⟩
have l2:=q9J nd hs
rw[hV,e]at l2
have l3:((List.range n).filter λk=>decide (k≠j)).length<(List.range n).length:=List.length_filter_lt_length_iff_exists.mpr ⟨j,k7.mpr hj,by simp⟩
rw[mG]at l3
lia)
noncomputable def qI7(t:Adr):Sp:=λvs H Q E=>∃l us tm td b p so sr i d,vs=[.ref l,.ref tm]∧H l=some (.lst us)∧us.length≤8∧(∀v∈us,RowX H v)∧H tm=some (.ins t.C_Terms td (teF b p (.int so) (.int sr) i d))∧(∀n nm ct sc,Rws H us n nm ct sc→(∀i,i<n→isNm (.str (nm i))=true∧1≤ct i∧1≤sc i)→(Unl n nm∧((fst ct n:Nat):Int)≤so∧((fst sc n:Nat):Int)≤sr→∀H',Same H H'→Q .non H')∧(¬(Unl n nm∧((fst ct n:Nat):Int)≤so∧((fst sc n:Nat):Int)≤sr)→∀H',Same H H'→E (.ref t.C_NoPart) none H'))∧((∃v∈us,¬zQ H v)→∀H',Same H H'→E (.ref t.C_NoPart) none H')
theorem qFN{H:Hp}{us:List V}(h:∀v∈us,zQ H v):∃nm ct sc,Rws H us us.length nm ct sc∧∀i,i<us.length→isNm (.str (nm i))=true∧1≤ct i∧1≤sc i:=by(
have h':∀i,∃x:Str,∃c s:Nat,i<us.length→∃v,us[i]?=some v∧RwAt H v x (c:Int) (s:Int)∧isNm (.str x)=true∧1≤c∧1≤s:=λi=>by
 by_cases hi:i<us.length
 ·obtain⟨x,c,s,r,a1,a2,a3⟩:=h _ (dY hi);exact⟨x,c.toNat,s.toNat,λ_=>⟨_,hZ hi,by rw[gN (by lia),gN (by lia)];exact r,a1,by lia,by lia⟩⟩
 exact⟨"",0,0,λh=>absurd h hi⟩
obtain⟨nm,h'⟩:=wH h'
obtain⟨ct,h'⟩:=wH h'
obtain⟨sc,h'⟩:=wH h'
refine⟨nm,ct,sc,⟨rfl,λi hi=>?_⟩,λi hi=>?_⟩
·obtain⟨v,e,r,_⟩:=h' i hi;exact⟨v,e,r⟩
obtain⟨v,e,r,a⟩:=h' i hi
exact a)
theorem q6S(T:Txt K mg t)(S:Fns K t):S.iO.OkE P w mg base 4 (qI7 t):=by(
refine S.iO.F.okE q2G (λvs H Q E h=>?_) (λcdv A outer s H vs Q E hr h=>?_)
·repeat obtain⟨_,h⟩:=h
 all_goals subst_vars;rfl
obtain⟨l,us,tm,td,b,p,so,sr,i0,d,rfl,hl,l8,rx,htm,k1,k2⟩:=h
have rs:(1:Nat)≤sizeLine:=by decide
refine⟨_,(qB (jA (jJ (jF (qU jY (by rfl) T.aL (by kernel_rfl) (qA (pv 0) (qA (vA rfl T.tQ (by kernel_rfl) rfl (v:=.ty "list")) qC))))) (qD (uG yA rfl rfl T.aX T.eJ (qA qQ qC))) qM) (qB (uQ nP rfl (jW (pv 0)) (qR (i:=2) q2G.nd rfl (Or.inl rfl)) (qD (jC (q9A yA (q8N T S).mono hr rfl T.xU T.xR S.oR.b .nil (qA (pv 2) qC))))) (qB (jA (qY q70 (qU qCE (by rfl) T.fO mW (qA (zC (qCD rfl) (by rfl) T.aBL (by kernel_rfl) (qA (yV ["row"] [] rfl (jW (pv 0)) (λ_ _ _ _ _=>(qR (i:=0) (show List.Nodup (["row"]:List Str)from by decide) rfl (Or.inl rfl))) (λ_ _ _ _ _=>vX) (λ_ _ _ _ _=>(yJ (q22 (K:=K) rfl) (pv 0) qI (λ_ _=>rfl))) (by kernel_rfl) (yC (by decide))) qC)) qC)) (qU jH (by rfl) T.fO mW (qA (pv 0) qC)) (qX _)) (qD (uG yA rfl rfl T.aX T.eJ (qA qQ qC))) qM) (qB (jA (qY qCP (qU (q0E rfl) (by rfl) T.aAW (by kernel_rfl) (qA (yV ["row"] [] rfl (jW (pv 0)) (λ_ _ _ _ _=>(qR (i:=0) (show List.Nodup (["row"]:List Str)from by decide) rfl (Or.inl rfl))) (λ_ _ _ _ _=>vX) (λ_ _ _ _ _=>(yJ (q22 (K:=K) rfl) (pv 0) qI (λ_ _=>rfl))) (by kernel_rfl) (yC (by decide))) qC)) (qJ (pv 1) rfl) (qX _)) (qD (uG yA rfl rfl T.aX T.eJ (qA qQ qC))) qM) (qD (jA (qY qCP (qU (q0E rfl) (by rfl) T.aAW (by kernel_rfl) (qA (yV ["row"] [] rfl (jW (pv 0)) (λ_ _ _ _ _=>(qR (i:=0) (show List.Nodup (["row"]:List Str)from by decide) rfl (Or.inl rfl))) (λ_ _ _ _ _=>vX) (λ_ _ _ _ _=>(yJ (q22 (K:=K) rfl) (pv 0) qI (λ_ _=>rfl))) (by kernel_rfl) (yC (by decide))) qC)) (qJ (pv 1) rfl) (qX _)) (qD (uG yA rfl rfl T.aX T.eJ (qA qQ qC))) qM)))))),?_⟩
try dsimp-beta-proj-iota-zeta-eta only[wishK,cxK]
refine⟨_,rfl,.ref l,_,_,.type "list",_,rfl,rfl,.inl (.lst hl),qAA,_,rfl,iteF ?_⟩
refine⟨_,rfl,l,rfl,⟨_,SqL.of hl⟩,?_⟩
have rxs:∀{H'},Same H H'→∀v,RowX H v→RowX H' v∧(zQ H' v↔zQ H v):=fun {H'} s v ⟨a,xs,e,hx,l3,fl⟩=>by
 subst e;refine⟨⟨a,xs,rfl,hx.imp (s _ _) (s _ _),l3,fl⟩,λ⟨x,c,s',⟨b,eb,hb⟩,r⟩=>⟨x,c,s',⟨b,eb,?_⟩,r⟩,λ⟨x,c,s',r,r'⟩=>⟨x,c,s',r.tp λb xs e=>s _ _ e,r'⟩⟩;cases eb;rcases hx with h|h
 ·rw[s _ _ h]at hb;cases hb;exact h
 rw[s _ _ h]at hb;cases hb
refine vE (K:=K) (xs:=us) (λi σ' H2=>∃y,σ'=[some (.ref l),some (.ref tm),y]∧Same H H2∧∀v∈us.take i,zQ H v) ⟨_,rfl,Same.refl H,by simp⟩ (λi σ' H2 hi hp=>?_) (λi y σ' H2 hy hp=>?_) (λσ' H2 hp=>?_)
·obtain⟨y,rfl,sm,_⟩:=hp;exact SqL.of (sm _ _ hl)
·obtain⟨y',rfl,sm,ho⟩:=hp;have hm:=mJ hy;obtain⟨r1,r2⟩:=rxs sm y (rx y hm);refine⟨_,rfl,y,rfl,r1,λok H3 s3=>⟨_,rfl,sm.trans s3,λv hv=>?_⟩,λno H3 s3=>k2 ⟨y,hm,λo=>no (r2.mpr o)⟩ H3 (sm.trans s3)⟩;obtain⟨hi,rfl⟩:=hU.mp hy;rw[←mB hi]at hv;rcases gA.mp hv with h|h
 ·exact ho v h
 rw[kF.mp h];exact r2.mp ok
obtain⟨y',rfl,sm,ho⟩:=hp
rw[mZ]at ho
obtain⟨nm,ct,sc,rw',ok⟩:=qFN ho
obtain⟨g1,g2⟩:=k1 _ nm ct sc rw' ok
generalize hn:us.length=n at rw' ok g1 g2 l8
have ln:=hn
have rw2:=rw'.same sm
have hl2:=sm _ _ hl
refine⟨_,rfl,l,rfl,⟨_,SqL.of hl2⟩,λD H3 nD s3 hD=>?_⟩
refine q45 (n:=n) (g:=λi=>.str (nm i)) (by show(0:Nat)<1;decide) hl2 s3 nD hD ln (by lia) (λi hi=>?_) λH4 s4 hD4=>?_
·obtain⟨a,e,ha⟩:=rw2.at hi;exact⟨a,_,e,ha,rfl⟩
have hk:H4 D=some (.lst (((List.range n).map λi=>(Sum.inr (nm i):Key)).map kV)):=by rw[hD4,dQ];rfl
have ul:=q4Z (ks:=(List.range n).map λi=>(Sum.inr (nm i):Key))
rw[hV,mG]at ul
refine⟨D,_,rfl,SqL.of hk,by rw[hV,mG];lia,λa H5 na s5 h5=>?_⟩
refine⟨a,_,rfl,h5,by lia,?_⟩
have s25:=s4.trans s5
refine⟨_,rfl,l,us,rfl,.inl (SqL.of (s25 _ _ hl2)),iI ⟨_,rfl,?_⟩⟩
rw[ln]
by_cases cu:Unl n nm
·rw[qCI cu,hG (Int.lt_irrefl _)];refine iteF ?_;refine⟨_,rfl,l,rfl,⟨_,SqL.of (s25 _ _ hl2)⟩,λD2 H6 n6 s6 h6=>?_⟩;refine q45 (n:=n) (g:=λi=>.int (ct i:Nat)) (by show(0:Nat)<1;decide) (s25 _ _ hl2) s6 n6 h6 ln (by lia) (λi hi=>?_) λH7 s7 h7=>?_
 ·obtain⟨a,e,ha⟩:=(rw2.same s25).at hi;exact⟨a,_,e,ha,rfl⟩
 have h7:H7 D2=some (.lst (((List.range n).map λi=>((ct i:Nat):Int)).map V.int)):=by rw[h7,dQ];rfl
 have tm7:=(sm.trans (s25.trans s7)) _ _ htm;refine⟨D2,_,rfl,SqL.of h7,iV rfl (iF tm7 T.aK T.bL rfl (iI ⟨_,rfl,?_⟩))⟩;rw[q3I];by_cases c1:((fst ct n:Nat):Int)≤so
 ·rw[hG (by lia)];refine iteF ?_;have s25:=s25.trans s7;refine⟨_,rfl,l,rfl,⟨_,SqL.of (s25 _ _ hl2)⟩,λD3 H6 n6 s6 h6=>?_⟩;refine q45 (n:=n) (g:=λi=>.int (sc i:Nat)) (by show(0:Nat)<1;decide) (s25 _ _ hl2) s6 n6 h6 ln (by lia) (λi hi=>?_) λH8 s8 h8=>?_
  ·obtain⟨a,e,ha⟩:=(rw2.same s25).at hi;exact⟨a,_,e,ha,rfl⟩
  have h8:H8 D3=some (.lst (((List.range n).map λi=>((sc i:Nat):Int)).map V.int)):=by rw[h8,dQ];rfl
  have tm8:=(sm.trans (s25.trans s8)) _ _ htm;refine⟨D3,_,rfl,SqL.of h8,iV rfl (iF tm8 T.aK T.bP rfl (iI ⟨_,rfl,?_⟩))⟩;rw[q3I];by_cases c2:((fst sc n:Nat):Int)≤sr
  ·rw[hG (by lia)];exact iteF (g1 ⟨cu,c1,c2⟩ H8 (sm.trans (s25.trans s8)))
  rw[hI (by lia)];exact iteT ⟨rs,g2 (λw=>c2 w.2.2) H8 (sm.trans (s25.trans s8))⟩
 rw[hI (by lia)];exact iteT ⟨rs,g2 (λw=>c1 w.2.1) H7 (sm.trans (s25.trans s7))⟩
have:=qI6 cu
rw[hI (by lia)]
exact iteT ⟨rs,g2 (λw=>cu w.1) H5 (sm.trans s25)⟩)
structure Pz where
p:Addr
pd:Addr
fs:Addr
cs:Addr
ss:Addr
structure PtAt(t:Adr)(H:Hp)(z:Pz)(s:Addr)(n:Nat)(nm:Nat→Str)(ct sc:Nat→Nat):Prop where
o:H z.p=some (.ins t.C_Parts z.pd [("store",.ref s),("firsts",.ref z.fs),("counts",.ref z.cs),("shares",.ref z.ss)])
f:H z.fs=some (.dK (dN n nm λi=>.int (fst ct i:Nat)))
c:H z.cs=some (.dK (dN n nm λi=>.int (ct i:Nat)))
s:H z.ss=some (.dK (dN n nm λi=>.int (sc i:Nat)))
d1:z.fs≠z.ss
d2:z.cs≠z.ss
noncomputable def zf(z:Pz):List Addr:=[z.p,z.fs,z.cs,z.ss]
theorem PtAt.keep{t:Adr}{H H':Hp}{z:Pz}{s:Addr}{n:Nat}{nm:Nat→Str}{ct sc:Nat→Nat}(h:PtAt t H z s n nm ct sc){F:List Addr}(k:Keep F H H')(d:∀b∈zf z,b∉F):PtAt t H' z s n nm ct sc:=⟨k.k _ _ (d _ (by simp[zf])) h.o,k.k _ _ (d _ (by simp[zf])) h.f,k.k _ _ (d _ (by simp[zf])) h.c,k.k _ _ (d _ (by simp[zf])) h.s,h.d1,h.d2⟩
theorem PtAt.same{t:Adr}{H H':Hp}{z:Pz}{s:Addr}{n:Nat}{nm:Nat→Str}{ct sc:Nat→Nat}(h:PtAt t H z s n nm ct sc)(k:Same H H'):PtAt t H' z s n nm ct sc:=⟨k _ _ h.o,k _ _ h.f,k _ _ h.c,k _ _ h.s,h.d1,h.d2⟩
noncomputable def isP(n:Nat)(nm:Nat→Str)(v:V):Prop:=∃i,i<n∧v=.str (nm i)
noncomputable def spCk(t:Adr):Sp:=λvs H Q E=>∃z s n nm ct sc v,vs=[.ref z.p,v]∧PtAt t H z s n nm ct sc∧Unl n nm∧Knd H v∧(isP n nm v→Q .non H)∧(¬isP n nm v→E (.ref t.C_NoPart) none H)
theorem uF(T:Txt K mg t)(S:Fns K t):S.aS.OkE P w mg base 1 (spCk t):=by(
refine S.aS.F.okE q28 (λvs H Q E h=>?_) (λcdv A outer s H vs Q E hr h=>?_)
·repeat obtain⟨_,h⟩:=h
 all_goals subst_vars;rfl
obtain⟨z,s',n,nm,ct,sc,v,rfl,hp,u,kn,k1,k2⟩:=h
have hu:=vR hr
refine⟨_,(qD (jA (PW.pt (q11 (jJ (jF (qU jY (by rfl) T.aL (by kernel_rfl) (qA (pv 1) (qA (vA rfl T.aBI (by kernel_rfl) rfl (v:=.ty "str")) qC))))) (zE (q7R (qBX hu (pv 1) (qJ (pv 0) rfl)))))) (qD (uG yA rfl rfl T.aX T.eJ (qA qQ qC))) qM)),?_⟩
try dsimp-beta-proj-iota-zeta-eta only[wishK,cxK]
obtain⟨ty,q,_,_,e3⟩:=kn.ty (K:=K)
refine⟨_,rfl,v,_,_,ty,_,rfl,rfl,.inl q,e3,_,rfl,?_⟩
cases v with
|str x=>
 refine iteF ?_;refine⟨_,rfl,iV rfl (iF hp.o T.aD T.aV rfl ⟨z.ss,_,rfl,DGet.k (k:=Sum.inr x) hp.s,_,rfl,?_⟩)⟩;by_cases y:∃i,i<n∧nm i=x
 ·obtain⟨i,hi,rfl⟩:=y;rw[q3H u hi];exact iteF (k1 ⟨i,hi,rfl⟩)
 rw[q50 (λi hi e=>y ⟨i,hi,e⟩)];exact iteT ⟨sz1,k2 (λ⟨i,hi,e⟩=>y ⟨i,hi,(V.str.inj e).symm⟩)⟩
|_=>exact iteT ⟨sz1,k2 (λ⟨i,hi,e⟩=>by cases e)⟩)
noncomputable def spSo(t:Adr):Sp:=λvs H Q E=>∃z s n nm ct sc v,vs=[.ref z.p,v]∧PtAt t H z s n nm ct sc∧Unl n nm∧Knd H v∧(∀i,i<n→v=.str (nm i)→Q (.int (sc i:Nat)) H)∧(¬isP n nm v→E (.ref t.C_NoPart) none H)
theorem uY(T:Txt K mg t)(S:Fns K t):S.aY.OkE P w mg base 2 (spSo t):=by(
refine S.aY.F.okE q3J (λvs H Q E h=>?_) (λcdv A outer s H vs Q E hr h=>?_)
·repeat obtain⟨_,h⟩:=h
 all_goals subst_vars;rfl
obtain⟨z,s',n,nm,ct,sc,v,rfl,hp,u,kv,k,k2⟩:=h
have hu:=vR hr
refine⟨_,(qB (jC (yO yA (pv 0) T.aD T.bM (uF T S).mono hr S.aS.b .nil (qA (pv 1) qC))) (qD (qO (qZ hu (qJ (pv 0) rfl) (pv 1) (λ_ _=>rfl))))),?_⟩
try dsimp-beta-proj-iota-zeta-eta only[wishK,cxK]
refine(iV rfl (iM hp.o rfl ⟨_,rfl,z,s',n,nm,ct,sc,v,rfl,hp,u,kv,λhZ=>?_,k2⟩))
obtain⟨i,hi,e⟩:=hZ
subst e
refine(iV rfl (iF hp.o T.aD T.aV rfl ⟨_,rfl,z.ss,_,rfl,?_,k i hi rfl⟩))
have:=DGet.k (k:=Sum.inr (nm i)) hp.s
rw[q3H u hi]at this
exact this)
noncomputable def spPl(t:Adr):Sp:=λvs H Q E=>∃z s n nm ct sc i,∃k:Int,vs=[.ref z.p,.str (nm i),.int k]∧PtAt t H z s n nm ct sc∧Unl n nm∧i<n∧0≤k∧k<(ct i:Nat)∧Q (.int ((fst ct i:Nat)+k)) H
theorem zV(T:Txt K mg t)(S:Fns K t):S.bO.Ok0 P w mg base 3 (spPl t):=by(
refine S.bO.F.ok0 q3K λcdv A _ s H vs Q E hr h=>?_
obtain⟨z,s',n,nm,ct,sc,i,j,rfl,hp,u,hi,j0,j1,k⟩:=h
have hu:=vR hr
refine⟨_,(qB (jC (yO yB (pv 0) T.aD T.bM (uF T S).mono hr S.aS.b .nil (qA (pv 1) qC))) (qB (jA (jJ (jF (qT (jO T S).mono hr rfl T.aH T.aI S.aO.b .nil qL (qA (pv 2) (qA qI (qA (qP uC (qZ hu (qJ (pv 0) rfl) (pv 1) (λ_ _=>rfl)) qI) qC)))))) (qD jD) qM) (qD (qO (qP jQ (qZ hu (qJ (pv 0) rfl) (pv 1) (λ_ _=>rfl)) (pv 2)))))),?_⟩
try dsimp-beta-proj-iota-zeta-eta only[wishK,cxK]
refine(iV rfl (iM hp.o rfl ⟨_,rfl,z,s',n,nm,ct,sc,.str (nm i),rfl,hp,u,.str _,λ_=>?_,λy=>absurd ⟨i,hi,rfl⟩ y⟩))
have gc:=DGet.k (k:=Sum.inr (nm i)) hp.c
rw[q3H u hi]at gc
have gf:=DGet.k (k:=Sum.inr (nm i)) hp.f
rw[q3H u hi]at gf
refine⟨_,rfl,iV rfl (iF hp.o T.aD T.aU rfl ⟨_,rfl,z.cs,_,rfl,gc,_,_,rfl,rfl,.int j,_,_,rfl,.int j,_,rfl,?_⟩)⟩
rw[inBi j0 (by lia)]
refine iteF ?_
exact(iV rfl (iF hp.o T.aD T.bI rfl ⟨_,rfl,z.fs,_,rfl,gf,_,rfl,iI k⟩)))
noncomputable def spPh(t:Adr):Sp:=λvs H Q E=>∃z x so sr m q n' W dk n nm ct sc i,vs=[.ref z.p,.str (nm i)]∧PtAt t H z x.s n nm ct sc∧PS t H x so sr m q n' W dk∧Unl n nm∧i<n∧∀l ks H',HeldIs q ks→Same H H'→H l=none→H' l=some (.lst ((cutP (fst ct i) (ct i) ks).map V.int))→Q (.ref l) H'
theorem q0A(T:Txt K mg t)(S:Fns K t):S.eR.Ok0 P w mg base 3 (spPh t):=by(
refine S.eR.F.ok0 q2H λcdv A _ s H vs Q E hr h=>?_
obtain⟨z,x,so,sr,m,q,n',W,dk,n,nm,ct,sc,i,rfl,hp,hs,u,hi,k⟩:=h
have hu:=vR hr
refine⟨_,(qB (jC (yO yB (pv 0) T.aD T.bM (uF T S).mono hr S.aS.b .nil (qA (pv 1) qC))) (qB (qS (i:=2) q2H.nd rfl (Or.inr rfl) (qZ hu (qJ (pv 0) rfl) (pv 1) (λ_ _=>rfl))) (qD (qO (yV ["self","name","first","sheet"] [0,1,2] rfl (jW (jK (qJ (pv 0) rfl) T.aB T.eE (vB T S).mono hr S.bY.b .nil qL)) (λ_ _ _ _ _=>(qR (i:=3) (show List.Nodup (["self","name","first","sheet"]:List Str)from by decide) rfl (Or.inl rfl))) (λ_ _ _ _ _=>(vY (q58 q8Y q70 (pv 2) (pv 3) (qP jQ (pv 2) (qZ hu (q3D (K:=K) rfl (pv 0) rfl) (pv 1) (λ_ _=>rfl)))))) (λ_ _ _ _ _=>(qP uC (pv 3) (pv 2))) (by kernel_rfl) (yC (by decide))))))),?_⟩
try dsimp-beta-proj-iota-zeta-eta only[wishK,cxK]
refine(iV rfl (iM hp.o rfl ⟨_,rfl,z,x.s,n,nm,ct,sc,.str (nm i),rfl,hp,u,.str _,λ_=>?_,λy=>absurd ⟨i,hi,rfl⟩ y⟩))
have gf:=DGet.k (k:=Sum.inr (nm i)) hp.f
rw[q3H u hi]at gf
refine(iV rfl (iF hp.o T.aD T.bI rfl ⟨_,rfl,z.fs,_,rfl,gf,?_⟩))
refine(iV rfl (iF hp.o T.aD T.aW rfl (iM hs.st.o rfl ⟨x,_,_,_,_,m,q,rfl,hs.st,hs.ft,hs.h64,λl ks H1 hk s1 n1 h1=>?_⟩)))
have l64:ks.length<64:=by rw[hk.pm.length_eq];exact hs.h64
have sz:(64:Nat)<sizeLine:=by decide
refine⟨l,rfl,⟨_,SqL.of h1⟩,λD H2 nD s2 hD=>?_⟩
refine q17 (K:=K) (xs:=ks.map V.int) (D:=D) (λj H3=>Same H1 H3∧H3 D=some (.lst ((cutP (fst ct i) (ct i) (ks.take j)).map V.int))) ⟨s2,hD⟩ (λj H3 hp=>SqL.of (hp.1 _ _ h1)) (λj y H3 hy hj=>?_) (λH3 hj=>?_)
·obtain⟨sm,hd⟩:=hj;have hp3:=(hp.same s1).same sm;rw[kW]at hy;obtain⟨b,hb,rfl⟩:=mF.mp hy;have gc:=DGet.k (k:=Sum.inr (nm i)) hp3.c;rw[q3H u hi]at gc;have e0:cutP (fst ct i) (ct i) (ks.take (j+1))=cutP (fst ct i) (ct i) (ks.take j)++cutP (fst ct i) (ct i) [b]:=by obtain⟨hj',rfl⟩:=hU.mp hb;rw[←mB hj'];unfold cutP;rw[gR,kX]
 have ll:(cutP (fst ct i) (ct i) (ks.take j)).length≤64:=by unfold cutP;rw[hV];exact mE (mT _ _) (by rw[mR];lia)
 refine⟨_,rfl,_,rfl,_,_,rfl,rfl,_,rfl,?_⟩;by_cases z1:((fst ct i:Nat):Int)≤b
 ·rw[hI z1];refine iteT ?_;refine⟨_,rfl,iV rfl (iF hp3.o T.aD T.aU rfl ⟨_,rfl,z.cs,_,rfl,gc,_,_,rfl,rfl,iI ⟨_,rfl,?_⟩⟩)⟩;by_cases z2:b<((fst ct i:Nat):Int)+((ct i:Nat):Int)
  ·rw[hI z2];refine iteT ?_;refine⟨_,rfl,_,rfl,iI ⟨_,hd,by rw[hV];lia,λb' o e=>?_,?_⟩⟩
   ·rw[qE (qF e nD)];exact sm _ _ e
   rw[qG,e0,kX];unfold cutP;simp[z1,z2]
  rw[hG z2];refine iteF ⟨sm,?_⟩;rw[hd,e0];unfold cutP;simp[z2]
 rw[hG z1];refine iteF ⟨_,rfl,iteF ⟨sm,?_⟩⟩;rw[hd,e0];unfold cutP;simp[z1]
obtain⟨sm,hd⟩:=hj
rw[hV,mZ]at hd
exact k D ks H3 hk (s1.trans sm) (s1.free nD) hd)
noncomputable def spRo(t:Adr):Sp:=λvs H Q E=>∃z x so sr m q n' W dk n nm ct sc v,vs=[.ref z.p,v]∧PtAt t H z x.s n nm ct sc∧PS t H x so sr m q n' W dk∧Unl n nm∧Knd H v∧(∀i,i<n→v=.str (nm i)→∀H',Same H H'→Q (.int (max 0 ((sc i:Nat)-((cutP (fst ct i) (ct i) (W.map (·.1))).length:Int)))) H')∧(¬isP n nm v→E (.ref t.C_NoPart) none H)
theorem vC(T:Txt K mg t)(S:Fns K t):S.bX.OkE P w mg base 4 (spRo t):=by(
refine S.bX.F.okE q6I (λvs H Q E h=>?_) (λcdv A outer s H vs Q E hr h=>?_)
·repeat obtain⟨_,h⟩:=h
 all_goals subst_vars;rfl
obtain⟨z,x,so,sr,m,q,n',W,dk,n,nm,ct,sc,v,rfl,hp,hs,u,kv,k,k2⟩:=h
refine⟨_,(qD (qO (qU (q71 rfl) (by rfl) T.aBH (by kernel_rfl) (qA qI (qA (qP uC (yO yA (pv 0) T.aD T.bT (uY T S).mono hr S.aY.b .nil (qA (pv 1) qC)) (qU jH (by rfl) T.fO mW (qA (jG (pv 0) T.aD T.fG (q0A T S).mono hr S.eR.b .nil qL (qA (pv 1) qC)) qC))) qC))))),?_⟩
try dsimp-beta-proj-iota-zeta-eta only[wishK,cxK]
refine(iV rfl (iM hp.o rfl ⟨_,rfl,z,x.s,n,nm,ct,sc,v,rfl,hp,u,kv,λi hi e=>?_,k2⟩))
subst e
refine(iV rfl (iM hp.o rfl ⟨_,rfl,z,x,so,sr,m,q,n',W,dk,n,nm,ct,sc,i,rfl,hp,hs,u,hi,λl ks H1 hk s1 n1 h1=>?_⟩))
have e:(cutP (fst ct i) (ct i) ks).length=(cutP (fst ct i) (ct i) (W.map (·.1))).length:=(q7K (hk.pm.trans hs.pm)).length_eq
refine⟨l,_,rfl,.inl (SqL.of h1),iI ?_⟩
refine⟨_,_,rfl,?_⟩
have kk:=k i hi rfl H1 s1
rw[hV,e]
have e2:∀a:Int,(if a>0 then a else 0)=max 0 a:=λa=>by split<;>lia
rw[e2]
exact kk)
noncomputable def qJG(t:Adr):Sp:=λvs H Q E=>∃z x so sr m q n' W n nm ct sc i,∃j:Int,vs=[.ref z.p,.str (nm i),.int j]∧PtAt t H z x.s n nm ct sc∧PS t H x so sr m q n' W false∧Unl n nm∧i<n∧0≤j∧j<(ct i:Nat)∧fst ct n≤so∧((fst ct i:Nat)+j∉W.map (·.1)→∀H',Same H H'→Q .non H')∧(∀v,((fst ct i:Nat)+j,v)∈W→∀H',Same H H'→Q (.int v) H')
theorem q65{ct:Nat→Nat}{n i:Nat}{j:Int}{so:Nat}(hi:i<n)(j1:j<(ct i:Nat))(hs:fst ct n≤so):((fst ct i:Nat):Int)+j<(so:Int):=by have:=qE2 (ct:=ct) (show i+1≤n from hi);have e:fst ct (i+1)=fst ct i+ct i:=rfl;lia
theorem q6T(T:Txt K mg t)(S:Fns K t):S.iP.Ok0 P w mg base 6 (qJG t):=by(
refine S.iP.F.ok0 q6H λcdv A _ s H vs Q E hr h=>?_
obtain⟨z,x,so,sr,m,q,n',W,n,nm,ct,sc,i,j,rfl,hp,hs,u,hi,j0,j1,hso,k1,k2⟩:=h
refine⟨_,(qD (qO (jG (qJ (pv 0) rfl) T.aB T.iX (q2N T S).mono hr S.fR.b .nil qL (qA (jG (pv 0) T.aD T.fE (zV T S).mono hr S.bO.b .nil qL (qA (pv 1) (qA (pv 2) qC))) qC)))),?_⟩
try dsimp-beta-proj-iota-zeta-eta only[wishK,cxK]
refine(iV rfl (iF hp.o T.aD T.aW rfl (iM hs.st.o rfl ?_)))
refine(iV rfl (iM hp.o rfl ⟨_,rfl,_,rfl,z,x.s,n,nm,ct,sc,i,j,rfl,hp,u,hi,j0,j1,?_⟩))
exact⟨x,so,sr,m,q,n',W,_,rfl,hs,by lia,q65 hi j1 hso,k1,k2⟩)
noncomputable def spPw(t:Adr):Sp:=λvs H Q E=>∃z x so sr m q n' W n nm ct sc i,∃j v:Int,vs=[.ref z.p,.str (nm i),.int j,.int v]∧PtAt t H z x.s n nm ct sc∧PS t H x so sr m q n' W false∧Unl n nm∧i<n∧0≤j∧j<(ct i:Nat)∧fst ct n≤so∧0≤v∧v<10 ^ 30∧n'<q.B*q.P∧n'<1000∧((fst ct i:Nat)+j∈W.map (·.1)∨(cutP (fst ct i) (ct i) (W.map (·.1))).length<sc i→((fst ct i:Nat)+j∈W.map (·.1)∨((W.length:Nat):Int)<sr)→∀m' q' H',PS t H' x so sr m' q' (n'+1) (putW W ((fst ct i:Nat)+j) v) false→q'.B=q.B→q'.P=q.P→((fst ct i:Nat)+j,(n':Int))∈q'.V→Keep (t.aA::sf x) H H'→Q (.int (n':Int)) H')∧(¬(((fst ct i:Nat)+j∈W.map (·.1)∨(cutP (fst ct i) (ct i) (W.map (·.1))).length<sc i)∧((fst ct i:Nat)+j∈W.map (·.1)∨((W.length:Nat):Int)<sr))→∀H',Same H H'→E (.ref t.C_Full) none H')
theorem q66(T:Txt K mg t)(S:Fns K t)(B:BmIn base mg):S.iA.OkE P w mg base 13 (spPw t):=by(
refine S.iA.F.okE q1O (λvs H Q E h=>?_) (λcdv A outer s H vs Q E hr h=>?_)
·repeat obtain⟨_,h⟩:=h
 all_goals subst_vars;rfl
obtain⟨z,x,so,sr,m,q,n',W,n,nm,ct,sc,i,j,v,rfl,hp,hs,u,hi,j0,j1,hso,v0,v1,nb,n9,k1,k2⟩:=h
refine⟨_,(qB (qS (i:=4) q1O.nd rfl (Or.inl rfl) (jG (pv 0) T.aD T.fE (zV T S).mono hr S.bO.b .nil qL (qA (pv 1) (qA (pv 2) qC)))) (qB (jA (jJ (jF (qT (q4G T S).mono hr rfl T.tE T.oW S.oF.b .nil qL (qA (pv 3) qC)))) (qD jD) qM) (qB (jA (PW.pt (q7T (qY vG (yO yA (pv 0) T.aD T.eI (vC T S).mono hr S.bX.b .nil (qA (pv 1) qC)) qI (qX _)) (q7S (qY vV (pv 2) (jG (pv 0) T.aD T.fG (q0A T S).mono hr S.eR.b .nil qL (qA (pv 1) qC)) rfl)))) (qD (uG yA rfl rfl T.aAK T.aA9 (qA qQ qC))) qM) (qD (qO (yO yA (qJ (pv 0) rfl) T.aB T.iJ (q1U T S B).mono hr S.eZ.b .nil (qA (pv 4) (qA (pv 3) qC)))))))),?_⟩
try dsimp-beta-proj-iota-zeta-eta only[wishK,cxK]
refine(iV rfl (iM hp.o rfl ⟨_,rfl,_,rfl,z,x.s,n,nm,ct,sc,i,j,rfl,hp,u,hi,j0,j1,?_⟩))
refine⟨_,rfl,.int v,rfl,.int _,?_⟩
refine⟨_,rfl,?_⟩
rw[inBi v0 (by lia)]
refine iteF ?_
refine(iV rfl (iM hp.o rfl ⟨_,rfl,z,x,so,sr,m,q,n',W,false,n,nm,ct,sc,.str (nm i),rfl,hp,hs,u,.str _,λi' hi' ei H1 s1=>?_,λw=>absurd ⟨i,hi,rfl⟩ w⟩))
obtain rfl:=u i i' hi hi' (V.str.inj ei)
have hp1:=hp.same s1
have hs1:=hs.same s1
generalize hL:(cutP (fst ct i) (ct i) (W.map (·.1))).length=L at k1 k2 ⊢
refine⟨rfl,_,rfl,?_⟩
rw[q5G]
by_cases zz:L<sc i
·rw[hG (show ¬max 0 (((sc i:Nat):Int)-(L:Int))=0 by lia)];refine iteF ?_;exact(iV rfl (iF (hp.same s1).o T.aD T.aW rfl ⟨x.s,x.sd,_,rfl,(hs.same s1).st.o,rfl,_,rfl,_,rfl,x,so,sr,m,q,n',W,_,v,rfl,hs.same s1,by lia,q65 hi j1 hso,v0,v1,nb,n9,λc2 m' q' H' a b c d kk=>k1 (.inr zz) c2 m' q' H' a b c d ((Keep.same s1).trans kk),λc2 H' s'=>k2 (λw=>c2 w.2) H' (s1.trans s')⟩))
rw[hI (show max 0 (((sc i:Nat):Int)-(L:Int))=0 by lia)]
refine iteT ?_
refine⟨_,rfl,iV rfl (iM hp1.o rfl ⟨_,rfl,z,x,so,sr,m,q,n',W,false,n,nm,ct,sc,i,rfl,hp1,hs1,u,hi,λl ks H2 hk s2 n2 h2=>?_⟩)⟩
refine⟨l,_,rfl,.inl (SqL.of h2),rfl,q7M,_,rfl,?_⟩
have s12:=s1.trans s2
show if(!inV (.int j) ((cutP (fst ct i) (ct i) ks).map V.int))=true then _ else _
have e:j∈cutP (fst ct i) (ct i) ks↔((fst ct i:Nat):Int)+j∈W.map (·.1):=by rw[q5U,(hk.pm.trans hs.pm).mem_iff];exact⟨λa=>a.1,λa=>⟨a,j0,j1⟩⟩
rw[q26]
by_cases y:((fst ct i:Nat):Int)+j∈W.map (·.1)
·rw[hI (e.mpr y)];refine iteF ?_;exact(iV rfl (iF (hp.same s12).o T.aD T.aW rfl ⟨x.s,x.sd,_,rfl,(hs.same s12).st.o,rfl,_,rfl,_,rfl,x,so,sr,m,q,n',W,_,v,rfl,hs.same s12,by lia,q65 hi j1 hso,v0,v1,nb,n9,λc2 m' q' H' a b c d kk=>k1 (.inl y) c2 m' q' H' a b c d ((Keep.same s12).trans kk),λc2 H' s'=>k2 (λw=>c2 w.2) H' (s12.trans s')⟩))
rw[hG (λa=>y (e.mp a))]
exact iteT ⟨sz1,k2 (λa=>a.1.elim y zz) H2 s12⟩)
noncomputable def spTl(t:Adr):Sp:=λvs H Q E=>∃z s n nm ct sc,vs=[.ref z.p]∧PtAt t H z s n nm ct sc∧Unl n nm∧n≤4∧∀l us H',Same H H'→H l=none→H' l=some (.lst us)→Rws H' us n nm ct sc→Q (.ref l) H'
theorem q2O(T:Txt K mg t)(S:Fns K t):S.fU.Ok0 P w mg base 1 (spTl t):=by(
refine S.fU.F.ok0 q6J λcdv A _ s H vs Q E hr h=>?_
obtain⟨z,s',n,nm,ct,sc,rfl,hp,u,n4,q⟩:=h
have hu:=vR hr
have ob:z.p≠z.ss:=jP hp.o hp.s (by intro z;cases z)
have sz:(4:Nat)<sizeLine:=by decide
refine⟨_,(qD (qO (qB7 (yV ["self","name","share"] [0] rfl (qHS (qA6 dX c8 PySem.F.type_dict_items qDQ (qJ (pv 0) rfl))) (λ_ _ _ _ _=>(qF9 (K:=K) (n:=2) rfl rfl (jN (qR (i:=1) (show List.Nodup (["self","name","share"]:List Str)from by decide) rfl (Or.inl rfl)) (jN (qR (i:=2) (show List.Nodup (["self","name","share"]:List Str)from by decide) rfl (Or.inl rfl)) zS)) rfl rfl)) (λ_ _ _ _ _=>vX) (λ_ _ _ _ _=>(q0I (qA (pv 1) (qA (qZ hu (q3D (K:=K) rfl (pv 0) rfl) (pv 1) (λ_ _=>rfl)) (qA (pv 2) qC))))) (by kernel_rfl) (qEX (q9F (by decide) (q9F (by decide) qEW))))))),?_⟩
try dsimp-beta-proj-iota-zeta-eta only[wishK,cxK]
refine⟨z.ss,_,hp.s,iV rfl (iF hp.o T.aD T.aV rfl ⟨.inr (.inr (.inl ⟨rfl,.inl ⟨_,hp.s⟩⟩)),z.ss,_,rfl,rfl,hp.s,λv nv=>?_⟩)⟩
have sv:Same H (upd H v (q4C v z.ss)):=Same.upd nv
have vv:(upd H v (q4C v z.ss)) v=some (q4C v z.ss):=qG
generalize upd H v (q4C v z.ss)=H1 at sv vv ⊢
refine⟨v,z.ss,_,rfl,vv,sv _ _ hp.s,λo D H2 nD s2 hD=>?_⟩
have kk:∀x u,x≠z.ss→H x=some u→H2 x=some u:=λx u nx e=>s2 _ _ (by rw[qE nx];exact sv _ _ e)
have fz:H2 z.ss=some (.frz o (.dK (dN n nm λi=>.int (sc i:Nat)))):=s2 _ _ qG
have nDH:H D=none:=by
 cases y':H D with
 |none=>rfl
 |some u=>
  by_cases y:D=z.ss
  ·rw[y,qG]at nD;cases nD
  rw[qE y,sv _ _ y']at nD;cases nD
have Dw:D≠z.ss:=λy=>by rw[y,fz]at hD;cases hD
refine qF3 (D:=D) (λi H3=>H3 z.ss=some (.frz o (.dK (dN n nm λi=>.int (sc i:Nat))))∧(∀x u,x≠z.ss→H x=some u→H3 x=some u)∧∃us,H3 D=some (.lst us)∧Rws H3 us i nm ct sc) ⟨fz,kk,[],hD,rfl,λi hi=>by lia⟩ (λi H3 hp=>hp.1) (λi kv W H3 hk hj nW=>?_) (λH3 hj=>?_)
·obtain⟨fz3,k3,us,hd,pr⟩:=hj;have hi:i<n:=by have:=(hU.mp hk).1;rw[q3X]at this;exact this
 obtain rfl:((Sum.inr (nm i):Key),V.int (sc i:Nat))=kv:=by
  have e:(dN n nm λi=>.int (sc i:Nat))[i]?=some ((Sum.inr (nm i):Key),V.int (sc i:Nat)):=by unfold dN;rw[kW,rT hi];rfl
  rw[e]at hk;exact kJ hk
 have sW:Same H3 (upd H3 W (.tup [.str (nm i),.int (sc i:Nat)])):=Same.upd nW;have hW:(upd H3 W (.tup [.str (nm i),.int (sc i:Nat)])) W=some (.tup [.str (nm i),.int (sc i:Nat)]):=qG;show gTup _ _ _ _ _ (upd H3 W (.tup [.str (nm i),.int (sc i:Nat)])) _;generalize upd H3 W (.tup [.str (nm i),.int (sc i:Nat)])=H4 at sW hW ⊢;refine⟨W,_,rfl,SqT.of hW,rfl,_,_,rfl,_,_,rfl,rfl,?_⟩;have gc:=DGet.k (k:=Sum.inr (nm i)) (sW _ _ (k3 _ _ hp.d2 hp.c));rw[q3H u hi]at gc;dsimp only[q16];refine iteT ?_;refine⟨_,rfl,iV rfl (iF (sW _ _ (k3 _ _ ob hp.o)) T.aD T.aU rfl ⟨_,rfl,z.cs,_,rfl,gc,_,rfl,sz3,λtp H5 n5 s5 h5=>?_⟩)⟩;have s35:=sW.trans s5;have hd5:=s35 _ _ hd;have lu:=pr.1;have tpu:∀b xs,H3 b=some (.tup xs)→(upd H5 D (.lst (us++[.ref tp]))) b=some (.tup xs):=λb xs e=>by rw[qE (λy=>by rw[y,hd]at e;cases e)];exact s35 _ _ e
 refine⟨us,hd5,by lia,?_,λx' u' nx e'=>?_,us++[.ref tp],qG,?_⟩
 ·rw[qE Dw.symm];exact s35 _ _ fz3
 ·rw[qE (qF e' nDH)];exact s35 _ _ (k3 _ _ nx e')
 have pr5:=pr.tp tpu;refine⟨by rw[mU,lu];rfl,λj hj=>?_⟩;by_cases y:j<i
 ·obtain⟨v',e,r⟩:=pr5.2 j y;exact⟨v',by rw[gM (by lia)];exact e,r⟩
 obtain rfl:j=i:=by lia
 refine⟨.ref tp,by rw[mQ (by lia),lu];simp,tp,rfl,?_⟩;rw[qE (λy=>by rw[y,hd5]at h5;cases h5)];exact h5
obtain⟨fz3,k3,us,hd,pr⟩:=hj
rw[q3X]at pr
refine⟨o,_,fz3,?_⟩
have sH:=qDW hp.s k3
refine q D us _ sH nDH (by rw[qE Dw];exact hd) (pr.tp λb xs e=>?_)
rw[qE (λy=>by rw[y,fz3]at e;cases e)]
exact e)
noncomputable def qG8(t:Adr):Sp:=λvs H Q E=>∃p pd x so sr m q n' W dk l us,vs=[.ref p,.ref x.s,.ref l]∧H p=some (.ins t.C_Parts pd [])∧PS t H x so sr m q n' W dk∧H l=some (.lst us)∧us.length≤8∧(∀v∈us,RowX H v)∧((∃v∈us,¬zQ H v)→∀H',(∀b o,H b=some o→H' b=some o)→E (.ref t.C_NoPart) none H')∧(∀n nm ct sc,Rws H us n nm ct sc→(∀i,i<n→isNm (.str (nm i))=true∧1≤ct i∧1≤sc i)→¬(Unl n nm∧((fst ct n:Nat):Int)≤(so:Int)∧((fst sc n:Nat):Int)≤sr)→∀H',(∀b o,H b=some o→H' b=some o)→E (.ref t.C_NoPart) none H')∧(∀n nm ct sc,Rws H us n nm ct sc→(∀i,i<n→isNm (.str (nm i))=true∧1≤ct i∧1≤sc i)→Unl n nm∧((fst ct n:Nat):Int)≤(so:Int)∧((fst sc n:Nat):Int)≤sr→∀fs cs ss H',PtAt t H' ⟨p,pd,fs,cs,ss⟩ x.s n nm ct sc→fs≠cs→H fs=none→H cs=none→H ss=none→(∀b o,b≠p→H b=some o→H' b=some o)→Q .non H')
theorem vD(T:Txt K mg t)(S:Fns K t):S.bZ.OkE P w mg base 5 (qG8 t):=by(
refine S.bZ.F.okE yX (λvs H Q E h=>?_) (λcdv A outer s H vs Q E hr h=>?_)
·repeat obtain⟨_,h⟩:=h
 all_goals subst_vars;rfl
obtain⟨p,pd,x,so,sr,m,q,n',W,dk,l,us,rfl,hp,hs,hl,l8,rx,kb1,kb2,k⟩:=h
have hu:=vR hr
refine⟨_,(qB (jC (q9A yA (q6S T S).mono hr rfl T.t6 T.tS S.iO.b .nil (qA (pv 2) (qA (qJ (pv 1) rfl) qC)))) (qB (jS (pv 0) (pv 1) rfl) (qB (jS (pv 0) zG rfl) (qB (jS (pv 0) zG rfl) (qB (jS (pv 0) zG rfl) (qB (qS (i:=3) yX.nd rfl (Or.inl rfl) qI) (qD (uQ nP rfl (jW (pv 2)) (q12 rfl (jN (qR (i:=4) yX.nd rfl (Or.inl rfl)) (jN (qR (i:=5) yX.nd rfl (Or.inl rfl)) (jN (qR (i:=6) yX.nd rfl (Or.inl rfl)) zS)))) (qB (vW hu (qJ (pv 0) rfl) (pv 4) (pv 3) rfl) (qB (vW hu (qJ (pv 0) rfl) (pv 4) (pv 5) rfl) (qB (vW hu (qJ (pv 0) rfl) (pv 4) (pv 6) rfl) (qD (qGG (i:=3) yX.nd rfl (Or.inl rfl) (pv 5) q7V))))))))))))),?_⟩
try dsimp-beta-proj-iota-zeta-eta only[wishK,cxK]
refine⟨_,rfl,iV rfl (iF hs.st.o T.aB T.aG rfl ?_)⟩
refine⟨l,us,x.tm,x.td,_,_,(so:Int),sr,_,_,rfl,hl,l8,rx,hs.st.te,λn nm ct sc rw' okr=>⟨λokc H1 s1=>?_,λno H1 s1=>kb2 n nm ct sc rw' okr no H1 s1⟩,λno H1 s1=>kb1 no H1 s1⟩
have k:=k n nm ct sc rw' okr okc
have n8:n≤8:=by rw[←rw'.1];exact l8
refine⟨_,rfl,_,rfl,p,_,pd,_,rfl,s1 _ _ hp,T.aD,T.aW,by decide,?_⟩
have w1:Wm t.C_Parts p pd H1 (upd H1 p (.ins t.C_Parts pd (putF "store" (.ref x.s) []))) (putF "store" (.ref x.s) []) []:=⟨qG,Up.of (Same.refl H1),by simp,by simp⟩
refine λfs nfs=>?_
have w2:=w1.add nfs (Same.upd (o:=.dK []) nfs) qG
refine⟨_,rfl,p,_,pd,_,rfl,w2.i,T.aD,T.bI,by show 1<1000;decide,?_⟩
have w2:=w2.put "firsts" (.ref fs)
refine λcs ncs=>?_
have w3:=w2.add ncs (Same.upd (o:=.dK []) ncs) qG
refine⟨_,rfl,p,_,pd,_,rfl,w3.i,T.aD,T.aU,by show 2<1000;decide,?_⟩
have w3:=w3.put "counts" (.ref cs)
refine λss nss=>?_
have w4:=w3.add nss (Same.upd (o:=.dK []) nss) qG
refine⟨_,rfl,p,_,pd,_,rfl,w4.i,T.aD,T.aV,by show 3<1000;decide,?_⟩
have w4:=w4.put "shares" (.ref ss)
have nd:[fs,cs,ss].Nodup:=w4.n
simp only[gC,kL,gY,not_or,or_false]at nd
have e1:=(w4.o (fs,.dK []) (by simp)).1
have e2:=(w4.o (cs,.dK []) (by simp)).1
have e3:=(w4.o (ss,.dK []) (by simp)).1
have f1:=w4.fr fs (by simp)
have f2:=w4.fr cs (by simp)
have f3:=w4.fr ss (by simp)
have wi:=w4.i
have wu:=w4.u
clear w1 w2 w3 w4 nfs ncs nss
generalize upd _ p _=G at e1 e2 e3 wi wu ⊢
have px:l≠p:=jP hl hp (by intro y;cases y)
have hlG:G l=some (.lst us):=wu _ _ px (s1 _ _ hl)
have rwG:Rws G us n nm ct sc:=rw'.tp λb xs e=>wu _ _ (jP e hp (by intro y;cases y)) (s1 _ _ e)
have ln:=rw'.1
have sz:(8:Nat)<sizeLine:=by decide
refine⟨_,rfl,l,rfl,⟨_,SqL.of hlG⟩,?_⟩
refine vE (K:=K) (xs:=us) (λi σ' H2=>(∃y4 y5 y6,σ'=[some (.ref p),some (.ref x.s),some (.ref l),some (.int ((fst ct i:Nat):Int)),y4,y5,y6])∧H2 fs=some (.dK (dN i nm λi=>.int (fst ct i:Nat)))∧H2 cs=some (.dK (dN i nm λi=>.int (ct i:Nat)))∧H2 ss=some (.dK (dN i nm λi=>.int (sc i:Nat)))∧(∀b o,b≠fs→b≠cs→b≠ss→G b=some o→H2 b=some o)) ⟨⟨_,_,_,rfl⟩,e1,e2,e3,λb o _ _ _ e=>e⟩ (λi σ' H2 hi hj=>?_) (λi y σ' H2 hy hj=>?_) (λσ' H2 hj=>?_)
·exact SqL.of (hj.2.2.2.2 _ _ (jP hlG e1 (by intro y;cases y)) (jP hlG e2 (by intro y;cases y)) (jP hlG e3 (by intro y;cases y)) hlG)
·obtain⟨⟨y4,y5,y6,rfl⟩,g1,g2,g3,kp⟩:=hj;have hi:i<n:=by rw[←ln];exact(hU.mp hy).1
 obtain⟨a,e,ha⟩:=rwG.at hi;rw[hy]at e;cases e;have ha2:=kp _ _ (jP ha e1 (by intro y;cases y)) (jP ha e2 (by intro y;cases y)) (jP ha e3 (by intro y;cases y)) ha;refine⟨a,_,rfl,SqT.of ha2,rfl,_,_,rfl,_,_,rfl,_,_,rfl,rfl,?_⟩;have u:=okc.1.less (show i+1≤n from hi);have pf:=jP wi e1 (by intro y;cases y);have pc:=jP wi e2 (by intro y;cases y);have ps:=jP wi e3 (by intro y;cases y);have wi2:=kp _ _ pf pc ps wi;refine⟨_,rfl,iV rfl (iF wi2 T.aD T.bI rfl ⟨_,rfl,fs,_,rfl,DPut.k (k:=Sum.inr (nm i)) g1 (by rw[q3X];lia),?_⟩)⟩;rw[q86 u];refine⟨_,rfl,iV rfl (iF (by rw[qE pf];exact wi2) T.aD T.aU rfl ⟨_,rfl,cs,_,rfl,DPut.k (k:=Sum.inr (nm i)) (by rw[qE (dO nd.1.1)];exact g2) (by rw[q3X];lia),?_⟩)⟩;rw[q86 u];refine⟨_,rfl,iV rfl (iF (by rw[qE pc,qE pf];exact wi2) T.aD T.aV rfl ⟨_,rfl,ss,_,rfl,DPut.k (k:=Sum.inr (nm i)) (by rw[qE (dO nd.2.1),qE (dO nd.1.2)];exact g3) (by rw[q3X];lia),?_⟩)⟩;rw[q86 u];have ed:∀f:Nat→V,(dN (i+1) nm λj=>if j=i then f i else f j)=dN (i+1) nm f:=λf=>q5T λj _=>by
  by_cases y:j=i
  ·rw[kG y,y]
  rw[kC y]
 have d1:=ed λi=>.int (fst ct i:Nat);have d2:=ed λi=>.int (ct i:Nat);have d3:=ed λi=>.int (sc i:Nat);rw[d1,d2,d3];refine⟨_,rfl,_,rfl,iI ⟨⟨some (.str (nm i)),some (.int (ct i:Nat)),some (.int (sc i:Nat)),by rw[show((fst ct (i+1):Nat):Int)=(fst ct i:Nat)+(ct i:Nat)from lG _ _];rfl⟩,?_,?_,qG,λb o b1 b2 b3 e=>?_⟩⟩
 ·rw[qE nd.1.2,qE nd.1.1,qG]
 ·rw[qE nd.2.1,qG]
 rw[qE b3,qE b2,qE b1];exact kp b o b1 b2 b3 e
obtain⟨⟨y4,y5,y6,rfl⟩,g1,g2,g3,kp⟩:=hj
rw[ln]at g1 g2 g3
have hn:∀{b:Addr} {o:HO},H b=some o→b≠fs∧b≠cs∧b≠ss:=fun {b o} e=>⟨λy=>(by rw[y,s1.free f1]at e;cases e),λy=>(by rw[y,s1.free f2]at e;cases e),λy=>(by rw[y,s1.free f3]at e;cases e)⟩
refine k fs cs ss H2 ⟨?_,g1,g2,g3,nd.1.2,nd.2.1⟩ nd.1.1 (s1.free f1) (s1.free f2) (s1.free f3) λb o nb e=>?_
·exact kp _ _ (jP wi e1 (by intro y;cases y)) (jP wi e2 (by intro y;cases y)) (jP wi e3 (by intro y;cases y)) wi
obtain⟨z1,z2,z3⟩:=hn e
exact kp b o z1 z2 z3 (wu _ _ nb (s1 _ _ e)))
noncomputable def gvn(ns ss:List Int):List Int:=ns.filter λn=>decide (n∈ss)
noncomputable def rst(ns g:List Int):List Int:=ns.filter λn=>!decide (n∈g)
noncomputable def yI(q:QM)(g:List Int):QM:=g.foldl QM.forget q
noncomputable def natL(ns:List Int):List Nat:=ns.map Int.toNat
theorem qE6:∀{ns:List Int},(∀n∈ns,0≤n)→ns.map V.int=vN (natL ns)
| [],_=>rfl
|n::r,h=>by have h0:=h n kO;show V.int n::r.map V.int=V.int ((n.toNat:Nat):Int)::vN (natL r);rw[qE6 (ns:=r) λx hx=>h x (kD _ hx),show((n.toNat:Nat):Int)=n by lia]
theorem qI8{q:QM}(ok:q.Ok){n:Int}(h:n∈hdN q.V):0≤n∧n≤63:=by(
unfold hdN at h
obtain⟨h1,h2⟩:=mO.mp h
obtain⟨p,hp,rfl⟩:=mD.mp h1
have:=ok.nm p hp
have:=m6 h2
lia)
theorem q67{q:QM}(h:q.Ok):∀{g:List Int},(yI q g).Ok:=fun {g}=>by(
unfold yI
induction g generalizing q with
|nil=>exact h
|cons n r ih=>exact ih (h.forget n))
theorem StAt.off{H:Hp}{x:Sto}{r2 r3 r4 r5:V}{m:CM}{q:QM}(h:StAt t H x r2 r3 r4 r5 m q){p:Addr}(n:H p=none):p∉t.aA::sf x:=λz=>by(
obtain⟨rs,er,_⟩:=h.ch.rc
obtain⟨ps,hT,_⟩:=h.tb
have z:p=t.aA∨p=x.c∨p=x.a.bo∨p=x.a.cl∨p=x.a.dc∨p=x.a.br∨p=x.a.rc∨p=x.k.bk∨p=x.k.wv∨p=x.k.lv∨p=x.k.fi∨p=x.k.bo:=by simpa[sf,bf,foot]using z
rcases z with rfl|rfl|rfl|rfl|rfl|rfl|rfl|rfl|rfl|rfl|rfl|rfl
·rw[hT]at n;cases n
·rw[h.ch.ins]at n;cases n
·rw[h.ch.bo]at n;cases n
·rw[h.ch.cl]at n;cases n
·rw[h.ch.dc]at n;cases n
·rw[h.ch.br]at n;cases n
·rw[er]at n;cases n
·rw[h.bk.o]at n;cases n
·rw[h.bk.w]at n;cases n
·rw[h.bk.l]at n;cases n
·rw[h.bk.f]at n;cases n
rw[h.bk.b]at n;cases n)
theorem q8O{q:QM}{g:List Int}{i:Nat}{n:Int}(h:g[i]?=some n):yI q (g.take (i+1))=(yI q (g.take i)).forget n:=by(
have hi:=(hU.mp h).1
obtain rfl:g[i]=n:=(hU.mp h).2
unfold yI
rw[←mB hi,nN]
rfl)
noncomputable def spGU(t:Adr):Sp:=λvs H Q E=>∃x r3 r4 r5 m q l0 ss,∃sh:Int,vs=[.ref x.s,.ref l0]∧StAt t H x (.int sh) r3 r4 r5 m q∧Fit m q∧(hdN q.V).length<64∧m.rc.length<1000000∧H l0=some (.lst (List.map V.int ss))∧(∀s∈ss,0≤s∧s≤sh-1)∧Gd m∧∀ns,HeldIs q ns→(if gvn ns ss=[]then ∀H',Same H H'→Q (.int 0) H' else ∀l,FreeIs q.B m.br m.cl q.fi l→∃b f:Nat,zJ q.B q.P m.br q.fi l=some b∧q.fi.getD b 0=(f:Int)∧m.bo.getD (b*q.P+f) .non=.non∧∀tp H',H' tp=some (.tup [.int (q.nx*128+64),.int ((orB (natL (rst ns (gvn ns ss))) 0:Nat):Int)])→Keep (t.aA::sf x) H H'→StAt t H' x (.int sh) r3 r4 r5 (putC m (b*q.P+f) (.ref tp)) (yI (q.put b f 64) (gvn ns ss))→Q (.int ((gvn ns ss).length:Nat)) H')
theorem q46(T:Txt K mg t)(S:Fns K t)(B:BmIn base mg):S.eU.Ok0 P w mg base 12 (spGU t):=by(
refine S.eU.F.ok0 yR λcdv A _ s H vs Q E hr h=>?_
obtain⟨x,r3,r4,r5,m,q,l0,ss,sh,rfl,hs,ft,h64,hrc,hl0,ks,gd,k⟩:=h
have hu:=vR hr
refine⟨_,(qB (uQ gE rfl (jW (pv 1)) (qR (i:=2) yR.nd rfl (Or.inl rfl)) (qD (jC (jG (pv 0) T.aB T.bD (u6 T S).mono hr S.aQ.b .nil qL (qA (pv 2) qC))))) (qB (qS (i:=3) yR.nd rfl (Or.inl rfl) (jK (pv 0) T.aB T.eE (vB T S).mono hr S.bY.b .nil qL)) (qB (qS (i:=4) yR.nd rfl (Or.inr rfl) (yV ["sheets","sheet"] [1] rfl (jW (pv 3)) (λ_ _ _ _ _=>(qR (i:=1) (show List.Nodup (["sheets","sheet"]:List Str)from by decide) rfl (Or.inl rfl))) (λ_ _ _ _ _=>(vY (qY (qAE (K:=K) rfl) (pv 1) (pv 0) rfl))) (λ_ _ _ _ _=>(pv 1)) (by kernel_rfl) (yC (by decide)))) (qB (jA (qY (qDH hr.units) (pv 4) (yN qC) (qX _)) (qD (qO qI)) qM) (qB (jC (jK (pv 0) T.aB T.eC (vU T S B).mono hr S.bB.b .nil qL)) (qB (jC (jG (pv 0) T.aB T.oQ (q3N T S B).mono hr S.iH.b .nil qL (qA (zR rfl T.aAX ⟨_,rfl⟩ (v:=.int 64)) (qA (qT (qAP T S).mono hr rfl T.aAR T.aAP S.aAI.b .nil qL (qA (yV ["gone","sheet"] [4] rfl (jW (pv 3)) (λ_ _ _ _ _=>(qR (i:=1) (show List.Nodup (["gone","sheet"]:List Str)from by decide) rfl (Or.inl rfl))) (λ_ _ _ _ _=>(vY (qY (q6G (K:=K) rfl) (pv 1) (pv 0) rfl))) (λ_ _ _ _ _=>(pv 1)) (by kernel_rfl) (yC (by decide))) qC)) qC)))) (qB (uQ gE rfl (jW (pv 4)) (qR (i:=2) yR.nd rfl (Or.inl rfl)) (qD (jC (jG (qJ (pv 0) rfl) T.aF T.iN (q1S T S).mono hr S.fA.b .nil qL (qA (pv 2) qC))))) (qD (qO (qU jH (by rfl) T.fO mW (qA (pv 4) qC))))))))))),?_⟩
try dsimp-beta-proj-iota-zeta-eta only[wishK,cxK]
refine⟨_,rfl,l0,rfl,⟨_,SqL.of hl0⟩,?_⟩
refine vE (K:=K) (xs:=ss.map V.int) (λi σ' H2=>∃y,σ'=[some (.ref x.s),some (.ref l0),y,none,none]∧H=H2) ⟨_,rfl,rfl⟩ (λi σ' H2 hi hp=>?_) (λi v σ' H2 hv hp=>?_) (λσ' H2 hp=>?_)
·obtain⟨y,rfl,rfl⟩:=hp;exact SqL.of hl0
·obtain⟨y,rfl,rfl⟩:=hp;obtain⟨s',hs',rfl⟩:=mD.mp (mJ hv);refine(iV rfl (iM hs.o rfl ⟨_,rfl,x,r3,r4,r5,m,q,.int s',sh,rfl,hs,.int _,?_⟩));rw[kG (inBi (ks s' hs').1 (ks s' hs').2)];exact⟨_,rfl,rfl⟩
obtain⟨y,rfl,rfl⟩:=hp
refine(iV rfl (iM hs.o rfl ⟨x,.int sh,r3,r4,r5,m,q,rfl,hs,ft,h64,λhl ns H1 hn s1 n1 h1=>?_⟩))
have kk:=k ns hn
have lns:ns.length<64:=by rw[hn.pm.length_eq];exact h64
refine⟨_,rfl,hl,rfl,⟨_,SqL.of h1⟩,λD H2 nD s2 hD=>?_⟩
refine q17 (K:=K) (xs:=ns.map V.int) (D:=D) (λi H3=>Same H1 H3∧H3 D=some (.lst ((gvn (ns.take i) ss).map V.int))) ⟨s2,hD⟩ (λi H3 hp=>SqL.of (hp.1 _ _ h1)) (λi v H3 hv hp=>?_) (λH3 hp=>?_)
·obtain⟨sm,hd⟩:=hp;rw[kW]at hv;obtain⟨n,hw,rfl⟩:=mF.mp hv;have hi:=(hU.mp hw).1;have ev:=(hU.mp hw).2;refine⟨_,rfl,_,rfl,l0,_,rfl,.inl (SqL.of (sm _ _ (s1 _ _ hl0))),rfl,q7M,_,rfl,?_⟩;show if inV (.int n) (ss.map V.int)=true then _ else _;rw[q26];have eg:gvn (ns.take (i+1)) ss=gvn (ns.take i) ss++(if n∈ss then[n]else[]):=by
  unfold gvn;rw[←mB hi,gR,ev,gF];by_cases z:n∈ss
  ·rw[hI z,kG z];rfl
  rw[hG z,kC z];rfl
 rw[eg];by_cases z:n∈ss
 ·rw[hI z,kG z];refine iteT ?_;refine⟨_,rfl,_,hd,?_,λb o e=>?_,?_⟩
  ·rw[hV];have l1:(gvn (ns.take i) ss).length≤(ns.take i).length:=mT _ _;rw[mR]at l1;have:(64:Nat)<sizeLine:=by decide
   lia
  ·rw[qE (qF e nD)];exact sm _ _ e
  rw[qG,kX];rfl
 rw[hG z,kC z,r6];exact iteF ⟨sm,hd⟩
obtain⟨sm,hd⟩:=hp
rw[hV,mZ]at hd
have s03:Same H H3:=s1.trans sm
have hs3:=hs.same s03
refine⟨_,rfl,sz0,λe H4 n4 s4 h4=>⟨D,_,e,rfl,rfl,SqL.of (s4 _ _ hd),SqL.of h4,_,rfl,?_⟩⟩
have s04:=s03.trans s4
by_cases z:gvn ns ss=[]
·rw[kG z]at kk;rw[z];exact iteT (kk H4 s04)
rw[kC z]at kk
rw[hG (λy=>z (by cases hq:gvn ns ss with|nil=>rfl|cons a r=>rw[hq]at y;cases y))]
refine iteF ?_
have hs4:=hs3.same s4
refine(iV rfl (iM hs4.o rfl ⟨x,.int sh,r3,r4,r5,m,q,rfl,hs4,ft,λl H5 hfl k5 tb5=>?_⟩))
obtain⟨b,f,hsp,ef,hbo,kk⟩:=kk l hfl
have k05:Keep [t.aA] H H5:=(Keep.same s04).trans k5
rw[hsp]
refine iteT ?_
have hs5:=hs4.kT k5 tb5
have hT:∀{p:Addr} {us:List V},H4 p=some (.lst us)→H5 p=some (.lst us):=fun {p us} e'=>k5.k _ _ (λw=>hs4.tb.ne e' (λ_ z=>by cases z) (kF.mp w)) e'
have h1_5:=hT (s4 _ _ (sm _ _ h1))
have hd5:=hT (s4 _ _ hd)
refine(iV rfl (iM hs5.o rfl ?_))
refine⟨_,rfl,hl,rfl,⟨_,SqL.of h1_5⟩,λD2 H6 n6 s6 hD2=>?_⟩
refine q17 (K:=K) (xs:=ns.map V.int) (D:=D2) (λi H7=>Same H5 H7∧H7 D2=some (.lst ((rst (ns.take i) (gvn ns ss)).map V.int))) ⟨s6,hD2⟩ (λi H7 hp=>SqL.of (hp.1 _ _ h1_5)) (λi v H7 hv hp=>?_) (λH7 hp=>?_)
·obtain⟨sm7,hd7⟩:=hp;rw[kW]at hv;obtain⟨n,hw,rfl⟩:=mF.mp hv;have hi:=(hU.mp hw).1;have ev:=(hU.mp hw).2;refine⟨_,rfl,_,rfl,D,_,rfl,.inl (SqL.of (sm7 _ _ hd5)),rfl,q7M,_,rfl,?_⟩;show if(!inV (.int n) ((gvn ns ss).map V.int))=true then _ else _;rw[q26];have eg:rst (ns.take (i+1)) (gvn ns ss)=rst (ns.take i) (gvn ns ss)++(if n∈gvn ns ss then[]else[n]):=by
  unfold rst;rw[←mB hi,gR,ev,gF];by_cases y:n∈gvn ns ss
  ·rw[hI y,kG y];rfl
  rw[hG y,kC y];rfl
 rw[eg];by_cases y:n∈gvn ns ss
 ·rw[hI y,kG y,r6];exact iteF ⟨sm7,hd7⟩
 rw[hG y,kC y];refine iteT ?_;refine⟨_,rfl,_,hd7,?_,λb o e=>?_,?_⟩
 ·rw[hV];have l1:(rst (ns.take i) (gvn ns ss)).length≤(ns.take i).length:=mT _ _;rw[mR]at l1;have:(64:Nat)<sizeLine:=by decide
  lia
 ·rw[qE (qF e n6)];exact sm7 _ _ e
 rw[qG,kX];rfl
obtain⟨sm7,hd7⟩:=hp
rw[hV,mZ]at hd7
have inr:∀n∈rst ns (gvn ns ss),0≤n∧n≤63:=λn hn'=>qI8 ft.oq (hn.pm.mem_iff.mp (mO.mp hn').1)
rw[qE6 (λn hn'=>(inr n hn').1)]at hd7
refine⟨D2,_,rfl,SqL.of hd7,λs hs'=>?_,?_⟩
·obtain⟨n,hn',rfl⟩:=mD.mp hs';have:=inr n hn';lia
have hs7:=hs5.same sm7
refine⟨x,.int sh,r3,r4,r5,m,q,64,_,rfl,hs7,ft,gd,hrc,λl' hl'=>?_⟩
obtain rfl:=hfl.one hl'
refine⟨b,f,hsp,ef,hbo,λtp H8 htp k8 st8=>?_⟩
have kk:=kk tp
have k07:Keep [t.aA] H H7:=k05.trans (Keep.same sm7)
have k08:Keep (t.aA::sf x) H H8:=(k07.mono (by simp)).trans k8
obtain⟨hB,hbr,f0,f1⟩:=q9O hfl ft.oq.p1 hsp
have hf:f<q.P:=by lia
have dD:D∉t.aA::sf x:=(hs.same s1).off nD
have hd8:=k8.k _ _ dD (sm7 _ _ hd5)
have okp:=ft.oq.put (n:=64) hB hf ef (by decide) (by decide)
generalize putC m (b*q.P+f) (.ref tp)=m' at kk st8
refine⟨_,rfl,D,rfl,⟨_,SqL.of hd8⟩,?_⟩
refine vE (K:=K) (xs:=(gvn ns ss).map V.int) (λi σ' H'=>∃y',σ'=[some (.ref x.s),some (.ref l0),y',some (.ref hl),some (.ref D)]∧StAt t H' x (.int sh) r3 r4 r5 m' (yI (q.put b f 64) ((gvn ns ss).take i))∧Keep (bf x.k) H8 H') ⟨_,rfl,st8,Keep.refl⟩ (λi σ' H' hi hp=>?_) (λi v σ' H' hv hp=>?_) (λσ' H' hp=>?_)
·obtain⟨y',rfl,st,kb⟩:=hp;exact SqL.of (kb.k _ _ (λw=>dD (by simp[sf,w])) hd8)
·obtain⟨y',rfl,st,kb⟩:=hp;rw[kW]at hv;obtain⟨n,hw,rfl⟩:=mF.mp hv;refine(iV rfl (iF st.o T.aB T.aJ rfl (iM st.bk.o rfl ⟨_,rfl,x.k,_,n,rfl,st.bk,q67 okp,st.ds,λH9 hb9 k9=>?_⟩)));have k9:Keep (bf x.k) H' H9:=k9.mono (by intro b hb;simp at hb;rcases hb with rfl|rfl<;>simp[bf]);refine⟨_,rfl,?_,kb.trans k9⟩;rw[q8O hw];exact st.note hb9 k9
obtain⟨y',rfl,st,kb⟩:=hp
rw[hV,mZ]at st
have hd9:=kb.k _ _ (λw=>dD (by simp[sf,w])) hd8
refine⟨_,rfl,D,_,rfl,.inl (SqL.of hd9),?_⟩
rw[hV]
exact kk H' (kb.tp _ _ htp) (k08.trans (kb.mono (λb hb=>by simp[sf,hb]))) st)
theorem q68{q:QM}:∀{g:List Int},(yI q g).V=q.V.filter (λr=>decide (r.1∉g))∧(yI q g).fi=q.fi∧(yI q g).nx=q.nx∧(yI q g).B=q.B∧(yI q g).P=q.P:=fun {g}=>by(
unfold yI
induction g generalizing q with
|nil=>exact⟨(cA.mpr λz _=>by simp).symm,rfl,rfl,rfl,rfl⟩
|cons n r ih=>obtain⟨a,b,c,d,e⟩:=ih (q:=q.forget n);refine⟨?_,b,c,d,e⟩;rw[wY,a];show(jU q.V n).filter _=_;unfold jU;rw[List.filter_filter];refine cR λz _=>?_;rw[←lF];refine wS.mpr ?_;simp only[kL,not_or];exact⟨λh=>⟨h.2,h.1⟩,λh=>⟨h.2,h.1⟩⟩)
noncomputable def q4H(W:Mp)(g:List Int):Mp:=W.filter λr=>decide (r.1∉g)
theorem v9{W:Mp}{g:List Int}{r:Int×Int}:r∈q4H W g↔r∈W∧r.1∉g:=by unfold q4H;rw[mO,kQ]
theorem q69{W:Mp}{g:List Int}(h:(W.map (·.1)).Nodup):((q4H W g).map (·.1)).Nodup:=h.sublist (rS.map _)
theorem qFO{V W:Mp}{p:Int}{g:List Int}(ndV:(V.map (·.1)).Nodup)(ndW:(W.map (·.1)).Nodup)(pm:(hdN V).Perm (W.map (·.1)))(g64:(64:Int)∉g):(hdN (q4H (jU V 64++[(64,p)]) g)).Perm ((q4H W g).map (·.1)):=by(
have n1:((jU V 64++[((64:Int),p)]).map (·.1)).Nodup:=by
 rw[kX];refine dR.mpr ⟨q3C ndV,by simp,λa ha c hc=>?_⟩;obtain⟨q,hq,rfl⟩:=mD.mp ha;have hc:c=64:=by simpa using hc
 rw[hc];exact(jE.mp hq).2
refine q3B ((q69 n1).sublist rS) (q69 ndW) λx=>?_
have hx:x∈hdN V↔x∈W.map (·.1):=pm.mem_iff
rw[q51,yF]at hx ⊢
constructor
·rintro⟨⟨p',h⟩,h64⟩
 obtain⟨h1,h2⟩:=v9.mp h;rcases gA.mp h1 with h1|h1
 ·obtain⟨v',hv⟩:=hx.mp ⟨⟨p',(jE.mp h1).1⟩,h64⟩;exact⟨v',v9.mpr ⟨hv,h2⟩⟩
 obtain⟨rfl,rfl⟩:x=64∧p'=p:=by simpa using h1
 exact absurd rfl h64
rintro⟨v',h⟩
obtain⟨h1,h2⟩:=v9.mp h
obtain⟨⟨p',hp⟩,h64⟩:=hx.mpr ⟨v',h1⟩
exact⟨⟨p',v9.mpr ⟨mP _ (jE.mpr ⟨hp,h64⟩),h2⟩⟩,h64⟩)
section
variable{H H':Hp}{x:Sto}{so:Nat}{sr:Int}{m:CM}{q:QM}{n:Nat}{W:Mp}
theorem PS.gave{F:List Addr}(h:PS t H x so sr m q n W false)(hn:n<q.B*q.P)(hn9:n<1000){g:List Int}{tp:Addr}(g64:(64:Int)∉g)(st':StAt t H' x (.int (so:Int)) (.int sr) (.int 0) (.int 1000000) (putC m n (.ref tp)) (yI (q.put (n / q.P) (n%q.P) 64) g))
 (k:Keep F H H'):
 PS t H' x so sr (putC m n (.ref tp)) (yI (q.put (n / q.P) (n%q.P) 64) g) (n+1) (q4H W g) false:=by(
obtain⟨a,b,c,d⟩:=h.at hn
have rc:=h.rc
have eB:=h.ft.eB
have eP:=h.ft.eP
have nbo:=h.ft.ok.nbo
have lbo:m.bo.length=q.B*q.P:=by rw[eB,eP,←r9]at nbo;lia
obtain⟨fV,ffi,fnx,fB,fP⟩:=q68 (q:=q.put (n / q.P) (n%q.P) 64) (g:=g)
have fB:(yI (q.put (n / q.P) (n%q.P) 64) g).B=q.B:=fB
have fP:(yI (q.put (n / q.P) (n%q.P) 64) g).P=q.P:=fP
have okq:(yI (q.put (n / q.P) (n%q.P) 64) g).Ok:=q67 (h.ft.oq.put a d b (by decide) (by decide))
have okd:(m.deed "put" (n:Int) ((n:Int) / m.pg) false).Ok:=h.ft.ok.deed (by lia)
have ok':CM.Ok (putC m n (.ref tp)):=⟨okd.bl1,okd.bl2,okd.pg1,okd.pg2,by show((m.bo.set n (.ref tp)).length:Int)=_;rw[gD];exact nbo,okd.ncl,okd.ndc,okd.nbr,okd.lim,okd.nrc⟩
refine⟨st',⟨ok',okq,by rw[fB];exact eB,by rw[fP];exact eP⟩,by rw[fB];exact h.br,by rw[fB];exact h.cl,?_,h.li,by show m.lf.map _=none;rw[h.lf];rfl,by rw[fB,fP];exact hn,?_,λp hp=>?_,q69 h.nd,?_,λs' hs'=>?_,λs' v' hv=>?_,h.so1⟩
·rw[ffi,fB,fP];show q.fi.set (n / q.P) (q.fi.getD (n / q.P) 0+1)=linF q.B q.P (n+1);rw[h.fi];exact qBG h.ft.oq.p1 hn
·show(m.rc++[_]).length=n+1;rw[mU,rc];rfl
·show(m.bo.set n (.ref tp)).getD p .non=.non;rw[q0F,kC (λy=>by lia)];exact h.cr p (by lia)
·rw[fV];exact qFO h.ft.oq.nd h.nd h.pm g64
·obtain⟨v',hv⟩:=yF.mp hs';exact h.kb s' (yF.mpr ⟨v',(v9.mp hv).1⟩)
obtain⟨h1,h2⟩:=v9.mp hv
obtain⟨p,st,mk',a1,a2,a3,a4,a5⟩:=h.vl s' v' h1
have hk:s'∈hdN q.V:=h.pm.mem_iff.mpr (yF.mpr ⟨v',h1⟩)
refine⟨p,st,mk',?_,a2,a3,?_,k.tp _ _ a5⟩
·rw[fV];exact v9.mpr ⟨mP _ (jE.mpr ⟨a1,(q51.mp hk).2⟩),h2⟩
show(m.bo.set n (.ref tp)).getD p.toNat .non=_
rw[q0F,kC (λy=>by rw[←y.1,h.cr n (kB _)]at a4;cases a4)]
exact a4)
end
theorem qFP{ns:List Int}{s:Int}(nd:ns.Nodup):gvn ns [s]=if s∈ns then[s]else[]:=by(
unfold gvn
induction ns with
|nil=>rfl
|cons a r ih=>
 obtain⟨n1,n2⟩:=gC.mp nd;rw[gF,ih n2];by_cases e:a=s
 ·subst e;simp[n1]
 have:¬s=a:=λz=>e z.symm;simp[e,this])
theorem qJH{H:Hp}{Q:VK}{E:XK}{x:Sto}{so:Nat}{sr:Int}{m:CM}{q:QM}{n:Nat}{W:Mp}{l0:Addr}{s:Int}(h:PS t H x so sr m q n W false)(hl:H l0=some (.lst [.int s]))(s0:0≤s)(s1:s<(so:Int))(nb:n<q.B*q.P)(n9:n<1000)
 (k1:s∉W.map (·.1)→∀H',Same H H'→Q (.int 0) H') (k2:s∈W.map (·.1)→∀m' q' H',PS t H' x so sr m' q' (n+1) (jU W s) false→q'.B=q.B→q'.P=q.P→Keep (t.aA::sf x) H H'→Q (.int 1) H'):spGU t [.ref x.s,.ref l0] H Q E:=by(
refine⟨x,_,_,_,m,q,l0,[s],(so:Int),rfl,h.st,h.ft,h.h64,by rw[h.rc];lia,hl,λs' hs'=>by rw[kF.mp hs'];lia,h.gd,λns hn=>?_⟩
have nd:ns.Nodup:=hn.pm.nodup_iff.mpr (h.pm.nodup_iff.mpr h.nd)
have hm:s∈ns↔s∈W.map (·.1):=(hn.pm.trans h.pm).mem_iff
rw[qFP nd]
by_cases c:s∈W.map (·.1)
·rw[kG (hm.mpr c),kC (by simp)];intro l hl';obtain⟨a,b,e,d⟩:=h.at nb;refine⟨n / q.P,n%q.P,by rw[h.spot hl',kG nb],b,by rw[e];exact h.cr n (kB _),λtp H' _ k st=>?_⟩;rw[e]at st;have ps:=h.gave nb n9 (g:=[s]) (by have:=h.so1;simp;lia) st k;have ed:q4H W [s]=jU W s:=by unfold q4H jU;refine cR λz _=>?_;simp
 rw[ed]at ps;obtain⟨_,_,_,fB,fP⟩:=q68 (q:=q.put (n / q.P) (n%q.P) 64) (g:=[s]);exact k2 c _ _ H' ps fB fP k
rw[kC (λw=>c (hm.mp w)),kG rfl]
exact k1 c)
noncomputable def mkS(l:List Nat):Str:=⟨l.toArray⟩
theorem qE7{l:List Nat}{c:Nat}:mkS l++(⟨#[c]⟩:Str)=mkS (l++[c]):=by show(⟨l.toArray++#[c]⟩:Str)=⟨(l++[c]).toArray⟩;simp
theorem qBJ{l:List Nat}:(mkS l).length=l.length:=by simp[mkS,Str.length]
noncomputable def szS(cell:Int):Nat:=(1+cell%8).toNat
noncomputable def baS(cell:Int)(j:Nat):Int:=(cell / ((j:Int)+2)+3*(j:Int))%26
noncomputable def leS(cell place:Int)(k j:Nat):Nat:=((baS cell j+(k:Int)*(if(j:Int)=place%(szS cell:Int)then 1 else 0))%26).toNat
noncomputable def nmS(cell place:Int)(k:Nat):Str:=mkS ((List.range (szS cell)).map λj=>97+leS cell place k j)
theorem qE8(cell:Int):1≤szS cell∧szS cell≤8∧((szS cell:Nat):Int)=1+cell%8:=by unfold szS;lia
theorem qAR{i:Nat}(h:i<26):atI (Str.ofString "abcdefghijklmnopqrstuvwxyz").cps.toList (i:Int)=some (97+i):=by
 have:∀i:Nat,i<26→atI (Str.ofString "abcdefghijklmnopqrstuvwxyz").cps.toList (i:Int)=some (97+i):=by decide+kernel
 exact this i h
theorem qI9:∀i,i<26→lowC (97+i)=true:=by decide+kernel
theorem qIA{cell place:Int}{k:Nat}:isNm (.str (nmS cell place k))=true:=by(
obtain⟨a,b,_⟩:=qE8 cell
have l:(nmS cell place k).length=szS cell:=by unfold nmS;rw[qBJ,hV,mG]
show(decide (1≤(nmS cell place k).length)&&decide ((nmS cell place k).length≤8)&&(nmS cell place k).cps.toList.all lowC)=true
rw[l,hI a,hI b]
show(((List.range (szS cell)).map λj=>97+leS cell place k j).toArray.toList.all lowC)=true
rw[sN,xF,gK]
intro j _
refine qI9 _ ?_
unfold leS
lia)
theorem qFQ{cell place:Int}:Unl 4 (nmS cell place):=by(
intro i j hi hj e
obtain⟨a,b,c⟩:=qE8 cell
have e1:((List.range (szS cell)).map λp=>97+leS cell place i p)=(List.range (szS cell)).map λp=>97+leS cell place j p:=by have:=dB (λs:Str=>s.cps.toList) e;simpa[nmS,mkS]using this
have hp:(place%(szS cell:Int)).toNat<szS cell:=by have:=gS place (show(0:Int)<(szS cell:Int) by lia);have:=gP place (show((szS cell:Nat):Int)≠0 by lia);lia
have e2:=List.map_inj_left.mp e1 _ (k7.mpr hp)
have hq:(((place%(szS cell:Int)).toNat:Nat):Int)=place%(szS cell:Int):=gN (gP place (by lia))
unfold leS at e2
rw[kG hq]at e2
generalize baS cell _=B at e2
lia)
noncomputable def qJI:Sp:=λvs H Q _=>∃cell place:Int,∃many:Nat,vs=[.int cell,.int place,.int (many:Int)]∧many≤4∧∀l H',Same H H'→H l=none→H' l=some (.lst ((List.range many).map λk=>.str (nmS cell place k)))→Q (.ref l) H'
theorem q8P(T:Txt K mg t)(S:Fns K t):S.o9.Ok0 P w mg base 1 qJI:=by(
refine S.o9.F.ok0 y3 λcdv A _ s H vs Q E hr h=>?_
obtain⟨cell,place,many,rfl,m4,q⟩:=h
obtain⟨z1,z8,ez⟩:=qE8 cell
have sz:(100:Nat)<sizeLine:=by decide
refine⟨_,(qB (qS (i:=3) y3.nd rfl (Or.inl rfl) qQ) (qB (qS (i:=4) y3.nd rfl (Or.inl rfl) (qP jQ qI (qP yG (pv 0) qI))) (qB (q5L (i:=5) ["_law_cell","_law_k"] [0] rfl (uL rfl T.fM (qA (pv 4) qC)) (λ_ _ _ _ _=>(qR (i:=1) (show List.Nodup (["_law_cell","_law_k"]:List Str)from by decide) rfl (Or.inl rfl))) (λ_ _ _ _ _=>vX) (λ_ _ _ _ _=>(qP yG (qP jQ (qP u7 (pv 0) (qP jQ (pv 1) qI)) (qP zW qI (pv 1))) qI)) (by kernel_rfl) (yC (by decide)) y3.nd rfl (Or.inl rfl)) (qB (qS (i:=6) y3.nd rfl (Or.inl rfl) (yN qC)) (qB (uQ gE rfl (uL rfl T.fM (qA (pv 2) qC)) (qR (i:=7) y3.nd rfl (Or.inl rfl)) (qB (qS (i:=8) y3.nd rfl (Or.inl rfl) qQ) (qB (uQ gE rfl (uL rfl T.fM (qA (pv 4) qC)) (qR (i:=9) y3.nd rfl (Or.inl rfl)) (qB (qS (i:=10) y3.nd rfl (Or.inl rfl) (qP zW (pv 7) (zC q72 (by rfl) T.aA6 (by kernel_rfl) (qA (yP vG (pv 9) (qP yG (pv 1) (pv 4)) (qX _)) qC)))) (qD (qS (i:=8) y3.nd rfl (Or.inl rfl) (qP v4 (pv 8) (yJ qGM (pv 3) (qP yG (qP jQ (yJ jX (pv 5) (pv 9) (λ_ _=>rfl)) (pv 10)) qI) (λ_ _=>rfl))))))) (qD (jC (qCZ g6 rX rY q1Z (pv 6) (qA (pv 8) qC))))))) (qD (qO (pv 6)))))))),?_⟩
try dsimp-beta-proj-iota-zeta-eta only[wishK,cxK]
refine⟨_,rfl,iI ⟨(by show(0:Int)<8;decide),iI ?_⟩⟩
dsimp only
rw[←ez]
refine⟨_,rfl,_,rfl,by lia,by lia,λD H1 nD s1 hD=>?_⟩
rw[mL]
refine qC6 (D:=D) (λi H3=>Same H H3∧H3 D=some (.lst ((List.range i).map λj=>.int (baS cell j)))) ⟨s1,hD⟩ (λi H3 hi hp=>?_) (λH3 hp=>?_)
·obtain⟨sm,hd⟩:=hp;have e0:(cell / ((0+(i:Int))+2)+3*(0+(i:Int)))%26=baS cell i:=by rw[g4];rfl
 refine⟨_,rfl,_,rfl,iI (iI ⟨⟨by lia,by lia⟩,_,rfl,iI ⟨.inl ⟨by decide,by decide⟩,iI (iI ⟨(by show(0:Int)<26;decide),_,hd,by rw[hV,mG];lia,λb o e=>?_,?_⟩)⟩⟩)⟩
 ·rw[qE (qF e nD)];exact sm _ _ e
 rw[qG,g8,kX];dsimp only;rw[e0];rfl
obtain⟨sm,hd⟩:=hp
refine⟨sz0,λl H4 nl s4 hl=>?_⟩
have nl0:=sm.free nl
refine⟨_,rfl,_,rfl,by lia,by lia,?_⟩
rw[mL]
have Dl:D≠l:=qF hd nl
refine q0K (λi σ' H5=>(∃y7 y8 y9 y10,σ'=[some (.int cell),some (.int place),some (.int (many:Int)),some (.str "abcdefghijklmnopqrstuvwxyz"),some (.int (szS cell:Nat)),some (.ref D),some (.ref l),y7,y8,y9,y10])∧H5 l=some (.lst ((List.range i).map λk=>.str (nmS cell place k)))∧H5 D=some (.lst ((List.range (szS cell)).map λj=>.int (baS cell j)))∧Same H H5) ⟨⟨_,_,_,_,rfl⟩,hl,s4 _ _ hd,sm.trans s4⟩ (λi σ' H5 D' nxt hi hp=>?_) (λσ' H5 hp=>?_)
·obtain⟨⟨y7,y8,y9,y10,rfl⟩,hl5,hd5,s5⟩:=hp;refine⟨_,rfl,_,rfl,by lia,by lia,?_⟩;rw[mL];refine q0K (λj σ' H6=>(∃y9 y10,σ'=[some (.int cell),some (.int place),some (.int (many:Int)),some (.str "abcdefghijklmnopqrstuvwxyz"),some (.int (szS cell:Nat)),some (.ref D),some (.ref l),some (.int (0+(i:Int))),some (.str (mkS ((List.range j).map λj=>97+leS cell place i j))),y9,y10])∧H6=H5) ⟨⟨_,_,rfl⟩,rfl⟩ (λj σ' H6 D2 nxt2 hj hp=>?_) (λσ' H6 hp=>?_)
 ·obtain⟨⟨y9,y10,rfl⟩,rfl⟩:=hp;refine⟨_,rfl,_,rfl,_,rfl,_,rfl,iI ⟨by lia,rfl,?_⟩⟩;refine .inr ⟨_,rfl,?_⟩;refine(iI ⟨.inl ⟨by lia,by lia⟩,?_⟩);have hle:leS cell place i j<26:=by unfold leS;lia
  have ei:(baS cell j+(0+(i:Int))*(if decide (V.int (0+(j:Int))=V.int (place%(szS cell:Nat)))=true then 1 else 0))%26=((leS cell place i j:Nat):Int):=by
   unfold leS;rw[gN (by lia),g4,g4];by_cases y:(j:Int)=place%(szS cell:Nat)
   ·rw[kG y,hI (by rw[y]),kG rfl]
   rw[kC y,hG (λz=>y (V.int.inj z)),kC (by decide)]
  have hat:atI ((List.range (szS cell)).map λj=>V.int (baS cell j)) (0+(j:Int))=some (.int (baS cell j)):=by rw[g4];exact uR (by rw[kW,rT hj];rfl)
  refine⟨_,rfl,_,rfl,_,rfl,_,rfl,iL (k:=_) (v:=.int (baS cell j)) (SqL.of hd5) hat ⟨_,rfl,iI (iI ⟨(by show(0:Int)<26;decide),?_⟩)⟩⟩;dsimp only;rw[ei];refine⟨_,_,_,rfl,rfl,by decide,qAR hle,_,_,rfl,rfl,?_,?_⟩
  ·rw[qBJ,hV,mG];show j+1≤sizeLine;lia
  have e9:mkS ((List.range j).map λj=>97+leS cell place i j)++(⟨#[97+leS cell place i j]⟩:Str)=mkS ((List.range (j+1)).map λj=>97+leS cell place i j):=by rw[qE7,g8,kX];rfl
  rw[e9];exact nxt2 _ _ ⟨⟨_,_,rfl⟩,rfl⟩
 obtain⟨⟨y9,y10,rfl⟩,rfl⟩:=hp;refine⟨_,rfl,.inl ⟨rfl,_,SqL.of hl5⟩,_,rfl,l,_,_,rfl,rfl,hl5,by rw[hV,mG];lia,?_⟩;refine nxt _ _ ⟨⟨_,_,_,_,rfl⟩,?_,?_,λb o e=>?_⟩
 ·rw[qG,g8,kX];rfl
 ·rw[qE Dl];exact hd5
 rw[qE (qF e nl0)];exact s5 _ _ e
obtain⟨⟨y7,y8,y9,y10,rfl⟩,hl5,hd5,s5⟩:=hp
exact⟨_,rfl,q l H5 s5 nl0 hl5⟩)
noncomputable def nT(ns:List Int):Nat:=(1+yK ns 0%4).toNat
noncomputable def ctT(ns:List Int)(i:Nat):Nat:=(1+yK ns (3+(i:Int))%6).toNat
noncomputable def scT(ns:List Int)(i:Nat):Nat:=(1+yK ns (3+(i:Int)) / 6%4).toNat
noncomputable def nmT(ns:List Int):Nat→Str:=nmS (yK ns 1) (yK ns 2)
theorem tabT{ns:List Int}:TabOk (nT ns) (nmT ns) (ctT ns) (scT ns) where
n4:=by unfold nT;lia
u:=qFQ.less (by unfold nT;lia)
nm:=λi _=>qIA
c1:=λi _=>by unfold ctT;lia
s1:=λi _=>by unfold scT;lia
theorem Rws.snoc{H H':Hp}{us:List V}{i:Nat}{nm:Nat→Str}{ct sc:Nat→Nat}{tp:Addr}(h:Rws H us i nm ct sc)(k:∀b xs,H b=some (.tup xs)→H' b=some (.tup xs))(e:H' tp=some (.tup [.str (nm i),.int (ct i:Nat),.int (sc i:Nat)])):Rws H' (us++[.ref tp]) (i+1) nm ct sc:=by(
have lu:=h.1
have h5:=h.tp k
refine⟨by rw[mU,lu];rfl,λj hj=>?_⟩
by_cases y:j<i
·obtain⟨v',e,r⟩:=h5.2 j y;exact⟨v',by rw[gM (by lia)];exact e,r⟩
obtain rfl:j=i:=by lia
exact⟨.ref tp,by rw[mQ (by lia),lu];simp,tp,rfl,e⟩)
noncomputable def spTb(K:W.Frag):Sp:=λvs H Q _=>∃a ns,vs=[.ref a,.int 0]∧SqL K H a (List.map V.int ns)∧∀l us H',Same H H'→H l=none→H' l=some (.lst us)→Rws H' us (nT ns) (nmT ns) (ctT ns) (scT ns)→Q (.ref l) H'
theorem q8Q(T:Txt K mg t)(S:Fns K t):S.oP.Ok0 P w mg base 2 (spTb K):=by(
refine S.oP.F.ok0 uB λcdv A _ s H vs Q E hr h=>?_
obtain⟨a,ns,rfl,sq,q⟩:=h
have sz:(100:Nat)<sizeLine:=by decide
refine⟨_,(qB (qS (i:=2) uB.nd rfl (Or.inl rfl) (qP jQ qI (qP yG (qT (yD T S).mono hr rfl T.aM T.aN S.aP.b .nil qL (qA (pv 0) (qA (pv 1) qC))) qI))) (qB (qS (i:=3) uB.nd rfl (Or.inl rfl) (qT (q8P T S).mono hr rfl T.xS T.xT S.o9.b .nil qL (qA (qT (yD T S).mono hr rfl T.aM T.aN S.aP.b .nil qL (qA (pv 0) (qA (qP jQ (pv 1) qI) qC))) (qA (qT (yD T S).mono hr rfl T.aM T.aN S.aP.b .nil qL (qA (pv 0) (qA (qP jQ (pv 1) qI) qC))) (qA (pv 2) qC))))) (qB (qS (i:=4) uB.nd rfl (Or.inl rfl) (yN qC)) (qB (uQ gE rfl (uL rfl T.fM (qA (pv 2) qC)) (qR (i:=5) uB.nd rfl (Or.inl rfl)) (qB (qS (i:=6) uB.nd rfl (Or.inl rfl) (qT (yD T S).mono hr rfl T.aM T.aN S.aP.b .nil qL (qA (pv 0) (qA (qP jQ (qP jQ (pv 1) qI) (pv 5)) qC)))) (qD (jC (qCZ g6 rX rY q1Z (pv 4) (qA (q0I (qA (yJ jX (pv 3) (pv 5) (λ_ _=>rfl)) (qA (qP jQ qI (qP yG (pv 6) qI)) (qA (qP jQ qI (qP yG (qP u7 (pv 6) qI) qI)) qC)))) qC yZ)))))) (qD (qO (pv 4))))))),?_⟩
try dsimp-beta-proj-iota-zeta-eta only[wishK,cxK]
have eN:((nT ns:Nat):Int)=1+yK ns 0%4:=by unfold nT;lia
have n4:nT ns≤4:=tabT.n4
refine⟨_,rfl,_,rfl,a,ns,0,rfl,sq,by lia,_,_,rfl,rfl,(by show(0:Int)<4;decide),iI ?_⟩
dsimp only
rw[←eN]
refine⟨_,rfl,_,rfl,iI ⟨a,ns,_,rfl,sq,by decide,_,rfl,_,rfl,iI ⟨a,ns,_,rfl,sq,by decide,_,rfl,_,_,nT ns,rfl,n4,λl1 H1 s1 n1 h1=>?_⟩⟩⟩
have h1:H1 l1=some (.lst ((List.range (nT ns)).map λk=>.str (nmT ns k))):=h1
refine⟨sz0,λl H2 nl s2 hl=>?_⟩
have nl0:=s1.free nl
have ll:l1≠l:=qF h1 nl
refine⟨_,rfl,_,rfl,by lia,by lia,?_⟩
rw[mL]
refine q0K (λi σ' H3=>(∃y5 y6,σ'=[some (.ref a),some (.int 0),some (.int (nT ns:Nat)),some (.ref l1),some (.ref l),y5,y6])∧H3 l1=some (.lst ((List.range (nT ns)).map λk=>.str (nmT ns k)))∧Same H H3∧∃us,H3 l=some (.lst us)∧Rws H3 us i (nmT ns) (ctT ns) (scT ns)) ⟨⟨_,_,rfl⟩,s2 _ _ h1,s1.trans s2,[],hl,rfl,λi hi=>by lia⟩ (λi σ' H3 D' nxt hi hp=>?_) (λσ' H3 hp=>?_)
·obtain⟨⟨y5,y6,rfl⟩,h13,s3,us,hl3,pr⟩:=hp;refine⟨_,rfl,_,rfl,iI ⟨_,rfl,iI ⟨a,ns,_,rfl,s3.seq sq,by lia,?_⟩⟩⟩;refine⟨_,rfl,.inl ⟨rfl,_,SqL.of hl3⟩,?_⟩;have hat:atI ((List.range (nT ns)).map λk=>V.str (nmT ns k)) (0+(i:Int))=some (.str (nmT ns i)):=by rw[g4];exact uR (by rw[kW,rT hi];rfl)
 have ec:yK ns (0+3+(0+(i:Int)))=yK ns (3+(i:Int)):=by rw[g4,g4]
 rw[ec];have e1:1+yK ns (3+(i:Int))%6=((ctT ns i:Nat):Int):=by unfold ctT;lia
 have e2:1+yK ns (3+(i:Int)) / 6%4=((scT ns i:Nat):Int):=by unfold scT;lia
 refine⟨_,rfl,_,rfl,iL (k:=_) (v:=_) (SqL.of h13) hat ⟨_,rfl,iI ⟨(by show(0:Int)<6;decide),iI ⟨_,rfl,iI ⟨⟨by show(0:Int)<6;decide,by decide⟩,iI ⟨(by show(0:Int)<4;decide),iI ⟨sz3,λtp H4 n4' s4 h4=>?_⟩⟩⟩⟩⟩⟩⟩;dsimp only at h4;rw[e1,e2]at h4;have lu:=pr.1;refine⟨l,_,_,rfl,rfl,s4 _ _ hl3,by lia,?_⟩;refine nxt _ _ ⟨⟨_,_,rfl⟩,?_,λb o e=>?_,_,qG,?_⟩
 ·rw[qE ll];exact s4 _ _ h13
 ·rw[qE (qF e nl0)];exact s4 _ _ (s3 _ _ e)
 refine pr.snoc (λb xs e=>?_) ?_
 ·rw[qE (λy=>by rw[y,hl3]at e;cases e)];exact s4 _ _ e
 rw[qE (λy=>by rw[y,s4 _ _ hl3]at h4;cases h4)];exact h4
obtain⟨⟨y5,y6,rfl⟩,h13,s3,us,hl3,pr⟩:=hp
exact⟨_,rfl,q l us H3 s3 nl0 hl3 pr⟩)
noncomputable def dA(w nm:Str)(s v:Int):List (Key×V):=[((Sum.inr "word":Key),.str w),((Sum.inr "name":Key),.str nm),((Sum.inr "sheet":Key),.int s),((Sum.inr "value":Key),.int v)]
noncomputable def q7N(Q:VK)(w:Str)(v:V)(H:Hp):Prop:=∀u H',Same H H'→H' u=some (.tup [.str w,v])→Q (.ref u) H'
noncomputable def spTr(t:Adr):Sp:=λvs H Q _=>∃x so sr m q n' W z n nm ct sc i ya w,∃s v:Int,vs=[.ref x.s,.ref z.p,.ref ya]∧H ya=some (.dK (dA w (nm i) s v))∧PtAt t H z x.s n nm ct sc∧PS t H x so sr m q n' W false∧Unl n nm∧i<n∧fst ct n≤so∧0≤v∧v<10 ^ 30∧n'<q.B*q.P∧n'<1000∧((w="part"∧0≤s∧s<((ct i:Nat):Int)∧(((fst ct i:Nat)+s∈W.map (·.1)∨(cutP (fst ct i) (ct i) (W.map (·.1))).length<sc i)∧((fst ct i:Nat)+s∈W.map (·.1)∨((W.length:Nat):Int)<sr)→∀m' q' H',PS t H' x so sr m' q' (n'+1) (putW W ((fst ct i:Nat)+s) v) false→q'.B=q.B→q'.P=q.P→((fst ct i:Nat)+s,(n':Int))∈q'.V→Keep (t.aA::sf x) H H'→q7N Q "done" (.int (n':Int)) H')∧(¬(((fst ct i:Nat)+s∈W.map (·.1)∨(cutP (fst ct i) (ct i) (W.map (·.1))).length<sc i)∧((fst ct i:Nat)+s∈W.map (·.1)∨((W.length:Nat):Int)<sr))→q7N Q "full" .non H))∨(w="give"∧0≤s∧s<(so:Int)∧(s∉W.map (·.1)→q7N Q "done" (.int 0) H)∧(s∈W.map (·.1)→∀m' q' H',PS t H' x so sr m' q' (n'+1) (jU W s) false→q'.B=q.B→q'.P=q.P→Keep (t.aA::sf x) H H'→q7N Q "done" (.int 1) H'))∨(w="store"∧0≤s∧s<(so:Int)∧((s∈W.map (·.1)∨((W.length:Nat):Int)<sr)→∀m' q' H',PS t H' x so sr m' q' (n'+1) (putW W s v) false→q'.B=q.B→q'.P=q.P→(s,(n':Int))∈q'.V→Keep (t.aA::sf x) H H'→q7N Q "done" (.int (n':Int)) H')∧(¬(s∈W.map (·.1)∨((W.length:Nat):Int)<sr)→q7N Q "full" .non H)))
theorem q8R(T:Txt K mg t)(S:Fns K t)(B:BmIn base mg):S.tD.Ok0 P w mg base 14 (spTr t):=by(
refine S.tD.F.ok0 yW λcdv A _ s H vs Q E hr h=>?_
obtain⟨x,so,sr,m,q,n',W,z,n,nm,ct,sc,i,ya,w',s',v,rfl,ha,hp,hs,u,hi,hso,v0,v1,nb,n9,kk⟩:=h
have hu:=vR hr
have sz2:(2:Nat)≤sizeLine:=by decide
refine⟨_,(qB (qS (i:=3) yW.nd rfl (Or.inl rfl) qQ) (qB (qS (i:=4) yW.nd rfl (Or.inl rfl) uO) (qB (qAD (λpins XE ES tk1 po1=>(qD (jA (qY vG (qZ hu (pv 2) qQ (λ_ _=>rfl)) qQ (qX _)) (qD (qS (i:=4) yW.nd rfl (Or.inl rfl) (yO tk1 (pv 1) T.aD T.tV (q66 T S B).mono hr S.iA.b .nil (qA (qZ hu (pv 2) qQ (λ_ _=>rfl)) (qA (qZ hu (pv 2) qQ (λ_ _=>rfl)) (qA (qZ hu (pv 2) qQ (λ_ _=>rfl)) qC)))))) (qD (jA (qY vG (qZ hu (pv 2) qQ (λ_ _=>rfl)) qQ (qX _)) (qD (qS (i:=4) yW.nd rfl (Or.inl rfl) (jG (pv 0) T.aB T.oX (q46 T S B).mono hr S.eU.b .nil qL (qA (yN (qA (qZ hu (pv 2) qQ (λ_ _=>rfl)) qC)) qC q5H)))) (qD (qS (i:=4) yW.nd rfl (Or.inl rfl) (yO tk1 (pv 0) T.aB T.iJ (q1U T S B).mono hr S.eZ.b .nil (qA (qZ hu (pv 2) qQ (λ_ _=>rfl)) (qA (qZ hu (pv 2) qQ (λ_ _=>rfl)) qC)))))))))) (q7Z (λea=>(zR rfl T.aAK rfl (v:=.ref t.C_Full))) rfl (λea=>(qD (qS (i:=3) yW.nd rfl (Or.inl rfl) qQ))) (qAC yB))) (qD (qO (q0I (qA (pv 3) (qA (pv 4) qC)))))))),?_⟩
try dsimp-beta-proj-iota-zeta-eta only[wishK,cxK]
have gw:DGet H ya (.str "word") (some (.str w')):=DGet.k (k:=Sum.inr "word") ha
have gn:DGet H ya (.str "name") (some (.str (nm i))):=DGet.k (k:=Sum.inr "name") ha
have gs:DGet H ya (.str "sheet") (some (.int s')):=DGet.k (k:=Sum.inr "sheet") ha
have gv:DGet H ya (.str "value") (some (.int v)):=DGet.k (k:=Sum.inr "value") ha
refine⟨_,rfl,ya,_,rfl,gw,rfl,_,rfl,?_⟩
rcases kk with⟨rfl,s0,s1,k1,k2⟩|⟨rfl,s0,s1,k1,k2⟩|⟨rfl,s0,s1,k1,k2⟩
·rw[hI rfl];refine iteT ?_;refine(iV rfl (iM hp.o rfl ⟨_,rfl,ya,_,rfl,gn,_,rfl,ya,_,rfl,gs,_,rfl,ya,_,rfl,gv,?_⟩));dsimp only[tNil,mM,mV];refine⟨z,x,so,sr,m,q,n',W,n,nm,ct,sc,i,s',v,rfl,hp,hs,u,hi,s0,s1,hso,v0,v1,nb,n9,λc1 c2 m' q' H' a b c d k=>?_,λy H' s'=>?_⟩
 ·exact⟨_,rfl,_,rfl,sz2,λu2 H2 n2 s2 e2=>k1 ⟨c1,c2⟩ m' q' H' a b c d k u2 H2 s2 e2⟩
 intro ea hea;exact⟨_,T.i8,iteT ⟨_,rfl,_,rfl,sz2,λu2 H2 n2 s2 e2=>k2 y u2 H2 (s'.trans s2) e2⟩⟩
·rw[hG (by intro z;injection z with z;revert z;decide)];refine iteF ?_;refine⟨_,rfl,ya,_,rfl,gw,rfl,_,rfl,?_⟩;rw[hI rfl];refine iteT ?_;refine(iV rfl (iM hs.st.o rfl ⟨_,rfl,ya,_,rfl,gs,sz1,λl0 H1 n1 s1' h1=>?_⟩));dsimp only[tNil,mM,mV];refine qJH (hs.same s1') h1 s0 s1 nb n9 (λc H' s2=>?_) (λc m' q' H' a b d k=>?_)
 ·exact⟨_,rfl,_,rfl,sz2,λu2 H2 n2 s2' e2=>k1 c u2 H2 ((s1'.trans s2).trans s2') e2⟩
 exact⟨_,rfl,_,rfl,sz2,λu2 H2 n2 s2' e2=>k2 c m' q' H' a b d ((Keep.same s1').trans k) u2 H2 s2' e2⟩
rw[hG (by intro z;injection z with z;revert z;decide)]
refine iteF ?_
refine⟨_,rfl,ya,_,rfl,gw,rfl,_,rfl,?_⟩
rw[hG (by intro z;injection z with z;revert z;decide)]
refine iteF ?_
refine(iV rfl (iM hs.st.o rfl ⟨_,rfl,ya,_,rfl,gs,_,rfl,ya,_,rfl,gv,?_⟩))
dsimp only[tNil,mM,mV]
refine⟨x,so,sr,m,q,n',W,s',v,rfl,hs,s0,s1,v0,v1,nb,n9,λc m' q' H' a b d e k=>?_,λy H' s'=>?_⟩
·exact⟨_,rfl,_,rfl,sz2,λu2 H2 n2 s2 e2=>k1 c m' q' H' a b d e k u2 H2 s2 e2⟩
intro ea hea
exact⟨_,T.i8,iteT ⟨_,rfl,_,rfl,sz2,λu2 H2 n2 s2 e2=>k2 y u2 H2 (s'.trans s2) e2⟩⟩)
noncomputable def spNb(t:Adr):Sp:=λvs H Q _=>∃x so sr m q n' W dk nm,vs=[.ref x.s,.str nm]∧PS t H x so sr m q n' W dk∧0≤sr∧∀H',Same H H'→Q (.bl true) H'
theorem q6U(T:Txt K mg t)(S:Fns K t):S.iU.Ok0 P w mg base 7 (spNb t):=by(
refine S.iU.F.ok0 q09 λcdv A _ s H vs Q E hr h=>?_
obtain⟨x,so,sr,m,q,n',W,dk,nm,rfl,hs,r0,k⟩:=h
refine⟨_,(qB (qS (i:=2) q09.nd rfl (Or.inl rfl) uN) (qB (qAD (λpins XE ES tk1 po1=>(qD (jC (yO tk1 (q37 tk1 T.oC (vD T S).mono hr rfl T.oG S.bZ.b .nil (qA (pv 0) (qA (yN qC) qC q5H))) T.aD T.eI (vC T S).mono hr S.bX.b .nil (qA (pv 1) qC))))) (q7Z (λea=>(zR rfl T.aX rfl (v:=.ref t.C_NoPart))) rfl (λea=>(qD (qS (i:=2) q09.nd rfl (Or.inl rfl) uN))) (qAC yB))) (qD (qO (pv 2))))),?_⟩
try dsimp-beta-proj-iota-zeta-eta only[wishK,cxK]
refine⟨_,rfl,sz0,λl H1 n1 s1 h1=>?_⟩
refine λp pd np npd nn=>?_
have sP:Same H1 (upd (upd H1 pd (.own p)) p (.ins t.C_Parts pd [])):=q39 np npd
refine⟨p,pd,x,so,sr,m,q,n',W,dk,l,[],rfl,qG,(hs.same s1).same sP,sP _ _ h1,by decide,λv hv=>absurd hv (by simp),λ⟨v,hv,_⟩=>absurd hv (by simp),λn nm' ct sc rw' _ no=>?_,λn nm' ct sc rw' _ okc fs cs ss H2 pt fcs f1 f2 f3 up=>⟨rfl,?_⟩⟩
·obtain rfl:n=0:=rw'.1.symm;exact absurd ⟨λi j hi _ _=>by lia,by show((0:Nat):Int)≤_;lia,by show((0:Nat):Int)≤_;lia⟩ no
obtain rfl:n=0:=rw'.1.symm
have s12:Same H1 H2:=λb o e=>up b o (qF e np) (sP b o e)
refine(iM pt.o rfl ⟨_,rfl,⟨p,pd,fs,cs,ss⟩,x,so,sr,m,q,n',W,dk,0,nm',ct,sc,.str nm,rfl,pt,(hs.same s1).same s12,okc.1,.str _,λi hi=>by lia,λ_=>?_⟩)
intro ea hea
exact⟨_,T.bU,iteT ⟨_,rfl,k _ (s1.trans s12)⟩⟩)
noncomputable def spNu:Sp:=λvs H Q _=>∃a b xs,vs=[.ref a,.ref b]∧H a=some (.lst (List.map V.int xs))∧H b=some (.lst (List.map V.int xs))∧xs.length≤100∧∀H',Same H H'→Q (.bl true) H'
theorem q6A(T:Txt K mg t)(S:Fns K t):S.f8.Ok0 P w mg base 2 spNu:=by(
refine S.f8.F.ok0 q60 λcdv A _ s H vs Q E hr h=>?_
obtain⟨a,b,xs,rfl,ha,hb,lx,k⟩:=h
have sz:(100:Nat)<sizeLine:=by decide
refine⟨_,(qB (jA (PW.pt (q11 (jJ (jF (qU jY (by rfl) T.aL (by kernel_rfl) (qA (pv 0) (qA (vA rfl T.tQ (by kernel_rfl) rfl (v:=.ty "list")) qC))))) (zE (qY (qDE hr.units) (pv 0) (pv 1) (qX _))))) (qD (qO uN)) qM) (qD (qO (yP vG (qU jH (by rfl) T.fO mW (qA (yV ["_law_number"] [] rfl (jW (pv 0)) (λ_ _ _ _ _=>(qR (i:=0) (show List.Nodup (["_law_number"]:List Str)from by decide) rfl (Or.inl rfl))) (λ_ _ _ _ _=>(vY (jF (qT (uX T S).mono hr rfl T.bR T.bS S.b8.b .nil qL (qA (pv 0) qC))))) (λ_ _ _ _ _=>(pv 0)) (by kernel_rfl) (yC (by decide))) qC)) (qU jH (by rfl) T.fO mW (qA (pv 0) qC)) (qX _))))),?_⟩
try dsimp-beta-proj-iota-zeta-eta only[wishK,cxK]
refine⟨_,rfl,.ref a,_,_,.type "list",_,rfl,rfl,.inl (.lst ha),qAA,_,rfl,iteF ?_⟩
refine⟨_,rfl,_,rfl,qCH (SqL.of ha) (SqL.of hb) q7M,_,rfl,iteF ?_⟩
refine⟨_,rfl,a,rfl,⟨_,SqL.of ha⟩,λD H1 nD s1 hD=>?_⟩
refine q17 (K:=K) (xs:=xs.map V.int) (D:=D) (λi H2=>Same H H2∧H2 D=some (.lst ((xs.take i).map V.int))) ⟨s1,hD⟩ (λi H2 hp=>SqL.of (hp.1 _ _ ha)) (λi v H2 hv hp=>?_) (λH2 hp=>?_)
·obtain⟨sm,hd⟩:=hp;rw[kW]at hv;obtain⟨c,hc,rfl⟩:=mF.mp hv;refine⟨_,rfl,.int c,rfl,.int c,_,rfl,iteT ?_⟩;refine⟨_,rfl,_,hd,by rw[hV,mR];lia,λb o e=>?_,?_⟩
 ·rw[qE (qF e nD)];exact sm _ _ e
 rw[qG];obtain⟨hi,rfl⟩:=hU.mp hc;rw[←mB hi,kX];rfl
obtain⟨sm,hd⟩:=hp
rw[hV,mZ]at hd
refine⟨D,_,rfl,.inl (SqL.of hd),_,rfl,a,_,rfl,.inl (SqL.of (sm _ _ ha)),rfl,?_⟩
rw[hI rfl]
exact k H2 sm)
structure Mi where
mi:Addr
ra:Addr
fa:Addr
la:Addr
noncomputable def dM(y:Mi)(wi de:Nat):List (Key×V):=[((Sum.inr "rows":Key),.ref y.ra),((Sum.inr "firsts":Key),.ref y.fa),((Sum.inr "last":Key),.ref y.la),((Sum.inr "wide":Key),.int (wi:Int)),((Sum.inr "deep":Key),.int (de:Int))]
noncomputable def own(y:Mi)(z:Pz):List Addr:=[y.mi,y.fa,y.ra,z.p,z.fs,z.cs,z.ss]
structure J(t:Adr)(H:Hp)(x:Sto)(so sr:Nat)(m:CM)(q:QM)(n':Nat)(W:Mp)(z:Pz)(y:Mi)(us:List V)(n:Nat)(nm:Nat→Str)(ct sc:Nat→Nat):Prop where
ps:PS t H x so (sr:Int) m q n' W false
pt:PtAt t H z x.s n nm ct sc
m:H y.mi=some (.dK (dM y so sr))
f:H y.fa=some (.dK (dN n nm λi=>.int (fst ct i:Nat)))
l:H y.la=some (.dK (dI W))
ra:H y.ra=some (.lst us)
rw:Rws H us n nm ct sc
ok:TabOk n nm ct sc
n1:1≤n
so:fst ct n≤so
dl:y.la∉own y z
df:∀b∈y.la::own y z,b∉t.aA::([x.s,x.tm]++(x.a.li::sf x))
section
variable{H H' H1:Hp}{x:Sto}{so sr:Nat}{m:CM}{q:QM}{n':Nat}{W:Mp}{z:Pz}{y:Mi}{us:List V}{n:Nat}{nm:Nat→Str}{ct sc:Nat→Nat}
theorem J.same(j:J t H x so sr m q n' W z y us n nm ct sc)(s:Same H H'):J t H' x so sr m q n' W z y us n nm ct sc:={ j with ps:=j.ps.same s,pt:=j.pt.same s,m:=s _ _ j.m,f:=s _ _ j.f,l:=s _ _ j.l,ra:=s _ _ j.ra,rw:=j.rw.same s }
theorem J.up(j:J t H x so sr m q n' W z y us n nm ct sc){m':CM}{q':QM}{n2:Nat}{W':Mp}(ps:PS t H1 x so (sr:Int) m' q' n2 W' false)(k:Keep (t.aA::sf x) H H1)(k2:Keep [y.la] H1 H')(e:H' y.la=some (.dK (dI W'))):J t H' x so sr m' q' n2 W' z y us n nm ct sc:=by(
have hl:H1 y.la=some (.dK (dI W)):=k.k _ _ (λw=>j.df y.la (by simp) (by rcases kL.mp w with w|w<;>simp[w])) j.l
have nl:∀b,b∈t.aA::([x.s,x.tm]++(x.a.li::sf x))→b∉[y.la]:=λb hb w=>j.df y.la (by simp) (kF.mp w▸hb)
have tb:TbF t H':=by
 obtain⟨qs,hT,h⟩:=ps.st.tb;refine⟨qs,k2.k _ _ (nl _ (by simp)) hT,?_⟩;rcases h with h|⟨c,h,hc⟩
 ·exact .inl h
 refine .inr ⟨c,h,k2.k _ _ (λw=>?_) hc⟩;rw[kF.mp w,hl]at hc;cases hc
have kk:∀b∈own y z,∀o,H b=some o→H' b=some o:=λb hb o e=>k2.k _ _ (λw=>j.dl (kF.mp w▸hb)) (k.k _ _ (λw=>j.df b (kD _ hb) (by rcases kL.mp w with w|w<;>simp[w])) e)
exact⟨ps.mv (ps.st.keep k2 (λb hb=>nl b (kD _ hb)) tb) (λb xs e=>k2.tp _ _ e),⟨kk _ (by simp[own]) _ j.pt.o,kk _ (by simp[own]) _ j.pt.f,kk _ (by simp[own]) _ j.pt.c,kk _ (by simp[own]) _ j.pt.s,j.pt.d1,j.pt.d2⟩,kk _ (by simp[own]) _ j.m,kk _ (by simp[own]) _ j.f,e,kk _ (by simp[own]) _ j.ra,j.rw.tp λb xs e=>k2.tp _ _ (k.tp _ _ e),j.ok,j.n1,j.so,j.dl,j.df⟩)
end
noncomputable def notd(W:Mp)(f c:Nat):List Int:=((List.range c).filter λ(s:Nat)=>decide (((f:Int)+(s:Int))∈W.map (·.1))).map λ(s:Nat)=>(s:Int)
theorem q7O{W:Mp}{f c:Nat}:notd W f (c+1)=notd W f c++(if((f:Int)+(c:Int))∈W.map (·.1)then[(c:Int)]else[]):=by(
unfold notd
rw[g8,gR,kX]
by_cases h:((f:Int)+(c:Int))∈W.map (·.1)
·rw[kG h,gF,hI h];rfl
rw[kC h,gF,hG h]
rfl)
theorem q6B{W:Mp}{f c:Nat}:(notd W f c).length≤c:=by unfold notd;rw[hV];exact mE (mT _ _) (by rw[mG];exact kB _)
theorem q9W{q:QM}{W:Mp}{f c:Nat}{ks:List Int}(hk:HeldIs q ks)(pm:(hdN q.V).Perm (W.map (·.1)))(nd:(W.map (·.1)).Nodup):cutP f c ks=notd W f c:=by(
have pk:=hk.pm.trans pm
have nk:ks.Nodup:=pk.nodup_iff.mpr nd
have n2:(notd W f c).Nodup:=dS (R:=λa b=>a≠b) _ (λa b hab e=>hab (by lia)) (nX.filter _)
refine qBD (q3B (q5V nk) n2 λs=>?_) ?_ ?_
·rw[q5U,pk.mem_iff];unfold notd;constructor
 ·rintro⟨a,b,c'⟩
  refine mD.mpr ⟨s.toNat,mO.mpr ⟨k7.mpr (by lia),by simpa[gN b]using a⟩,by lia⟩
 intro hs;obtain⟨k,hk',rfl⟩:=mD.mp hs;obtain⟨a,b⟩:=mO.mp hk';exact⟨m6 b,by lia,by have:=k7.mp a;lia⟩
·exact dS _ (λa b h=>by lia) (hk.so.filter _)
unfold notd
refine dS _ (λa b h=>?_) (pL.filter _)
lia)
noncomputable def spSm(t:Adr):Sp:=λvs H Q _=>∃x so sr m q n' W z y us n nm ct sc ra i,vs=[.ref x.s,.ref z.p,.ref y.mi,.ref ra]∧J t H x so sr m q n' W z y us n nm ct sc∧i<n∧ct i≤60∧H ra=some (.tup [.str (nm i),.int (ct i:Nat),.int (sc i:Nat)])∧∀H',Same H H'→Q (.bl true) H'
theorem q1W(T:Txt K mg t)(S:Fns K t):S.iK.Ok0 P w mg base 7 (spSm t):=by(
refine S.iK.F.ok0 yT λcdv A _ s H vs Q E hr h=>?_
obtain⟨x,so,sr,m,q,n',W,z,y,us,n,nm,ct,sc,ra,i,rfl,j,hi,c60,hra,kk⟩:=h
have hu:=vR hr
have u:=j.ok.u
have sz:(100:Nat)<sizeLine:=by decide
refine⟨_,(qB (q3O (pv 3) (q12 rfl (jN (qR (i:=4) yT.nd rfl (Or.inl rfl)) (jN (qR (i:=5) yT.nd rfl (Or.inl rfl)) (jN (qR (i:=6) yT.nd rfl (Or.inl rfl)) zS))))) (qB (qS (i:=7) yT.nd rfl (Or.inr rfl) (qZ hu (qZ hu (pv 2) qQ (λ_ _=>rfl)) (pv 4) (λ_ _=>rfl))) (qB (q5L (i:=8) ["_law_mine","_law_first","_law_sheet"] [2,7] rfl (uL rfl T.fM (qA (pv 5) qC)) (λ_ _ _ _ _=>(qR (i:=2) (show List.Nodup (["_law_mine","_law_first","_law_sheet"]:List Str)from by decide) rfl (Or.inl rfl))) (λ_ _ _ _ _=>(vY (q7R (q5E hu (qP jQ (pv 1) (pv 2)) (qZ hu (pv 0) qQ (λ_ _=>rfl)))))) (λ_ _ _ _ _=>(pv 2)) (by kernel_rfl) (yC (by decide)) yT.nd rfl (Or.inl rfl)) (qB (jA (jJ (jF (qT (q6A T S).mono hr rfl T.tJ T.tF S.f8.b .nil qL (qA (jG (pv 1) T.aD T.fG (q0A T S).mono hr S.eR.b .nil qL (qA (pv 4) qC)) (qA (pv 8) qC))))) (qD (qO uN)) qM) (qB (jA (PW.pt (q11 (jJ (jF (qT (uX T S).mono hr rfl T.bR T.bS S.b8.b .nil qL (qA (yO yB (pv 1) T.aD T.bT (uY T S).mono hr S.aY.b .nil (qA (pv 4) qC)) qC)))) (zE (qY q2C (yO yB (pv 1) T.aD T.bT (uY T S).mono hr S.aY.b .nil (qA (pv 4) qC)) (pv 6) (qX _))))) (qD (qO uN)) qM) (qB (jA (PW.pt (q11 (jJ (jF (qT (uX T S).mono hr rfl T.bR T.bS S.b8.b .nil qL (qA (yO yB (pv 1) T.aD T.eI (vC T S).mono hr S.bX.b .nil (qA (pv 4) qC)) qC)))) (zE (qY q2C (yO yB (pv 1) T.aD T.eI (vC T S).mono hr S.bX.b .nil (qA (pv 4) qC)) (qU (q71 rfl) (by rfl) T.aBH (by kernel_rfl) (qA qI (qA (qP uC (pv 6) (qU jH (by rfl) T.fO mW (qA (pv 8) qC))) qC))) (qX _))))) (qD (qO uN)) qM) (qB (uQ gE rfl (uL rfl T.fM (qA (pv 5) qC)) (qR (i:=9) yT.nd rfl (Or.inl rfl)) (qB (qS (i:=10) yT.nd rfl (Or.inl rfl) (q97 hu (qZ hu (pv 2) qQ (λ_ _=>rfl)) (qP jQ (pv 7) (pv 9)) ⟨rfl,rfl,rfl,rfl⟩)) (qD (jA (PW.pt (q11 (qY q2C (jG (pv 1) T.aD T.x9 (q6T T S).mono hr S.iP.b .nil qL (qA (pv 4) (qA (pv 9) qC))) (pv 10) (qX _)) (zE (qY q2C (jG (pv 0) T.aB T.iX (q2N T S).mono hr S.fR.b .nil qL (qA (qP jQ (pv 7) (pv 9)) qC)) (pv 10) (qX _))))) (qD (qO uN)) qM)))) (qD (qO uN))))))))),?_⟩
try dsimp-beta-proj-iota-zeta-eta only[wishK,cxK]
refine⟨_,rfl,ra,_,rfl,SqT.of hra,rfl,_,_,rfl,_,_,rfl,_,_,rfl,rfl,?_⟩
have gf:DGet H y.mi (.str "firsts") (some (.ref y.fa)):=DGet.k (k:=Sum.inr "firsts") j.m
have gi:=DGet.k (k:=Sum.inr (nm i)) j.f
rw[q3H u hi]at gi
refine⟨_,rfl,y.mi,_,rfl,gf,_,rfl,y.fa,_,rfl,gi,?_⟩
refine⟨_,rfl,_,rfl,by lia,by lia,λD H1 nD s1 hD=>?_⟩
rw[mL]
refine q3U (D:=D) (λk H3=>Same H H3∧H3 D=some (.lst ((notd W (fst ct i) k).map V.int))) ⟨s1,hD⟩ (λk H3 hk hp=>?_) (λH3 hp=>?_)
·obtain⟨sm,hd⟩:=hp;have j3:=j.same sm;have gl:DGet H3 y.mi (.str "last") (some (.ref y.la)):=DGet.k (k:=Sum.inr "last") j3.m;have gk:=DGet.k (k:=Sum.inl (((fst ct i:Nat):Int)+(k:Int))) j3.l;have ln:=q6B (W:=W) (f:=fst ct i) (c:=k);rw[g4];refine⟨_,rfl,_,rfl,iI ⟨_,rfl,y.mi,_,rfl,gl,y.la,_,rfl,gk,_,rfl,?_⟩⟩;rw[q7O];by_cases c:((fst ct i:Nat):Int)+(k:Int)∈W.map (·.1)
 ·obtain⟨v,hv⟩:=yF.mp c;rw[uT j.ps.nd hv,kG c];refine iteT ?_;refine⟨_,rfl,_,hd,by rw[hV];lia,λb o e=>?_,?_⟩
  ·rw[qE (qF e nD)];exact sm _ _ e
  rw[qG,kX];rfl
 rw[v5 c,kC c,r6];exact iteF ⟨sm,hd⟩
obtain⟨sm,hd⟩:=hp
have j3:=j.same sm
have ln:=q6B (W:=W) (f:=fst ct i) (c:=ct i)
refine(iV rfl (iM j3.pt.o rfl ⟨_,rfl,z,x,so,_,m,q,n',W,false,n,nm,ct,sc,i,rfl,j3.pt,j3.ps,u,hi,λl ks H4 hk s4 n4 h4=>?_⟩))
rw[q9W hk j.ps.pm j.ps.nd]at h4
have j4:=j3.same s4
refine⟨_,rfl,?_⟩
dsimp only[tNil,mM,mV]
refine⟨l,D,notd W (fst ct i) (ct i),rfl,h4,s4 _ _ hd,by lia,λH5 s5=>⟨_,rfl,iteF ?_⟩⟩
have j5:=j4.same s5
have hd5:=s5 _ _ (s4 _ _ hd)
have sho:∀i',i'<n→V.str (nm i)=V.str (nm i')→sc i'=sc i:=λi' hi' e=>by rw[u i i' hi hi' (V.str.inj e)]
refine(iV rfl (iM j5.pt.o rfl ⟨_,rfl,z,x.s,n,nm,ct,sc,.str (nm i),rfl,j5.pt,u,.str _,λi' hi' ei=>?_,λw=>absurd ⟨i,hi,rfl⟩ w⟩))
rw[sho i' hi' ei]
dsimp only[tNil,mM,mV]
refine⟨.int ((sc i:Nat):Int),rfl,.int _,_,rfl,iteF ?_⟩
refine(iV rfl (iM j5.pt.o rfl ⟨_,rfl,z,x.s,n,nm,ct,sc,.str (nm i),rfl,j5.pt,u,.str _,λi' hi' ei=>?_,λw=>absurd ⟨i,hi,rfl⟩ w⟩))
rw[sho i' hi' ei]
refine⟨_,rfl,rfl,_,rfl,?_⟩
rw[show(!decide (V.int ((sc i:Nat):Int)=V.int ((sc i:Nat):Int)))=false by simp]
refine iteF ?_
have cl:(cutP (fst ct i) (ct i) (W.map (·.1))).length=(notd W (fst ct i) (ct i)).length:=by rw[←q9W hk j.ps.pm j.ps.nd];exact((q7K (hk.pm.trans j.ps.pm)).length_eq).symm
have ui:∀i',i'<n→V.str (nm i)=V.str (nm i')→i'=i:=λi' hi' e=>(u i i' hi hi' (V.str.inj e)).symm
refine(iV rfl (iM j5.pt.o rfl ⟨_,rfl,z,x,so,_,m,q,n',W,false,n,nm,ct,sc,.str (nm i),rfl,j5.pt,j5.ps,u,.str _,λi' hi' ei H6 s6=>?_,λw=>absurd ⟨i,hi,rfl⟩ w⟩))
obtain rfl:=ui i' hi' ei
dsimp only[tNil,mM,mV]
refine⟨_,rfl,.int _,_,rfl,iteF ?_⟩
have j6:=j5.same s6
refine(iV rfl (iM j6.pt.o rfl ⟨_,rfl,z,x,so,_,m,q,n',W,false,n,nm,ct,sc,.str (nm i'),rfl,j6.pt,j6.ps,u,.str _,λi2 hi2 ei2 H7 s7=>?_,λw=>absurd ⟨i',hi,rfl⟩ w⟩))
obtain rfl:=ui i2 hi2 ei2
have j7:=j6.same s7
have hd7:=s7 _ _ (s6 _ _ hd5)
refine⟨_,rfl,_,rfl,D,_,rfl,.inl (SqL.of hd7),iI ?_⟩
refine⟨_,_,rfl,?_⟩
refine⟨rfl,_,rfl,?_⟩
rw[hV,cl]
have e2:∀a:Int,(if a>0 then a else 0)=max 0 a:=λa=>by split<;>lia
rw[e2]
rw[show ∀a:Int,(!decide (V.int a=V.int a))=false from λa=>by simp]
refine iteF ?_
refine⟨_,rfl,_,rfl,by lia,by lia,?_⟩
rw[mL]
refine q0K (λk σ' H8=>(∃y9 y10,σ'=[some (.ref x.s),some (.ref z.p),some (.ref y.mi),some (.ref ra),some (.str (nm i2)),some (.int ((ct i2:Nat):Int)),some (.int ((sc i2:Nat):Int)),some (.int ((fst ct i2:Nat):Int)),some (.ref D),y9,y10])∧Same H H8) ⟨⟨_,_,rfl⟩,sm.trans (s4.trans (s5.trans (s6.trans s7)))⟩ (λk σ' H8 D' nxt hk hp=>?_) (λσ' H8 hp=>?_)
·obtain⟨⟨y9,y10,rfl⟩,s8⟩:=hp;have j8:=j.same s8;rw[g4];have gl:DGet H8 y.mi (.str "last") (some (.ref y.la)):=DGet.k (k:=Sum.inr "last") j8.m;have gk:=DGet.k (k:=Sum.inl (((fst ct i2:Nat):Int)+(k:Int))) j8.l;refine⟨_,rfl,y.mi,_,rfl,gl,y.la,rfl,.inl ⟨_,.inl j8.l⟩,_,rfl,_,rfl,iI ⟨_,gk,?_⟩⟩;have sp:=q65 hi (show(k:Int)<((ct i2:Nat):Int) by lia) j.so;by_cases c:((fst ct i2:Nat):Int)+(k:Int)∈W.map (·.1)
 ·obtain⟨v,hv⟩:=yF.mp c;rw[uT j.ps.nd hv];have one:∀v',(((fst ct i2:Nat):Int)+(k:Int),v')∈W→v'=v:=λv' h'=>by have a:=uT j.ps.nd hv;rw[uT j.ps.nd h']at a;exact V.int.inj (kJ a)
  refine(iV rfl (iM j8.pt.o rfl ⟨_,rfl,_,rfl,z,x,so,_,m,q,n',W,n,nm,ct,sc,i2,(k:Int),rfl,j8.pt,j8.ps,u,hi,by lia,by lia,j.so,λw=>absurd c w,λv' hv' H9 s9=>?_⟩));obtain rfl:=one v' hv';refine⟨_,rfl,rfl,_,rfl,?_⟩;rw[show(!decide (V.int v'=(some (V.int v')).getD .non))=false by simp];refine iteF ?_;have j9:=j8.same s9;refine(iV rfl (iM j9.ps.st.o rfl ⟨_,rfl,_,rfl,iI ⟨x,so,_,m,q,n',W,_,rfl,j9.ps,by lia,sp,λw=>absurd c w,λv2 hv2 H10 s10=>?_⟩⟩));obtain rfl:=one v2 hv2;refine⟨_,rfl,rfl,_,rfl,?_⟩;rw[show(!decide (V.int v2=(some (V.int v2)).getD .non))=false by simp];exact iteF (nxt _ _ ⟨⟨_,_,rfl⟩,(s8.trans s9).trans s10⟩)
 rw[v5 c];refine(iV rfl (iM j8.pt.o rfl ⟨_,rfl,_,rfl,z,x,so,_,m,q,n',W,n,nm,ct,sc,i2,(k:Int),rfl,j8.pt,j8.ps,u,hi,by lia,by lia,j.so,λ_ H9 s9=>?_,λv' hv'=>absurd (yF.mpr ⟨v',hv'⟩) c⟩));refine⟨_,rfl,rfl,_,rfl,?_⟩;rw[show(!decide (V.non=(none:Option V).getD .non))=false by simp];refine iteF ?_;have j9:=j8.same s9;refine(iV rfl (iM j9.ps.st.o rfl ⟨_,rfl,_,rfl,iI ⟨x,so,_,m,q,n',W,_,rfl,j9.ps,by lia,sp,λ_ H10 s10=>?_,λv' hv'=>absurd (yF.mpr ⟨v',hv'⟩) c⟩⟩));refine⟨_,rfl,rfl,_,rfl,?_⟩;rw[show(!decide (V.non=(none:Option V).getD .non))=false by simp];exact iteF (nxt _ _ ⟨⟨_,_,rfl⟩,(s8.trans s9).trans s10⟩)
obtain⟨⟨y9,y10,rfl⟩,s8⟩:=hp
exact kk H8 s8)
structure PPw(X:Cx)(pos:Pos)(keys:List (Option Expr))(values:List Expr)(trs:List (TE×TE)):Prop where
h:PPs X pos keys values trs
theorem qE9{X:Cx}{pos:Pos}:PPw X pos [] [] []:=⟨qAZ⟩
theorem q7P{X:Cx}{pos:Pos}{k v:Expr}{ks:List (Option Expr)}{vs:List Expr}{tk tv:TE}{trs:List (TE×TE)}(hk:PEw X k tk)(hv:PEw X v tv)(hr:PPw X pos ks vs trs):PPw X pos (some k::ks) (v::vs) ((tk,tv)::trs):=⟨q0D hk.h hv.h hr.h⟩
theorem qEA{X:Cx}{pos:Pos}{keys:List (Option Expr)}{values:List Expr}{trs:List (TE×TE)}(h:PPw X pos keys values trs)(hall:keys.all (·.isSome)=true)(hl:keys.length=values.length)(h0:keys≠[])(h15:keys.length≤15):PEw X (.Dict keys values pos) (qG0 trs):=⟨qB0 h.h hall hl h0 h15⟩
theorem q8S{X:Cx}{a b:Expr}{ta tb:TE}{pos:Pos}{r:R2}(hr:IxR X r)(ha:PEw X a ta)(hb:PEw X b tb)(hs:qAY b):PEw X (.Subscript a b pos) (tOp r ta tb):=⟨yJ hr ha.h hb.h hs⟩
theorem qCJ{X:Cx}{id:String}{r}{x:Str}{e:Expr}{es:List Expr}{t:TA}{p pos:Pos}(hc:vF X (.builtin id) r)(hg:Gl X x)(hm:X.mg x=none)(hv:bootBuiltins x=some (.builtin id))(ha:PAw X (e::es) t)(hn:x≠"__name__":=by decide)(hdb:(x==("__debug__":Str))=false:=by decide)
 (he:starEach (e::es) X.env=(false,eval e X.env)::starEach es X.env:=by rfl) (hpl:(backTo pos (starEach es X.env)).any (·.1)=false:=by rfl):PEw X (.Call (.Name x p) (e::es) [] pos) (tCB r t):=⟨qU hc hg hm hv ha.h hn hdb he hpl⟩
theorem qEB{X:Cx}{a b c d j1 j2 j3 j4 p1 p2 p3 p4 p5}:PEw X (.List [.Constant (.str a) j1 p1,.Constant (.str b) j2 p2,.Constant (.str c) j3 p3,.Constant (.str d) j4 p4] p5) (qD6 (q49 (tC (.str a)) (q49 (tC (.str b)) (q49 (tC (.str c)) (q49 (tC (.str d)) tNil))))):=⟨yN (qA qQ (qA qQ (qA qQ (qA qQ qC))))⟩
theorem qFR{W:Mp}{f c:Nat}(nd:(W.map (·.1)).Nodup):(cutP f c (W.map (·.1))).length=(notd W f c).length:=by(
have n2:(notd W f c).Nodup:=dS (R:=λa b=>a≠b) _ (λa b hab e=>hab (by lia)) (nX.filter _)
refine(q3B (q5V nd) n2 λs=>?_).length_eq
rw[q5U]
unfold notd
constructor
·rintro⟨a,b,c'⟩
 refine mD.mpr ⟨s.toNat,mO.mpr ⟨k7.mpr (by lia),by simpa[gN b]using a⟩,by lia⟩
intro hs
obtain⟨k,hk',rfl⟩:=mD.mp hs
obtain⟨a,b⟩:=mO.mp hk'
exact⟨m6 b,by lia,by have:=k7.mp a;lia⟩)
theorem qG9{W:Mp}{s:Int}(nd:(W.map (·.1)).Nodup):(valV (dI W) (Sum.inl s:Key)).isSome=decide (s∈W.map (·.1)):=by(
by_cases c:s∈W.map (·.1)
·obtain⟨v,hv⟩:=yF.mp c;rw[uT nd hv,hI c];rfl
rw[v5 c,hG c]
rfl)
theorem qIB{p:Prop}[Decidable p]{a b:Int}:((!decide p&&decide (a≤b))=true)↔¬(p∨b<a):=by by_cases h:p<;>simp[h]
theorem StAt.some'{H:Hp}{x:Sto}{r2 r3 r4 r5:V}{m:CM}{q:QM}(st:StAt t H x r2 r3 r4 r5 m q):∀b∈t.aA::([x.s,x.tm]++(x.a.li::sf x)),∃o,H b=some o:=λb hb=>by(
have hb:b=t.aA∨b=x.s∨b=x.tm∨b=x.a.li∨b∈foot x.c x.a∨b=x.k.bk∨b=x.k.wv∨b=x.k.lv∨b=x.k.fi∨b=x.k.bo:=by simpa[sf,bf,or_assoc]using hb
rcases hb with rfl|rfl|rfl|rfl|hb|rfl|rfl|rfl|rfl|rfl
·obtain⟨ps,hT,_⟩:=st.tb;exact⟨_,hT⟩
·exact⟨_,st.o⟩
·exact⟨_,st.te⟩
·exact⟨_,st.ch.li⟩
·obtain⟨o,e,_⟩:=st.ch.has (kD _ hb);exact⟨o,e⟩
·exact⟨_,st.bk.o⟩
·exact⟨_,st.bk.w⟩
·exact⟨_,st.bk.l⟩
·exact⟨_,st.bk.f⟩
exact⟨_,st.bk.b⟩)
noncomputable def spSt(t:Adr):Sp:=λvs H Q _=>∃x so sr m q n' W z y us n nm ct sc,∃num:Int,vs=[.ref x.s,.ref z.p,.ref y.mi,.int num]∧J t H x so sr m q n' W z y us n nm ct sc∧(∀i,ct i≤60)∧0≤num∧num<2147483647∧n'<q.B*q.P∧n'<1000∧1≤so∧∀m' q' n2 W' H',J t H' x so sr m' q' n2 W' z y us n nm ct sc→n2≤n'+1→q'.B=q.B→q'.P=q.P→Keep (t.aA::y.la::sf x) H H'→Q (.bl true) H'
theorem q9X(T:Txt K mg t)(S:Fns K t)(B:BmIn base mg):S.xL.Ok0 P w mg base 15 (spSt t):=by(
refine S.xL.F.ok0 jM λcdv A _ s H vs Q E hr h=>?_
obtain⟨x,so,sr,m,q,n',W,z,y,us,n,nm,ct,sc,num,rfl,j,c60,u0,u1,nb,n9,so1,kk⟩:=h
have hu:=vR hr
have n1:=j.n1
have n4:=j.ok.n4
have u:=j.ok.u
have sz:(100:Nat)<sizeLine:=by decide
refine qG6 ⟨_,(jV ⟨(q3O (yJ jX (qZ hu (pv 2) qQ (λ_ _=>rfl)) (qP yG (pv 3) (qU jH (by rfl) T.fO mW (qA (qZ hu (pv 2) qQ (λ_ _=>rfl)) qC))) (λ_ _=>rfl)) (q12 rfl (jN (qR (i:=4) jM.nd rfl (Or.inl rfl)) (jN (qR (i:=5) jM.nd rfl (Or.inl rfl)) (jN (qR (i:=6) jM.nd rfl (Or.inl rfl)) zS)))))⟩ (jV (vZ (i:=7) jM.nd rfl (Or.inl rfl) (qEA (q7P zA (q8S jX qEB (qCJ (qBP rfl) (by rfl) T.aBK (by kernel_rfl) (qK yE (qK (jT yG (jT u7 (pvW 3) yE) yE) yQ))) (λ_ _=>rfl)) (q7P zA (pvW 4) qE9)) rfl rfl (by simp) (by decide)) rfl) (jV ⟨(vW hu (pv 7) qQ (qP yG (qP u7 (pv 3) qI) (pv 5)) rfl)⟩ (jV ⟨(vW hu (pv 7) qQ (qP yG (qP zW (pv 3) qI) (qP qA1 qI qI)) rfl)⟩ (jV ⟨(qS (i:=8) jM.nd rfl (Or.inr rfl) (qZ hu (qZ hu (pv 2) qQ (λ_ _=>rfl)) (pv 4) (λ_ _=>rfl)))⟩ (jV ⟨(qS (i:=9) jM.nd rfl (Or.inl rfl) (qP jQ (pv 8) (qZ hu (pv 7) qQ (λ_ _=>rfl))))⟩ ⟨(q21 (jA (qY q2C (qZ hu (pv 7) qQ (λ_ _=>rfl)) qQ (qX _)) (qB (qS (i:=9) jM.nd rfl (Or.inl rfl) (qP yG (qP u7 (pv 3) qI) (qZ hu (pv 2) qQ (λ_ _=>rfl)))) (qD (vW hu (pv 7) qQ (pv 9) rfl))) qM) (qB (qS (i:=10) jM.nd rfl (Or.inl rfl) (qCK (q5E hu (pv 9) (qZ hu (pv 2) qQ (λ_ _=>rfl))))) (q21 (qS (i:=11) jM.nd rfl (Or.inl rfl) (uP (q7U (pv 10)) (uZ (yP q8Z (qU qC0 (by rfl) T.fO mW (qA (qZ hu (pv 2) qQ (λ_ _=>rfl)) qC)) (qZ hu (pv 2) qQ (λ_ _=>rfl)) (qX _))))) (qB (qS (i:=12) jM.nd rfl (Or.inl rfl) (qU jH (by rfl) T.fO mW (qA (yV ["_law_mine","_law_first","_law_k"] [2,8] rfl (uL rfl T.fM (qA (pv 5) qC)) (λ_ _ _ _ _=>(qR (i:=2) (show List.Nodup (["_law_mine","_law_first","_law_k"]:List Str)from by decide) rfl (Or.inl rfl))) (λ_ _ _ _ _=>(vY (q7R (q5E hu (qP jQ (pv 1) (pv 2)) (qZ hu (pv 0) qQ (λ_ _=>rfl)))))) (λ_ _ _ _ _=>(pv 2)) (by kernel_rfl) (yC (by decide))) qC))) (q21 (jA (PW.pt (q7T (qY vG (qZ hu (pv 7) qQ (λ_ _=>rfl)) qQ (qX _)) (q7T (jJ (jF (pv 10))) (q7S (qY q8Z (pv 12) (pv 6) (qX _)))))) (qD (qS (i:=11) jM.nd rfl (Or.inl rfl) uN)) qM) (q21 (q3O (qT (q8R T S B).mono hr rfl T.xX T.x8 S.tD.b .nil qL (qA (pv 0) (qA (pv 1) (qA (pv 7) qC)))) (q12 rfl (jN (qR (i:=13) jM.nd rfl (Or.inl rfl)) (jN (qR (i:=14) jM.nd rfl (Or.inl rfl)) zS)))) (qB (jA (qY vG (qZ hu (pv 7) qQ (λ_ _=>rfl)) qQ (qX _)) (qB (jC (qD4 (qZ hu (pv 2) qQ (λ_ _=>rfl)) (pv 9) uO ⟨rfl,rfl,rfl,rfl⟩)) (qD (qO (uP (yP vG (pv 13) qQ (qX _)) (uP (qT (uX T S).mono hr rfl T.bR T.bS S.b8.b .nil qL (qA (pv 14) qC)) (uZ (yP vG (pv 14) (zC q72 (by rfl) T.aA6 (by kernel_rfl) (qA (pv 10) qC)) (qX _)))))))) qM) (qB (jA (jF (pv 11)) (qD (qO (yP vG (pv 13) qQ (qX _)))) qM) (qB (vW hu (qZ hu (pv 2) qQ (λ_ _=>rfl)) (pv 9) (qZ hu (pv 7) qQ (λ_ _=>rfl)) rfl) (qD (qO (uP (yP vG (pv 13) qQ (qX _)) (uP (qT (uX T S).mono hr rfl T.bR T.bS S.b8.b .nil qL (qA (pv 14) qC)) (uZ (yP vG (q97 hu (qJ (qJ (pv 0) rfl) rfl) (pv 9) ⟨rfl,rfl,rfl,rfl⟩) (pv 14) (qX _))))))))))))))))⟩)))))),?_⟩
try dsimp-beta-proj-iota-zeta-eta only[wishK,cxK]
have gr:DGet H y.mi (.str "rows") (some (.ref y.ra)):=DGet.k (k:=Sum.inr "rows") j.m
have lu:=j.rw.1
have hb:=gS num (show(0:Int)<(us.length:Int) by lia)
have ha:=gP num (show(us.length:Int)≠0 by lia)
obtain⟨i,ei⟩:=gJ ha
have hi:i<n:=by lia
have c1:=j.ok.c1 i hi
have c6:=c60 i
obtain⟨ra,era,hra⟩:=j.rw.at hi
refine⟨_,rfl,y.mi,_,rfl,gr,_,rfl,_,rfl,y.mi,_,rfl,gr,y.ra,_,rfl,.inl (SqL.of j.ra),iI ⟨(by show(0:Int)<(us.length:Int);lia),iL (k:=_) (v:=.ref ra) (SqL.of j.ra) (by rw[ei];exact uR era) ?_⟩⟩
refine⟨ra,_,rfl,SqT.of hra,rfl,_,_,rfl,_,_,rfl,_,_,rfl,rfl,?_⟩
obtain⟨w,hw,ww⟩:∃w,atI [V.str "store",V.str "store",V.str "give",V.str "part"] (if num / 64%8<3 then num / 64%8 else 3)=some (.str w)∧(w="part"∨w="give"∨w="store"):=by
 have:num / 64%8=0∨num / 64%8=1∨num / 64%8=2∨3≤num / 64%8:=by lia
 rcases this with e|e|e|e
 ·rw[e];exact⟨_,rfl,.inr (.inr rfl)⟩
 ·rw[e];exact⟨_,rfl,.inr (.inr rfl)⟩
 ·rw[e];exact⟨_,rfl,.inr (.inl rfl)⟩
 rw[kC (by lia)];exact⟨_,rfl,.inl rfl⟩
intro ya nya
have s2:Same H (upd H ya (.dK [])):=Same.upd nya
have e2:(upd H ya (.dK [])) ya=some (.dK []):=qG
generalize upd H ya (.dK [])=H2 at s2 e2 ⊢
refine⟨sz4,λlw H3 nlw s3 h3=>?_⟩
refine⟨_,rfl,iI ⟨⟨by show(0:Int)<64;decide,by decide⟩,iI ⟨(by show(0:Int)<8;decide),_,_,rfl,?_⟩⟩⟩
refine(iL (k:=_) (v:=.str w) (SqL.of h3) hw ?_)
refine⟨_,rfl,s3 _ _ e2,[((Sum.inr "word":Key),.str w),((Sum.inr "name":Key),.str (nm i))],rfl,(by show 2≤15;decide),?_⟩
have pu:∀{Ha:Hp} {kvs:List (Key×V)},Same H Ha→Same H (upd Ha ya (.dK kvs)):=λs b o e=>by rw[qE (qF e nya)];exact s _ _ e
have e4:(upd H3 ya (.dK (q0H [] [((Sum.inr "word":Key),.str w),((Sum.inr "name":Key),.str (nm i))]))) ya=some (.dK [((Sum.inr "word":Key),V.str w),((Sum.inr "name":Key),.str (nm i))]):=qG
have s4:Same H (upd H3 ya (.dK (q0H [] [((Sum.inr "word":Key),.str w),((Sum.inr "name":Key),.str (nm i))]))):=pu (s2.trans s3)
generalize upd H3 ya (.dK (q0H [] [((Sum.inr "word":Key),.str w),((Sum.inr "name":Key),.str (nm i))]))=H4 at e4 s4 ⊢
have ci:(0:Int)<((ct i:Nat):Int):=by lia
refine⟨_,rfl,iI ⟨⟨by show(0:Int)<8;decide,by decide⟩,_,rfl,iI ⟨ci,_,rfl,ya,_,rfl,DPut.k (k:=Sum.inr "sheet") e4 (by show 2<sizeLine;decide),?_⟩⟩⟩
have sh0:=gP (num / 8) (show((ct i:Nat):Int)≠0 by lia)
have sh1:=gS (num / 8) ci
dsimp only
generalize num / 8%((ct i:Nat):Int)=sh at sh0 sh1 ⊢
have e5:(upd H4 ya (.dK (putK [((Sum.inr "word":Key),V.str w),((Sum.inr "name":Key),.str (nm i))] (Sum.inr "sheet":Key) (.int sh)))) ya=some (.dK [((Sum.inr "word":Key),V.str w),((Sum.inr "name":Key),.str (nm i)),((Sum.inr "sheet":Key),.int sh)]):=qG
have s5:Same H (upd H4 ya (.dK (putK [((Sum.inr "word":Key),V.str w),((Sum.inr "name":Key),.str (nm i))] (Sum.inr "sheet":Key) (.int sh)))):=pu s4
generalize upd H4 ya (.dK (putK [((Sum.inr "word":Key),V.str w),((Sum.inr "name":Key),.str (nm i))] (Sum.inr "sheet":Key) (.int sh)))=H5 at e5 s5 ⊢
refine⟨_,rfl,iI ⟨.inr ⟨by decide,by decide⟩,iI ⟨⟨by decide,by decide,by decide⟩,iI ⟨(by show(0:Int)<10 ^ Int.toNat 30;decide),_,rfl,ya,_,rfl,DPut.k (k:=Sum.inr "value") e5 (by show 3<sizeLine;decide),?_⟩⟩⟩⟩
have v0:=gP (num*982451653) (show(10:Int) ^ Int.toNat 30≠0 by decide)
have v1:=gS (num*982451653) (show(0:Int)<10 ^ Int.toNat 30 by decide)
dsimp only
generalize num*982451653%10 ^ Int.toNat 30=v at v0 v1 ⊢
have v1:v<10 ^ 30:=v1
have e6:(upd H5 ya (.dK (putK [((Sum.inr "word":Key),V.str w),((Sum.inr "name":Key),.str (nm i)),((Sum.inr "sheet":Key),.int sh)] (Sum.inr "value":Key) (.int v)))) ya=some (.dK (dA w (nm i) sh v)):=qG
have s6:Same H (upd H5 ya (.dK (putK [((Sum.inr "word":Key),V.str w),((Sum.inr "name":Key),.str (nm i)),((Sum.inr "sheet":Key),.int sh)] (Sum.inr "value":Key) (.int v)))):=pu s5
generalize upd H5 ya (.dK (putK [((Sum.inr "word":Key),V.str w),((Sum.inr "name":Key),.str (nm i)),((Sum.inr "sheet":Key),.int sh)] (Sum.inr "value":Key) (.int v)))=H6 at e6 s6 ⊢
clear e2 s2 h3 s3 e4 s4 e5 s5 nlw hw
have j6:=j.same s6
have gf:DGet H6 y.mi (.str "firsts") (some (.ref y.fa)):=DGet.k (k:=Sum.inr "firsts") j6.m
have gi:=DGet.k (k:=Sum.inr (nm i)) j6.f
rw[q3H u hi]at gi
refine⟨_,rfl,y.mi,_,rfl,gf,_,rfl,y.fa,_,rfl,gi,?_⟩
have gs:DGet H6 ya (.str "sheet") (some (.int sh)):=DGet.k (k:=Sum.inr "sheet") e6
refine⟨_,rfl,_,rfl,ya,_,rfl,gs,_,_,rfl,rfl,?_⟩
refine⟨λσ' H'=>∃sp sh',σ'=[some (.ref x.s),some (.ref z.p),some (.ref y.mi),some (.int num),some (.str (nm i)),some (.int ((ct i:Nat):Int)),some (.int ((sc i:Nat):Int)),some (.ref ya),some (.int ((fst ct i:Nat):Int)),some (.int sp),none,none,none,none,none]∧H' ya=some (.dK (dA w (nm i) sh' v))∧Same H H'∧((w="part"∧0≤sh'∧sh'<((ct i:Nat):Int)∧sp=((fst ct i:Nat):Int)+sh')∨(w≠"part"∧sp=sh'∧0≤sp∧sp<(so:Int))),?_,?_⟩
·have gw:DGet H6 ya (.str "word") (some (.str w)):=DGet.k (k:=Sum.inr "word") e6;refine⟨_,rfl,ya,_,rfl,gw,rfl,_,rfl,?_⟩;by_cases c:w="part"
 ·rw[show(!decide (V.str w=V.str "part"))=false by simp[c]];exact iteF ⟨_,sh,rfl,e6,s6,.inl ⟨c,sh0,sh1,rfl⟩⟩
 rw[show(!decide (V.str w=V.str "part"))=true by simpa using c];refine iteT ?_;have gd:DGet H6 y.mi (.str "wide") (some (.int (so:Int))):=DGet.k (k:=Sum.inr "wide") j6.m;have so0:(0:Int)<(so:Int):=by lia
 refine⟨_,rfl,iI ⟨⟨by show(0:Int)<512;decide,by decide⟩,_,rfl,y.mi,_,rfl,gd,_,_,rfl,rfl,so0,?_⟩⟩;refine⟨_,rfl,_,rfl,ya,_,rfl,DPut.k (k:=Sum.inr "sheet") e6 (by show 4<sizeLine;decide),?_⟩;exact⟨_,_,rfl,qG,pu s6,.inr ⟨c,rfl,gP _ (by lia),gS _ so0⟩⟩
rintro σ' H7 ⟨sp,sh',rfl,e7,s7,hsp⟩
clear e6 s6 j6 gf gi gs sh0 sh1 sh
have j7:=j.same s7
have gl:DGet H7 y.mi (.str "last") (some (.ref y.la)):=DGet.k (k:=Sum.inr "last") j7.m
have gk:=DGet.k (k:=Sum.inl sp) j7.l
refine⟨_,rfl,_,rfl,y.mi,_,rfl,gl,y.la,_,rfl,gk,?_⟩
rw[qG9 j.ps.nd]
have gd:DGet H7 y.mi (.str "deep") (some (.int (sr:Int))):=DGet.k (k:=Sum.inr "deep") j7.m
refine⟨λσ' H'=>σ'=[some (.ref x.s),some (.ref z.p),some (.ref y.mi),some (.int num),some (.str (nm i)),some (.int ((ct i:Nat):Int)),some (.int ((sc i:Nat):Int)),some (.ref ya),some (.int ((fst ct i:Nat):Int)),some (.int sp),some (.bl (decide (sp∈W.map (·.1)))),some (.bl (!decide (sp∈W.map (·.1))&&decide ((sr:Int)≤((W.length:Nat):Int)))),none,none,none]∧H'=H7,?_,?_⟩
·refine⟨_,rfl,_,rfl,_,rfl,?_⟩;by_cases c:sp∈W.map (·.1)
 ·rw[hI c];exact iteF ⟨rfl,rfl⟩
 rw[hG c];refine iteT ⟨_,rfl,y.mi,_,rfl,gl,y.la,_,rfl,j7.l,_,rfl,y.mi,_,rfl,gd,_,_,rfl,rfl,?_⟩;rw[q62];exact⟨rfl,rfl⟩
rintro σ' H8 ⟨rfl,e8⟩
rw[e8]
clear e8 gd gk gl
refine⟨_,rfl,_,rfl,by lia,by lia,λD H8 nD s8 hD=>?_⟩
rw[mL]
refine q3U (D:=D) (λk H9=>Same H7 H9∧H9 D=some (.lst ((notd W (fst ct i) k).map V.int))) ⟨s8,hD⟩ (λk H9 hk hp=>?_) (λH9 hp=>?_)
·obtain⟨sm,hd⟩:=hp;have j3:=j7.same sm;have gl:DGet H9 y.mi (.str "last") (some (.ref y.la)):=DGet.k (k:=Sum.inr "last") j3.m;have gk:=DGet.k (k:=Sum.inl (((fst ct i:Nat):Int)+(k:Int))) j3.l;have ln:=q6B (W:=W) (f:=fst ct i) (c:=k);rw[g4];refine⟨_,rfl,_,rfl,iI ⟨_,rfl,y.mi,_,rfl,gl,y.la,_,rfl,gk,_,rfl,?_⟩⟩;rw[q7O,qG9 j.ps.nd];by_cases c:((fst ct i:Nat):Int)+(k:Int)∈W.map (·.1)
 ·rw[hI c,kG c];refine iteT ?_;refine⟨_,rfl,_,hd,by rw[hV];lia,λb o e=>?_,?_⟩
  ·rw[qE (qF e nD)];exact sm _ _ e
  rw[qG,kX];rfl
 rw[hG c,kC c,r6];exact iteF ⟨sm,hd⟩
obtain⟨sm,hd⟩:=hp
refine⟨D,_,rfl,.inl (SqL.of hd),?_⟩
rw[hV]
have s9:=s7.trans sm
have e9:=sm _ _ e7
have cl:=qFR (f:=fst ct i) (c:=ct i) j.ps.nd
clear hd sm nD s8 hD e7 s7 j7
have gw:DGet H9 ya (.str "word") (some (.str w)):=DGet.k (k:=Sum.inr "word") e9
refine⟨λσ' H'=>∃fu,σ'=[some (.ref x.s),some (.ref z.p),some (.ref y.mi),some (.int num),some (.str (nm i)),some (.int ((ct i:Nat):Int)),some (.int ((sc i:Nat):Int)),some (.ref ya),some (.int ((fst ct i:Nat):Int)),some (.int sp),some (.bl (decide (sp∈W.map (·.1)))),some (.bl fu),some (.int (((notd W (fst ct i) (ct i)).length:Nat):Int)),none,none]∧H'=H9∧(w="part"→(fu=true↔¬((sp∈W.map (·.1)∨(cutP (fst ct i) (ct i) (W.map (·.1))).length<sc i)∧(sp∈W.map (·.1)∨((W.length:Nat):Int)<sr))))∧(w="store"→(fu=true↔¬(sp∈W.map (·.1)∨((W.length:Nat):Int)<sr))),?_,?_⟩
·refine⟨_,rfl,ya,_,rfl,gw,rfl,_,rfl,?_⟩;by_cases c:w="part"
 ·rw[show decide (V.str w=V.str "part")=true by simp[c]];refine iteT ⟨_,rfl,_,rfl,?_⟩;by_cases c2:sp∈W.map (·.1)
  ·rw[hI c2];exact iteF ⟨_,rfl,rfl,λ_=>⟨λh=>(by cases h),λh=>absurd ⟨.inl c2,.inl c2⟩ h⟩,λh=>absurd (c.symm.trans h) (by decide)⟩
  rw[hG c2];refine iteT ⟨_,rfl,_,rfl,iI ⟨_,rfl,?_⟩⟩;by_cases c3:((sc i:Nat):Int)≤(((notd W (fst ct i) (ct i)).length:Nat):Int)
  ·rw[hI c3];refine iteT ⟨true,rfl,rfl,λ_=>⟨λ_ h=>?_,λ_=>rfl⟩,λh=>absurd (c.symm.trans h) (by decide)⟩;rcases h.1 with h|h
   ·exact c2 h
   lia
  rw[hG c3];refine iteF ⟨_,rfl,rfl,λ_=>⟨λh1 h=>?_,λh=>?_⟩,λh=>absurd (c.symm.trans h) (by decide)⟩
  ·have h1:(sr:Int)≤((W.length:Nat):Int):=by simpa using h1
   rcases h.2 with h|h
   ·exact c2 h
   lia
  refine rR λh1=>h ⟨.inr (by lia),.inr ?_⟩;have h1:¬(sr:Int)≤((W.length:Nat):Int):=by simpa using h1
  lia
 rw[show decide (V.str w=V.str "part")=false by simpa using c];exact iteF (iteF ⟨_,rfl,rfl,λh=>absurd h c,λ_=>qIB⟩)
rintro σ' H10 ⟨fu,rfl,e10,f1,f2⟩
rw[e10]
clear e10 gw
have j9:=j.same s9
have nyF:ya∉t.aA::sf x:=λhb=>by obtain⟨o,e⟩:=j.ps.st.some' ya (by rcases kL.mp hb with h|h<;>simp[h]);rw[nya]at e;cases e
refine⟨λσ' H'=>∃oc fv,σ'=[some (.ref x.s),some (.ref z.p),some (.ref y.mi),some (.int num),some (.str (nm i)),some (.int ((ct i:Nat):Int)),some (.int ((sc i:Nat):Int)),some (.ref ya),some (.int ((fst ct i:Nat):Int)),some (.int sp),some (.bl (decide (sp∈W.map (·.1)))),some (.bl fu),some (.int (((notd W (fst ct i) (ct i)).length:Nat):Int)),some (.str oc),some fv]∧H' ya=some (.dK (dA w (nm i) sh' v))∧((w="give"∧oc="done"∧((sp∉W.map (·.1)∧fv=.int 0∧Same H H')∨(sp∈W.map (·.1)∧fv=.int 1∧∃m' q',PS t H' x so (sr:Int) m' q' (n'+1) (jU W sp) false∧q'.B=q.B∧q'.P=q.P∧Keep (t.aA::sf x) H H')))∨(w≠"give"∧((fu=true∧oc="full"∧Same H H')∨(fu=false∧oc="done"∧fv=.int (n':Int)∧∃m' q',PS t H' x so (sr:Int) m' q' (n'+1) (putW W sp v) false∧q'.B=q.B∧q'.P=q.P∧(sp,(n':Int))∈q'.V∧Keep (t.aA::sf x) H H')))),?_,?_⟩
·refine⟨_,rfl,_,rfl,_,rfl,?_⟩;dsimp only[tNil,mM,mV];refine⟨x,so,sr,m,q,n',W,z,n,nm,ct,sc,i,ya,w,sh',v,rfl,e9,j9.pt,j9.ps,u,hi,j.so,v0,v1,nb,n9,?_⟩;have fT:∀{p:Prop},(fu=true↔¬p)→p→fu=false:=λh hp=>by
  cases fu with
  |false=>rfl
  |true=>exact absurd hp (h.mp rfl)
 rcases ww with rfl|rfl|rfl
 ·rcases hsp with⟨_,a,b,rfl⟩|⟨c,_⟩
  ·refine .inl ⟨rfl,a,b,λc m' q' H' ps eB eP hv k u2 H2 s2 e2=>?_,λc u2 H2 s2 e2=>?_⟩
   ·exact⟨u2,_,rfl,SqT.of e2,rfl,_,_,rfl,_,_,rfl,rfl,_,_,rfl,s2 _ _ (k.k _ _ nyF e9),.inr ⟨by decide,.inr ⟨fT (f1 rfl) c,rfl,rfl,m',q',ps.same s2,eB,eP,hv,((Keep.same s9).trans k).trans (Keep.same s2)⟩⟩⟩
   exact⟨u2,_,rfl,SqT.of e2,rfl,_,_,rfl,_,_,rfl,rfl,_,_,rfl,s2 _ _ e9,.inr ⟨by decide,.inl ⟨(f1 rfl).mpr c,rfl,s9.trans s2⟩⟩⟩
  exact absurd rfl c
 ·rcases hsp with⟨c,_⟩|⟨_,rfl,a,b⟩
  ·exact absurd c (by decide)
  refine .inr (.inl ⟨rfl,a,b,λc u2 H2 s2 e2=>?_,λc m' q' H' ps eB eP k u2 H2 s2 e2=>?_⟩)
  ·exact⟨u2,_,rfl,SqT.of e2,rfl,_,_,rfl,_,_,rfl,rfl,_,_,rfl,s2 _ _ e9,.inl ⟨rfl,rfl,.inl ⟨c,rfl,s9.trans s2⟩⟩⟩
  exact⟨u2,_,rfl,SqT.of e2,rfl,_,_,rfl,_,_,rfl,rfl,_,_,rfl,s2 _ _ (k.k _ _ nyF e9),.inl ⟨rfl,rfl,.inr ⟨c,rfl,m',q',ps.same s2,eB,eP,((Keep.same s9).trans k).trans (Keep.same s2)⟩⟩⟩
 rcases hsp with⟨c,_⟩|⟨_,rfl,a,b⟩
 ·exact absurd c (by decide)
 refine .inr (.inr ⟨rfl,a,b,λc m' q' H' ps eB eP hv k u2 H2 s2 e2=>?_,λc u2 H2 s2 e2=>?_⟩)
 ·exact⟨u2,_,rfl,SqT.of e2,rfl,_,_,rfl,_,_,rfl,rfl,_,_,rfl,s2 _ _ (k.k _ _ nyF e9),.inr ⟨by decide,.inr ⟨fT (f2 rfl) c,rfl,rfl,m',q',ps.same s2,eB,eP,hv,((Keep.same s9).trans k).trans (Keep.same s2)⟩⟩⟩
 exact⟨u2,_,rfl,SqT.of e2,rfl,_,_,rfl,_,_,rfl,rfl,_,_,rfl,s2 _ _ e9,.inr ⟨by decide,.inl ⟨(f2 rfl).mpr c,rfl,s9.trans s2⟩⟩⟩
rintro σ' H11 ⟨oc,fv,rfl,e11,hres⟩
clear f1 f2 ww hsp s9 e9 j9 cl
have gw:DGet H11 ya (.str "word") (some (.str w)):=DGet.k (k:=Sum.inr "word") e11
refine⟨_,rfl,ya,_,rfl,gw,rfl,_,rfl,?_⟩
rcases hres with⟨rfl,rfl,hg⟩|⟨c,hg⟩
·rw[hI rfl];refine iteT ?_;rcases hg with⟨c,rfl,s11⟩|⟨c,rfl,m',q',ps,eB,eP,k⟩
 ·have j11:=j.same s11;have gl:DGet H11 y.mi (.str "last") (some (.ref y.la)):=DGet.k (k:=Sum.inr "last") j11.m;refine⟨_,rfl,y.mi,_,rfl,gl,y.la,rfl,.inl ⟨_,.inl j11.l⟩,_,rfl,_,Sum.inl sp,j11.l,rfl,λv' h'=>(by rw[v5 c]at h';cases h'),λ_=>?_⟩;refine⟨_,rfl,rfl,_,rfl,?_⟩;rw[hI rfl];refine iteT ⟨_,rfl,.int 0,rfl,.int 0,_,rfl,iteT ⟨_,rfl,_,rfl,.inr ⟨_,rfl,rfl,?_⟩⟩⟩;rw[hG c];exact kk m q n' W H11 j11 (by lia) rfl rfl (Keep.same s11)
 have nl:y.la∉t.aA::sf x:=λw=>j.df y.la (by simp) (by rcases kL.mp w with w|w<;>simp[w]);have nm':y.mi∉t.aA::sf x:=λw=>j.df y.mi (by simp[own]) (by rcases kL.mp w with w|w<;>simp[w]);have l11:=k.k _ _ nl j.l;have gl:DGet H11 y.mi (.str "last") (some (.ref y.la)):=DGet.k (k:=Sum.inr "last") (k.k _ _ nm' j.m);obtain⟨v2,hv2⟩:=yF.mp c;refine⟨_,rfl,y.mi,_,rfl,gl,y.la,rfl,.inl ⟨_,.inl l11⟩,_,rfl,_,Sum.inl sp,l11,rfl,λv' h'=>?_,λh'=>(by rw[uT j.ps.nd hv2]at h';cases h')⟩;rw[q9L];have k2:Keep [y.la] H11 (upd H11 y.la (.dK (dI (jU W sp)))):=Keep.upd l11 (λ_ y=>by cases y) (by simp);have j12:=j.up ps k k2 qG;generalize upd H11 y.la (.dK (dI (jU W sp)))=H12 at k2 j12 ⊢;refine⟨_,rfl,rfl,_,rfl,?_⟩;rw[hI rfl];refine iteT ⟨_,rfl,.int 1,rfl,.int 1,_,rfl,iteT ⟨_,rfl,_,rfl,.inr ⟨_,rfl,rfl,?_⟩⟩⟩;rw[hI c];exact kk m' q' _ _ H12 j12 (by lia) eB eP ((k.mono (λb hb=>by rcases kL.mp hb with h|h<;>simp[h])).trans (k2.mono (λb hb=>by rw[kF.mp hb];simp)))
rw[show decide (V.str w=V.str "give")=false by simpa using c]
refine iteF ?_
rcases hg with⟨rfl,rfl,s11⟩|⟨rfl,rfl,rfl,m',q',ps,eB,eP,hv,k⟩
·refine⟨_,rfl,_,rfl,iteT ⟨_,rfl,rfl,?_⟩⟩;rw[hI rfl];exact kk m q n' W H11 (j.same s11) (by lia) rfl rfl (Keep.same s11)
refine⟨_,rfl,_,rfl,iteF ?_⟩
have nl:y.la∉t.aA::sf x:=λw=>j.df y.la (by simp) (by rcases kL.mp w with w|w<;>simp[w])
have nm':y.mi∉t.aA::sf x:=λw=>j.df y.mi (by simp[own]) (by rcases kL.mp w with w|w<;>simp[w])
have l11:=k.k _ _ nl j.l
have gl:DGet H11 y.mi (.str "last") (some (.ref y.la)):=DGet.k (k:=Sum.inr "last") (k.k _ _ nm' j.m)
have gv:DGet H11 ya (.str "value") (some (.int v)):=DGet.k (k:=Sum.inr "value") e11
have h64:=j.ps.h64
rw[j.ps.pm.length_eq,hV]at h64
refine⟨_,rfl,ya,_,rfl,gv,_,rfl,y.mi,_,rfl,gl,_,rfl,y.la,_,rfl,DPut.k (k:=Sum.inl sp) l11 (by rw[q62];lia),?_⟩
rw[qBC]
have k2:Keep [y.la] H11 (upd H11 y.la (.dK (dI (putW W sp v)))):=Keep.upd l11 (λ_ y=>by cases y) (by simp)
have j12:=j.up ps k k2 qG
generalize upd H11 y.la (.dK (dI (putW W sp v)))=H12 at k2 j12 ⊢
refine⟨_,rfl,rfl,_,rfl,?_⟩
rw[hI rfl]
have gk:=DGet.k (k:=Sum.inl sp) j12.ps.st.bk.w
rw[uT j12.ps.ft.oq.nd hv]at gk
refine iteT ⟨_,rfl,.int n',rfl,.int n',_,rfl,iteT (iV rfl (iF j12.ps.st.o T.aB T.aJ rfl (iF j12.ps.st.bk.o T.aF T.aR rfl ⟨x.k.wv,rfl,.inl ⟨_,.inl j12.ps.st.bk.w⟩,_,rfl,_,gk,_,rfl,rfl,?_⟩)))⟩
rw[show decide (((some (V.int (n':Int))).getD .non)=V.int (n':Int))=true by simp]
exact kk m' q' _ _ H12 j12 (by lia) eB eP ((k.mono (λb hb=>by rcases kL.mp hb with h|h<;>simp[h])).trans (k2.mono (λb hb=>by rw[kF.mp hb];simp))))
theorem q9Y{X:Cx}{st:Stmt}{t:TS}(h:PSw X st t):PBw X [st] t:=⟨qD h.h⟩
theorem qEC{X:Cx}{st:Stmt}{rest:List Stmt}{t u:TS}(h1:PSw X st t)(h2:PBw X rest u):PBw X (st::rest) (tMid t u):=⟨q21 h1.h h2.h⟩
theorem qBK{X:Cx}{e:Expr}{te:TE}{pos:Pos}(h:PEw X e te):PSw X (.Return (some e) pos) (tRet te):=⟨qO h.h⟩
theorem qIC{X:Cx}{c:Expr}{a b:List Stmt}{tc:TT}{t u:TS}{pos:Pos}(hc:PT X c tc)(ha:PBw X a t)(hb:PBw X b u):PSw X (.If c a b pos) (tIfS tc t u):=⟨jA hc ha.h hb.h⟩
noncomputable def rSlS:V→Option Int→Option Int→Hp→VK→Prop:=λx lo hi H Q=>∃z,x=.str z∧z.length≤sizeLine∧Q (.str (Txt.slice z lo hi)) H
theorem qID{X:Cx}:SlR X rSlS:=by(
intro pins s σ H x v vl vu lo hi sl Q I rx hs pl pu h
obtain⟨z,rfl,hz,q⟩:=h
obtain⟨t,rfl⟩:=rx
have fin:∀l u:Option (Int×Tok),vl=partValue l→vu=partValue u→l.map (·.1)=lo→u.map (·.1)=hi→∃T id,typeLookup (.type T) "__getitem__"=pure (some (.builtin id))∧s.TypeIs (.str z t) T∧wpAny (model X.prog X.w) X.A (getItem (.str z t) (.ref sl)) (EP X pins σ Q) X.xe s:=by intro l u el eu e1 e2;subst el eu;refine⟨"str",_,F.slot_str_getitem.lookup,lK _ _ _,wpAny_getItem_str_slice (l:=l) (u:=u) (st:=none) hs rfl ?_⟩;have e:sliceMade z t l u none=sliceMade z t l u none:=rfl;refine post_val_or_str ⟨mE (Txt.slice_le z _ _) hz,λt' k=>?_⟩;subst e1 e2;exact⟨.str _,H,I.tok _,⟨_,rfl⟩,q⟩
cases pl with
|none=>
 cases pu with
 |none=>exact fin none none rfl rfl rfl rfl
 |int j tj=>exact fin none (some (j,tj)) rfl rfl rfl rfl
|int i ti=>
 cases pu with
 |none=>exact fin (some (i,ti)) none rfl rfl rfl rfl
 |int j tj=>exact fin (some (i,ti)) (some (j,tj)) rfl rfl rfl rfl)
theorem RowX.same{H H':Hp}(s:Same H H'){v:V}(h:RowX H v):RowX H' v∧(zQ H' v↔zQ H v):=by(
obtain⟨a,xs,e,hx,l3,fl⟩:=h
subst e
refine⟨⟨a,xs,rfl,hx.imp (s _ _) (s _ _),l3,fl⟩,λ⟨x,c,s',⟨b,eb,hb⟩,r⟩=>⟨x,c,s',⟨b,eb,?_⟩,r⟩,λ⟨x,c,s',r,r'⟩=>⟨x,c,s',r.tp λb xs e=>s _ _ e,r'⟩⟩
cases eb
rcases hx with h|h
·rw[s _ _ h]at hb;cases hb;exact h
rw[s _ _ h]at hb
cases hb)
structure Bad(H:Hp)(us:List V)(so sr:Int):Prop where
l8:us.length≤8
rx:∀v∈us,RowX H v
no:(∃v∈us,¬zQ H v)∨∃n nm ct sc,Rws H us n nm ct sc∧(∀i,i<n→isNm (.str (nm i))=true∧1≤ct i∧1≤sc i)∧¬(Unl n nm∧((fst ct n:Nat):Int)≤so∧((fst sc n:Nat):Int)≤sr)
theorem Bad.same{H H':Hp}{us:List V}{so sr:Int}(h:Bad H us so sr)(s:Same H H'):Bad H' us so sr:=by(
refine⟨h.l8,λv hv=>((h.rx v hv).same s).1,?_⟩
rcases h.no with⟨v,hv,no⟩|⟨n,nm,ct,sc,rw',ok,no⟩
·exact .inl ⟨v,hv,λw=>no (((h.rx v hv).same s).2.mp w)⟩
exact .inr ⟨n,nm,ct,sc,rw'.same s,ok,no⟩)
theorem zD{f g:Nat→Nat}:∀{n:Nat},(∀i,i<n→f i=g i)→fst f n=fst g n
|0,_=>rfl
|n+1,h=>by show fst f n+f n=fst g n+g n;rw[zD λi hi=>h i (by lia),h n (by lia)]
theorem Rws.one{H:Hp}{us:List V}{n n2:Nat}{nm nm2:Nat→Str}{ct sc ct2 sc2:Nat→Nat}(a:Rws H us n nm ct sc)(b:Rws H us n2 nm2 ct2 sc2):n=n2∧∀i,i<n→nm i=nm2 i∧ct i=ct2 i∧sc i=sc2 i:=by(
have e:n=n2:=a.1.symm.trans b.1
refine⟨e,λi hi=>?_⟩
obtain⟨p,ep,hp⟩:=a.at hi
obtain⟨p2,ep2,hp2⟩:=b.at (e▸hi)
rw[ep]at ep2
cases ep2
rw[hp]at hp2
have e1:=HO.tup.inj (kJ hp2)
have e2:=dG e1
have e3:=dG e2.2
have e4:=dG e3.2
exact⟨V.str.inj e2.1,by have:=V.int.inj e3.1;lia,by have:=V.int.inj e4.1;lia⟩)
theorem Bad.not{H:Hp}{us:List V}{so sr:Int}(h:Bad H us so sr){n:Nat}{nm:Nat→Str}{ct sc:Nat→Nat}(rw':Rws H us n nm ct sc)(ok:∀i,i<n→isNm (.str (nm i))=true∧1≤ct i∧1≤sc i):¬(Unl n nm∧((fst ct n:Nat):Int)≤so∧((fst sc n:Nat):Int)≤sr):=by(
rintro⟨u,c1,c2⟩
rcases h.no with⟨v,hv,no⟩|⟨n2,nm2,ct2,sc2,rw2,_,no⟩
·obtain⟨i,hi,rfl⟩:=wX.mp hv;have hi':i<n:=rw'.1▸hi;obtain⟨w,ew,r⟩:=rw'.2 i hi';rw[hZ hi]at ew;cases ew;obtain⟨o1,o2,o3⟩:=ok i hi';exact no ⟨_,_,_,r,o1,by lia,by lia⟩
obtain⟨e,q⟩:=rw'.one rw2
subst e
refine no ⟨λi j hi hj ee=>u i j hi hj ?_,?_,?_⟩
·rw[(q i hi).1,(q j hj).1,ee]
·rw[←zD λi hi=>(q i hi).2.1];exact c1
rw[←zD λi hi=>(q i hi).2.2]
exact c2)
noncomputable def spRf(t:Adr):Sp:=λvs H Q _=>∃x so sr m q n' W dk l us,vs=[.ref x.s,.ref l]∧PS t H x so sr m q n' W dk∧H l=some (.lst us)∧Bad H us (so:Int) sr∧∀H',Q (.bl true) H'
theorem q6C(T:Txt K mg t)(S:Fns K t):S.iC.Ok0 P w mg base 7 (spRf t):=by(
refine S.iC.F.ok0 uW λcdv A _ s H vs Q E hr h=>?_
obtain⟨x,so,sr,m,q,n',W,dk,l,us,rfl,hs,hl,bd,kk⟩:=h
refine⟨_,(qB (qS (i:=2) uW.nd rfl (Or.inl rfl) uN) (qB (qS (i:=3) uW.nd rfl (Or.inl rfl) (zC zX (by rfl) T.tQ (by kernel_rfl) (qA (pv 1) qC))) (qB (qAD (λpins XE ES tk1 po1=>(qD (jC (q37 tk1 T.oC (vD T S).mono hr rfl T.oG S.bZ.b .nil (qA (pv 0) (qA (pv 1) qC)))))) (q7Z (λea=>(zR rfl T.aX rfl (v:=.ref t.C_NoPart))) rfl (λea=>(qD (qS (i:=2) uW.nd rfl (Or.inl rfl) uN))) (qAC yB))) (qD (qO (uP (pv 2) (uZ (yP (qDD hr.units) (pv 1) (pv 3) (qX _))))))))),?_⟩
try dsimp-beta-proj-iota-zeta-eta only[wishK,cxK]
have sz:(100:Nat)<sizeLine:=by decide
have l8:=bd.l8
refine⟨_,rfl,l,us,rfl,.inl (SqL.of hl),λc H1 n1 s1 h1=>?_⟩
refine⟨_,rfl,_,rfl,?_⟩
refine λp pd np npd nn=>?_
have sP:Same H1 (upd (upd H1 pd (.own p)) p (.ins t.C_Parts pd [])):=q39 np npd
have s2:=s1.trans sP
have bd2:=bd.same s2
have ends:∀H',(∀b o,upd (upd H1 pd (.own p)) p (.ins t.C_Parts pd []) b=some o→H' b=some o)→Eqv K H' 6 (.ref l) (.ref c):=λH' up=>by
 have s3:Same H H':=λb o e=>up b o (s2 b o e);refine .lst (SqL.of (s3 _ _ hl)) (SqL.of (up _ _ (sP _ _ h1))) rfl λi x y hx hy=>?_;obtain rfl:x=y:=kJ (hx.symm.trans hy);obtain⟨a,xs,rfl,hh,_,fl⟩:=((bd.rx _ (mJ hx)).same s3).1;have ff:∀w∈xs,vQ w=true:=λw hw=>by cases fl w hw<;>rfl
 rcases hh with hh|hh
 ·exact q7C (SqT.of hh) (SqT.of hh) ff
 refine .lst (SqL.of hh) (SqL.of hh) rfl λj x y hx hy=>?_;obtain rfl:x=y:=kJ (hx.symm.trans hy);exact .flat (ff _ (mJ hx))
refine⟨p,pd,x,so,sr,m,q,n',W,dk,l,us,rfl,qG,hs.same s2,s2 _ _ hl,l8,bd2.rx,λ_ H' up=>?_,λn nm' ct sc rw' _ no H' up=>?_,λn nm' ct sc rw' ok okc=>absurd okc (bd2.not rw' ok)⟩
·intro ea hea;refine⟨_,T.bU,iteT ⟨_,rfl,_,rfl,iteT ⟨_,rfl,_,rfl,ends H' up,kk _⟩⟩⟩
intro ea hea
refine⟨_,T.bU,iteT ⟨_,rfl,_,rfl,iteT ⟨_,rfl,_,rfl,ends H' up,kk _⟩⟩⟩)
theorem q8T{f:Nat→Nat}{i v:Nat}:∀{n:Nat},i<n→fst (λk=>if k=i then v else f k) n+f i=fst f n+v
|0,h=>by lia
|n+1,h=>by
 show(fst (λk=>if k=i then v else f k) n+(if n=i then v else f n))+f i=(fst f n+f n)+v;by_cases y:n=i
 ·subst y;have e:fst (λk=>if k=n then v else f k) n=fst f n:=by
   have:∀m,m≤n→fst (λk=>if k=n then v else f k) m=fst f m:=λm=>by
    induction m with
    |zero=>intro _;rfl
    |succ m ih=>intro hm;show fst (λk=>if k=n then v else f k) m+(if m=n then v else f m)=fst f m+f m;rw[ih (by lia),kC (by lia)]
   exact this n (kB _)
  rw[kG rfl,e];lia
 rw[kC y];have:=q8T (f:=f) (i:=i) (v:=v) (n:=n) (by lia);lia
theorem RwAt.rx{H:Hp}{v:V}{x:Str}{c s:Int}(h:RwAt H v x c s)(l:x.length≤100):RowX H v:=by(
obtain⟨a,e,h⟩:=h
refine⟨a,_,e,.inl h,(by show 3≤100;decide),λw hw=>?_⟩
have hw:w=.str x∨w=.int c∨w=.int s:=by simpa using hw
rcases hw with rfl|rfl|rfl
·exact .str _ l
·exact .int _
exact .int _)
theorem q1X{x:Str}(h:isNm (.str x)=true):1≤x.length∧x.length≤8:=by unfold isNm at h;simp at h;exact h.1
theorem Rws.rx{H:Hp}{us:List V}{n:Nat}{nm:Nat→Str}{ct sc:Nat→Nat}(r:Rws H us n nm ct sc)(ok:TabOk n nm ct sc){v:V}(hv:v∈us):RowX H v:=by(
obtain⟨i,hi,rfl⟩:=wX.mp hv
have hi':i<n:=r.1▸hi
obtain⟨w,ew,r'⟩:=r.2 i hi'
rw[hZ hi]at ew
cases ew
exact r'.rx (by have:=(q1X (ok.nm i hi')).2;lia))
section
variable{H:Hp}{us:List V}{n:Nat}{nm:Nat→Str}{ct sc:Nat→Nat}{so sr:Int}{k:Nat}{r:V}
theorem Rws.repl(h:Rws H us n nm ct sc)(hk:k<n){c s:Nat}(hr:RwAt H r (nm k) (c:Int) (s:Int)):Rws H (us.take k++[r]++us.drop (k+1)) n nm (λi=>if i=k then c else ct i) (λi=>if i=k then s else sc i):=by(
have ln:=h.1
have lk:(us.take k).length=k:=by rw[mR];lia
refine⟨by simp;lia,λi hi=>?_⟩
rcases nQ i k with c1|c1|c1
·obtain⟨v,e,q⟩:=h.2 i hi;refine⟨v,?_,by dsimp only;rw[kC (by lia),kC (by lia)];exact q⟩;rw[rE,gM (by lia),sY,kG c1];exact e
·subst c1;refine⟨r,?_,by dsimp only;rw[kG rfl,kG rfl];exact hr⟩;rw[rE,mQ (by lia),lk,Nat.sub_self];rfl
obtain⟨v,e,q⟩:=h.2 i hi
refine⟨v,?_,by dsimp only;rw[kC (by lia),kC (by lia)];exact q⟩
rw[mQ (by simp;lia),sZ]
rw[show k+1+(i-(us.take k++[r]).length)=i by simp;lia]
exact e)
theorem Rws.ins(h:Rws H us n nm ct sc)(hk:k<n){c s:Nat}(hr:RwAt H r (nm k) (c:Int) (s:Int)):Rws H (us.take (k+1)++[r]++us.drop (k+1)) (n+1) (λi=>if i≤k then nm i else nm (i-1)) (λi=>if i≤k then ct i else if i=k+1 then c else ct (i-1)) (λi=>if i≤k then sc i else if i=k+1 then s else sc (i-1)):=by(
have ln:=h.1
have lk:(us.take (k+1)).length=k+1:=by rw[mR];lia
refine⟨by simp;lia,λi hi=>?_⟩
rcases nQ i (k+1)with c1|c1|c1
·obtain⟨v,e,q⟩:=h.2 i (by lia);refine⟨v,?_,by dsimp only;rw[kG (by lia),kG (by lia),kG (by lia)];exact q⟩;rw[rE,gM (by lia),sY,kG c1];exact e
·subst c1;refine⟨r,?_,by simpa[show ¬k+1≤k by lia]using hr⟩;rw[rE,mQ (by lia),lk,Nat.sub_self];rfl
obtain⟨v,e,q⟩:=h.2 (i-1) (by lia)
refine⟨v,?_,by dsimp only;rw[kC (by lia),kC (by lia),kC (by lia),kC (by lia),kC (by lia)];exact q⟩
rw[mQ (by simp;lia),sZ]
rw[show k+1+(i-(us.take (k+1)++[r]).length)=i-1 by simp;lia]
exact e)
theorem q6D{v:V}{j:Nat}(h:v∈us.take k++[r]++us.drop j):v∈us∨v=r:=by(
rcases gA.mp h with h|h
·rcases gA.mp h with h|h
 ·exact .inl (sG h)
 exact .inr (kF.mp h)
exact .inl (sF h))
theorem qFS(h:Rws H us n nm ct sc)(ok:TabOk n nm ct sc)(hk:k<n)(rx:RowX H r)(no:¬zQ H r):Bad H (us.take k++[r]++us.drop (k+1)) so sr:=by(
have ln:=h.1
have n4:=ok.n4
refine⟨by simp;lia,λv hv=>?_,.inl ⟨r,by simp,no⟩⟩
rcases q6D hv with hv|rfl
·exact h.rx ok hv
exact rx)
theorem qBL(h:Rws H us n nm ct sc)(ok:TabOk n nm ct sc)(hk:k<n){c s:Nat}(hr:RwAt H r (nm k) (c:Int) (s:Int))(c1:1≤c)(s1:1≤s)(no:so<((fst ct n:Nat):Int)-ct k+c∨sr<((fst sc n:Nat):Int)-sc k+s):Bad H (us.take k++[r]++us.drop (k+1)) so sr:=by(
have ln:=h.1
have n4:=ok.n4
refine⟨by simp;lia,λv hv=>?_,.inr ⟨n,nm,_,_,h.repl hk hr,λi hi=>?_,λw=>?_⟩⟩
·rcases q6D hv with hv|rfl
 ·exact h.rx ok hv
 exact hr.rx (by have:=(q1X (ok.nm k hk)).2;lia)
·refine⟨ok.nm i hi,?_,?_⟩
 ·show 1≤(if i=k then c else ct i);have:=ok.c1 i hi;split<;>lia
 show 1≤(if i=k then s else sc i);have:=ok.s1 i hi;split<;>lia
have e1:=q8T (f:=ct) (v:=c) hk
have e2:=q8T (f:=sc) (v:=s) hk
obtain⟨_,w1,w2⟩:=w
lia)
theorem qFT(h:Rws H us n nm ct sc)(ok:TabOk n nm ct sc)(hk:k<n)(hr:RwAt H r (nm k) 1 1):Bad H (us.take (k+1)++[r]++us.drop (k+1)) so sr:=by(
have ln:=h.1
have n4:=ok.n4
have hr':RwAt H r (nm k) ((1:Nat):Int) ((1:Nat):Int):=hr
refine⟨by simp;lia,λv hv=>?_,.inr ⟨n+1,_,_,_,h.ins hk hr',λi hi=>?_,λw=>?_⟩⟩
·rcases q6D hv with hv|rfl
 ·exact h.rx ok hv
 exact hr.rx (by have:=(q1X (ok.nm k hk)).2;lia)
·try dsimp only
 by_cases c1:i≤k
 ·rw[kG c1,kG c1,kG c1];exact⟨ok.nm i (by lia),ok.c1 i (by lia),ok.s1 i (by lia)⟩
 rw[kC c1,kC c1,kC c1];refine⟨ok.nm (i-1) (by lia),?_,?_⟩
 ·have:=ok.c1 (i-1) (by lia);split<;>lia
 have:=ok.s1 (i-1) (by lia);split<;>lia
have:=w.1 k (k+1) (by lia) (by lia) (by dsimp only;rw[kG (kB k),kC (by lia)];rfl)
lia)
end
theorem qED{xs:List V}{m:Nat}(h:m≤xs.length):cutV xs (some (m:Int)) none=xs.drop m:=by(
unfold cutV
have e:HT.sIx xs.length 0 (some (m:Int))=m:=by unfold HT.sIx;simp only;split<;>lia
rw[e,show HT.sIx xs.length xs.length none=xs.length from rfl]
exact pK (by rw[cX];lia))
theorem q27{a b:Str}:(a++b).length=a.length+b.length:=by show(a.cps++b.cps).size=_;rw[Array.size_append];rfl
theorem q52{a b:Str}:(a++b).cps.toList=a.cps.toList++b.cps.toList:=by show(a.cps++b.cps).toList=_;exact Array.toList_append
theorem qJJ:(Str.ofString "A").cps.toList=[65]:=by decide+kernel
theorem qJK:(Str.ofString "1").cps.toList=[49]:=by decide+kernel
theorem qJL:(Str.ofString " ").cps.toList=[32]:=by decide+kernel
theorem qJM:(Str.ofString "-").cps.toList=[45]:=by decide+kernel
theorem q8U{x:Str}{c:Nat}(hc:lowC c=false)(h:c∈x.cps.toList):isNm (.str x)=false:=by
 have:x.cps.toList.all lowC=false:=by rw[List.all_eq_false];exact⟨c,h,by rw[hc];decide⟩
 show(_&&x.cps.toList.all lowC)=false;rw[this,lQ]
theorem qFU{x:Str}(h:8<x.length):isNm (.str x)=false:=by show(decide (1≤x.length)&&decide (x.length≤8)&&x.cps.toList.all lowC)=false;rw[hG (show ¬x.length≤8 by lia),lQ,pZ]
noncomputable def spFy(t:Adr):Sp:=λvs H Q _=>∃x so sr m q n' W dk l us n nm ct sc,∃cell:Int,vs=[.ref l,.int cell,.ref x.s]∧PS t H x so sr m q n' W dk∧H l=some (.lst us)∧Rws H us n nm ct sc∧TabOk n nm ct sc∧1≤n∧fst ct n≤so∧((fst sc n:Nat):Int)≤sr∧∀l' us' H',Same H H'→H' l'=some (.lst us')→Bad H' us' (so:Int) sr→Q (.ref l') H'
theorem q6V(T:Txt K mg t)(S:Fns K t):S.iR.Ok0 P w mg base 1 (spFy t):=by(
refine S.iR.F.ok0 jI λcdv A _ s H vs Q E hr h=>?_
obtain⟨x,so,sr,m,q,n',W,dk,l,us,n,nm,ct,sc,cell,rfl,hs,hl,rw',ok,n1,hso,hsr,kk⟩:=h
refine qG6 ⟨_,(jV (vZ (i:=3) jI.nd rfl (Or.inl rfl) (jT yG (jT u7 (pvW 1) yE) ⟨(qU jH (by rfl) T.fO mW (qA (pv 0) qC))⟩) rfl) (jV ⟨(q3O (yJ jX (pv 0) (pv 3) (λ_ _=>rfl)) (q12 rfl (jN (qR (i:=4) jI.nd rfl (Or.inl rfl)) (jN (qR (i:=5) jI.nd rfl (Or.inl rfl)) (jN (qR (i:=6) jI.nd rfl (Or.inl rfl)) zS)))))⟩ (jV (vZ (i:=7) jI.nd rfl (Or.inl rfl) ⟨(q0B qID (pv 4) (q0G qI) q31)⟩ rfl) (jV (vZ (i:=8) jI.nd rfl (Or.inl rfl) (q8S jX (zK (qK zA (qK (jT v4 zA (pvW 7)) (qK (jT v4 (pvW 4) zA) (qK (jT v4 (pvW 7) zA) (qK (jT v4 zA (pvW 7)) (qK qBH (qK yE (qK (jT v4 (pvW 7) zA) yQ))))))))) (jT yG (jT u7 (pvW 1) yE) yE) (λ_ _=>rfl)) rfl) (jV (vZ (i:=9) jI.nd rfl (Or.inl rfl) (q8S jX (zK (qK yE (qK (qHY qGJ yE) (qK qHX (qK qBH (qK zA (qK (jT uC yE (jT yG (pvW 1) (jT qA1 yE yE))) yQ))))))) (jT yG (jT u7 (pvW 1) yE) yE) (λ_ _=>rfl)) rfl) (jV (vZ (i:=10) jI.nd rfl (Or.inl rfl) (jT jQ (jT uC (jT jQ yE ⟨(qJ (qJ (pv 2) rfl) rfl)⟩) ⟨(qU (q0E rfl) (by rfl) T.aAW (by kernel_rfl) (qA (yV ["_law_row"] [] rfl (jW (pv 0)) (λ_ _ _ _ _=>(qR (i:=0) (show List.Nodup (["_law_row"]:List Str)from by decide) rfl (Or.inl rfl))) (λ_ _ _ _ _=>vX) (λ_ _ _ _ _=>(yJ (q22 (K:=K) rfl) (pv 0) qI (λ_ _=>rfl))) (by kernel_rfl) (yC (by decide))) qC))⟩) (pvW 5)) rfl) (qEC (vZ (i:=11) jI.nd rfl (Or.inl rfl) (jT jQ (jT uC (jT jQ yE ⟨(qJ (qJ (pv 2) rfl) rfl)⟩) ⟨(qU (q0E rfl) (by rfl) T.aAW (by kernel_rfl) (qA (yV ["_law_row"] [] rfl (jW (pv 0)) (λ_ _ _ _ _=>(qR (i:=0) (show List.Nodup (["_law_row"]:List Str)from by decide) rfl (Or.inl rfl))) (λ_ _ _ _ _=>vX) (λ_ _ _ _ _=>(yJ (q22 (K:=K) rfl) (pv 0) qI (λ_ _=>rfl))) (by kernel_rfl) (yC (by decide))) qC))⟩) (pvW 6)) rfl) (jV (vZ (i:=12) jI.nd rfl (Or.inl rfl) (zK (qK (vK (qK (pvW 8) (qK (pvW 5) (qK (pvW 6) yQ)))) (qK (vK (qK (pvW 4) (qK (pvW 9) (qK (pvW 6) yQ)))) (qK (vK (qK (pvW 4) (qK (pvW 5) (qK (pvW 9) yQ)))) (qK (vK (qK (pvW 4) (qK (pvW 5) yQ))) (qK (zK (qK (pvW 4) (qK (pvW 5) (qK (pvW 6) yQ)))) yQ q5H) yZ) yZ) yZ) yZ)) rfl) (jV (vZ (i:=12) jI.nd rfl (Or.inl rfl) (jT q36 (pvW 12) (zK (qK (vK (qK (pvW 4) (qK (pvW 5) (qK (pvW 6) (qK yE yQ))))) (qK (vK (qK (pvW 4) (qK (pvW 10) (qK (pvW 6) yQ)))) (qK (vK (qK (pvW 4) (qK (pvW 5) (qK (pvW 11) yQ)))) yQ yZ) yZ) yZ))) rfl) (jV (qIC (qY q70 (qP yG (pv 1) qI) qI (qX _)) (q9Y (qBK (jT q36 (jT q36 ⟨(q0B q32 (pv 0) q31 (q0G (pv 3)))⟩ (zK (qK (q8S jX (pvW 12) (jT yG (pvW 1) yE) (λ_ _=>rfl)) yQ))) ⟨(q0B q32 (pv 0) (q0G (qP jQ (pv 3) qI)) q31)⟩))) ⟨qM⟩) (q9Y (qBK (jT q36 (jT q36 ⟨(q0B q32 (pv 0) q31 (q0G (qP jQ (pv 3) qI)))⟩ (zK (qK (vK (qK (pvW 4) (qK yE (qK yE yQ)))) yQ yZ))) ⟨(q0B q32 (pv 0) (q0G (qP jQ (pv 3) qI)) q31)⟩))))))))))))),?_⟩
try dsimp-beta-proj-iota-zeta-eta only[wishK,cxK]
have sz:(100:Nat)<sizeLine:=by decide
have lu:=rw'.1
have n4:=ok.n4
have z0:(0:Int)<(us.length:Int):=by lia
refine⟨_,rfl,iI ⟨⟨by show(0:Int)<16;decide,by decide⟩,_,rfl,l,_,rfl,.inl (SqL.of hl),iI ⟨z0,?_⟩⟩⟩
have a0:=gP (cell / 16) (show(us.length:Int)≠0 by lia)
have a1:=gS (cell / 16) z0
dsimp only
generalize cell / 16%(us.length:Int)=at' at a0 a1 ⊢
obtain⟨k,rfl⟩:=gJ a0
have hk:k<n:=by lia
obtain⟨ra,era,hra⟩:=rw'.at hk
obtain⟨ml,mh⟩:=q1X (ok.nm k hk)
refine⟨_,rfl,_,rfl,iL (k:=_) (v:=.ref ra) (SqL.of hl) (uR era) ⟨ra,_,rfl,SqT.of hra,rfl,_,_,rfl,_,_,rfl,_,_,rfl,rfl,?_⟩⟩
refine⟨_,rfl,1,rfl,nm k,rfl,by lia,?_⟩
have tl8:(Txt.slice (nm k) (some 1) none).length≤8:=mE (Txt.slice_le _ _ _) mh
generalize Txt.slice (nm k) (some 1) none=tl at tl8 ⊢
obtain⟨v1,e1,f1,g1⟩:∃v,atI [V.str "",V.str ("A"++tl),V.str (nm k++"aaaaaaaa"),V.str (tl++"1"),V.str (" "++tl),V.non,V.int 7,V.str (tl++"-")] (cell / 64%8)=some v∧Fl v∧isNm v=false:=by
 have:cell / 64%8=0∨cell / 64%8=1∨cell / 64%8=2∨cell / 64%8=3∨cell / 64%8=4∨cell / 64%8=5∨cell / 64%8=6∨cell / 64%8=7:=by lia
 rcases this with e|e|e|e|e|e|e|e<;>rw[e]
 ·exact⟨_,rfl,.str _ (by decide),rfl⟩
 ·exact⟨_,rfl,.str _ (by rw[q27];show 1+tl.length≤100;lia),q8U (c:=65) (by decide) (by rw[q52];simp[qJJ])⟩
 ·exact⟨_,rfl,.str _ (by rw[q27];show(nm k).length+8≤100;lia),qFU (by rw[q27];show 8<(nm k).length+8;lia)⟩
 ·exact⟨_,rfl,.str _ (by rw[q27];show tl.length+1≤100;lia),q8U (c:=49) (by decide) (by rw[q52];simp[qJK])⟩
 ·exact⟨_,rfl,.str _ (by rw[q27];show 1+tl.length≤100;lia),q8U (c:=32) (by decide) (by rw[q52];simp[qJL])⟩
 ·exact⟨_,rfl,.non,rfl⟩
 ·exact⟨_,rfl,.int _,rfl⟩
 exact⟨_,rfl,.str _ (by rw[q27];show tl.length+1≤100;lia),q8U (c:=45) (by decide) (by rw[q52];simp[qJM])⟩
refine⟨_,rfl,Str.ofString "A",tl,rfl,rfl,(by show 1+tl.length≤sizeLine;lia),_,rfl,nm k,Str.ofString "aaaaaaaa",rfl,rfl,(by show(nm k).length+8≤sizeLine;lia),_,rfl,tl,Str.ofString "1",rfl,rfl,(by show tl.length+1≤sizeLine;lia),_,rfl,Str.ofString " ",tl,rfl,rfl,(by show 1+tl.length≤sizeLine;lia),_,rfl,tl,Str.ofString "-",rfl,rfl,(by show tl.length+1≤sizeLine;lia),(by show 8≤sizeLine;decide),λp1 H1 n1' s1 h1=>?_⟩
refine⟨_,rfl,iI ⟨⟨by show(0:Int)<64;decide,by decide⟩,iI ⟨(by show(0:Int)<8;decide),iL (k:=_) (v:=v1) (SqL.of h1) e1 ?_⟩⟩⟩
obtain⟨v2,e2,f2,g2⟩:∃v,atI [V.int 0,V.int (-1),V.bl true,V.non,V.str "1",V.int (0-cell%10 ^ Int.toNat 30)] (cell / 64%6)=some v∧Fl v∧isF v=false:=by
 have:cell / 64%6=0∨cell / 64%6=1∨cell / 64%6=2∨cell / 64%6=3∨cell / 64%6=4∨cell / 64%6=5:=by lia
 rcases this with e|e|e|e|e|e<;>rw[e]
 ·exact⟨_,rfl,.int _,rfl⟩
 ·exact⟨_,rfl,.int _,rfl⟩
 ·exact⟨_,rfl,.bl _,rfl⟩
 ·exact⟨_,rfl,.non,rfl⟩
 ·exact⟨_,rfl,.str _ (by decide),rfl⟩
 have:=gP cell (show(10:Int) ^ Int.toNat 30≠0 by decide);exact⟨_,rfl,.int _,hG (by lia)⟩
refine⟨_,rfl,_,rfl,iI ⟨⟨by decide,by decide,by decide⟩,iI ⟨(by show(0:Int)<10 ^ Int.toNat 30;decide),iI ⟨(by show 6≤sizeLine;decide),λp2 H2 n2' s2 h2=>?_⟩⟩⟩⟩
refine⟨_,rfl,iI ⟨⟨by show(0:Int)<64;decide,by decide⟩,iI ⟨(by show(0:Int)<6;decide),iL (k:=_) (v:=v2) (SqL.of h2) e2 ?_⟩⟩⟩
have s02:=s1.trans s2
clear e1 e2 h1 h2 n1' n2' s1 s2
have hl2:=s02 _ _ hl
have hs2:=hs.same s02
have rw2:=rw'.same s02
refine(iV rfl (iF hs2.st.o T.aB T.aG rfl (iF hs2.st.te T.aK T.bL rfl (iI ?_))))
refine⟨_,rfl,l,rfl,⟨_,SqL.of hl2⟩,λD H3 nD s3 hD=>?_⟩
refine q45 (n:=n) (g:=λi=>.int (ct i:Nat)) (by show(0:Nat)<1;decide) hl2 s3 nD hD lu (by lia) (λi hi=>?_) λH4 s4 h4=>?_
·obtain⟨a,e,ha⟩:=rw2.at hi;exact⟨a,_,e,ha,rfl⟩
have h4:H4 D=some (.lst (((List.range n).map λi=>((ct i:Nat):Int)).map V.int)):=by rw[h4,dQ];rfl
refine⟨D,_,rfl,SqL.of h4,_,_,rfl,rfl,_,rfl,iI ?_⟩
rw[q3I]
have fk:=q65 (j:=0) hk (show(0:Int)<((ct k:Nat):Int) by have:=ok.c1 k hk;lia) (kB (fst ct n))
obtain⟨wd,ewd⟩:∃wd:Nat,1+(so:Int)-((fst ct n:Nat):Int)+((ct k:Nat):Int)=(wd:Int):=⟨_,(gN (by lia)).symm⟩
dsimp only
rw[ewd]
have s04:=s02.trans s4
clear h4 hD nD s3 hs2 rw2 hl2 s4 s02
have hl2:=s04 _ _ hl
have hs2:=hs.same s04
have rw2:=rw'.same s04
obtain⟨dp,edp⟩:∃dp:Nat,1+sr-((fst sc n:Nat):Int)+((sc k:Nat):Int)=(dp:Int):=⟨_,(gN (by lia)).symm⟩
refine⟨λσ' H'=>σ'=[some (.ref l),some (.int cell),some (.ref x.s),some (.int (k:Int)),some (.str (nm k)),some (.int ((ct k:Nat):Int)),some (.int ((sc k:Nat):Int)),some (.str tl),some v1,some v2,some (.int (wd:Int)),some (.int (dp:Int)),none]∧Same H H',?_,?_⟩
·refine(iV rfl (iF hs2.st.o T.aB T.aG rfl (iF hs2.st.te T.aK T.bP rfl (iI ?_))));refine⟨_,rfl,l,rfl,⟨_,SqL.of hl2⟩,λD2 H5 nD s3 hD=>?_⟩;refine q45 (n:=n) (g:=λi=>.int (sc i:Nat)) (by show(0:Nat)<1;decide) hl2 s3 nD hD lu (by lia) (λi hi=>?_) λH6 s6 h4=>?_
 ·obtain⟨a,e,ha⟩:=rw2.at hi;exact⟨a,_,e,ha,rfl⟩
 have h4:H6 D2=some (.lst (((List.range n).map λi=>((sc i:Nat):Int)).map V.int)):=by rw[h4,dQ];rfl
 refine⟨D2,_,rfl,SqL.of h4,_,_,rfl,rfl,_,rfl,iI ?_⟩;rw[q3I];dsimp only;rw[edp];exact⟨rfl,s04.trans s6⟩
clear hs2 rw2 hl2 s04
rintro σ' H6 ⟨rfl,s06⟩
have z3:(3:Nat)≤sizeLine:=by decide
refine⟨_,rfl,_,rfl,_,rfl,z3,λq1 H7 _ s7 h7=>?_⟩
refine⟨_,rfl,_,rfl,_,rfl,z3,λq2 H8 _ s8 h8=>?_⟩
refine⟨_,rfl,_,rfl,_,rfl,z3,λq3 H9 _ s9 h9=>?_⟩
refine⟨_,rfl,_,rfl,sz2,λq4 H10 _ s10 h10=>?_⟩
refine⟨_,rfl,_,rfl,_,rfl,z3,λq5 H11 _ s11 h11=>?_⟩
refine⟨sz5,λsm H12 _ s12 h12=>?_⟩
refine⟨_,rfl,?_⟩
refine⟨_,rfl,_,rfl,_,rfl,sz4,λq6 H13 _ s13 h13=>?_⟩
refine⟨_,rfl,_,rfl,_,rfl,z3,λq7 H14 _ s14 h14=>?_⟩
refine⟨_,rfl,_,rfl,_,rfl,z3,λq8 H15 _ s15 h15=>?_⟩
refine⟨z3,λsm2 H16 _ s16 h16=>?_⟩
have t15:=s15.trans s16
have t14:=s14.trans t15
have t13:=s13.trans t14
have t12:=s12.trans t13
have t11:=s11.trans t12
have t10:=s10.trans t11
have t9:=s9.trans t10
have t8:=s8.trans t9
have t7:=s7.trans t8
refine⟨sm,sm2,_,_,rfl,rfl,t13 _ _ h12,h16,(by show 8≤sizeLine;decide),λsm3 H17 _ s17 h17=>?_⟩
have s017:=(s06.trans t7).trans s17
have hl7:=s017 _ _ hl
have rw7:=rw'.same s017
have lk:=q1X (ok.nm k hk)
have oc:=ok.c1 k hk
have os:=ok.s1 k hk
have fx:∀{p xs},H17 p=some (.tup xs)∨H17 p=some (.lst xs)→xs.length≤100→(∀w∈xs,Fl w)→RowX H17 (.ref p):=fun {p xs} a b c=>⟨p,xs,rfl,a,b,c⟩
have fn:∀{p xs},H17 p=some (.tup xs)→(∀x c s,xs=[.str x,.int c,.int s]→¬(isNm (.str x)=true∧1≤c∧1≤s))→¬zQ H17 (.ref p):=fun {p xs} a b ⟨x,c,s,⟨p',e,h⟩,r⟩=>by cases e;rw[a]at h;exact b x c s (HO.tup.inj (kJ h)) r
have mem3:∀{a b c:V},Fl a→Fl b→Fl c→∀w∈[a,b,c],Fl w:=fun {a b c} fa fb fc w hw=>by
 have hw:w=a∨w=b∨w=c:=by simpa using hw
 rcases hw with rfl|rfl|rfl<;>assumption
have fnm:Fl (.str (nm k)):=.str _ (by lia)
obtain⟨r,er,rxr,hr⟩:∃r,atI ([V.ref q1,.ref q2,.ref q3,.ref q4,.ref q5]++[V.ref q6,.ref q7,.ref q8]) (cell%8)=some r∧RowX H17 r∧(¬zQ H17 r∨RwAt H17 r (nm k) (wd:Int) ((sc k:Nat):Int)∨RwAt H17 r (nm k) ((ct k:Nat):Int) (dp:Int)):=by
 have:cell%8=0∨cell%8=1∨cell%8=2∨cell%8=3∨cell%8=4∨cell%8=5∨cell%8=6∨cell%8=7:=by lia
 rcases this with e|e|e|e|e|e|e|e<;>rw[e]
 ·have hq:=(t8.trans s17) _ _ h7;refine⟨_,rfl,fx (.inl hq) (gH rfl) (mem3 f1 (.int _) (.int _)),.inl (fn hq λx c s e w=>?_)⟩;rw[(dG e).1,w.1]at g1;cases g1
 ·have hq:=(t9.trans s17) _ _ h8;refine⟨_,rfl,fx (.inl hq) (gH rfl) (mem3 fnm f2 (.int _)),.inl (fn hq λx c s e w=>?_)⟩;rw[(dG (dG e).2).1]at g2;exact absurd w.2.1 (wF g2)
 ·have hq:=(t10.trans s17) _ _ h9;refine⟨_,rfl,fx (.inl hq) (gH rfl) (mem3 fnm (.int _) f2),.inl (fn hq λx c s e w=>?_)⟩;rw[(dG (dG (dG e).2).2).1]at g2;exact absurd w.2.2 (wF g2)
 ·have hq:=(t11.trans s17) _ _ h10;refine⟨_,rfl,fx (.inl hq) (gH rfl) (λw hw=>?_),.inl (fn hq λx c s e w=>?_)⟩
  ·have hw:w=.str (nm k)∨w=.int ((ct k:Nat):Int):=by simpa using hw
   rcases hw with rfl|rfl
   ·exact fnm
   exact .int _
  have:=dB List.length e;simp at this
 ·have hq:=(t12.trans s17) _ _ h11;refine⟨_,rfl,fx (.inr hq) (gH rfl) (mem3 fnm (.int _) (.int _)),.inl λhZ=>?_⟩;obtain⟨x,c,s,⟨p',e,h⟩,r⟩:=hZ;cases e;rw[hq]at h;cases h
 ·have hq:=(t14.trans s17) _ _ h13;refine⟨_,rfl,fx (.inl hq) (gH rfl) (λw hw=>?_),.inl (fn hq λx c s e w=>?_)⟩
  ·have hw:w=.str (nm k)∨w=.int ((ct k:Nat):Int)∨w=.int ((sc k:Nat):Int)∨w=.int 1:=by simpa using hw
   rcases hw with rfl|rfl|rfl|rfl
   ·exact fnm
   ·exact .int _
   ·exact .int _
   exact .int _
  have:=dB List.length e;simp at this
 ·have hq:=(t15.trans s17) _ _ h14;exact⟨_,rfl,fx (.inl hq) (gH rfl) (mem3 fnm (.int _) (.int _)),.inr (.inl ⟨_,rfl,hq⟩)⟩
 have hq:=(s16.trans s17) _ _ h15;exact⟨_,rfl,fx (.inl hq) (gH rfl) (mem3 fnm (.int _) (.int _)),.inr (.inr ⟨_,rfl,hq⟩)⟩
have bd:Bad H17 (us.take k++[r]++us.drop (k+1)) (so:Int) sr:=by
 rcases hr with hr|hr|hr
 ·exact qFS rw7 ok hk rxr hr
 ·exact qBL rw7 ok hk hr (by lia) os (.inl (by lia))
 exact qBL rw7 ok hk hr oc (by lia) (.inr (by lia))
clear fx fn mem3 hr rxr h7 h8 h9 h10 h11 h12 h13 h14 h15 h16 t7 t8 t9 t10 t11 t12 t13 t14 t15 s7 s8 s9 s10 s11 s12 s13 s14 s15 s16 s17 f1 f2 g1 g2 fnm
have ct1:cutV us none (some (k:Int))=us.take k:=by rw[qDI (by lia),mL]
have ct2:cutV us none (some ((k:Int)+1))=us.take (k+1):=by rw[qDI (by lia),show((k:Int)+1).toNat=k+1 by lia]
have ct3:cutV us (some ((k:Int)+1)) none=us.drop (k+1):=qED (m:=k+1) (by lia)
refine⟨_,rfl,iI ⟨(by show(0:Int)<16;decide),iI ⟨_,rfl,?_⟩⟩⟩
by_cases c:cell%16<8
·rw[hI c];refine iteT ?_;refine⟨_,rfl,_,rfl,(k:Int),rfl,l,_,rfl,SqL.of hl7,λc1 nc1=>?_⟩;rw[ct1];have u1:Same H17 (upd H17 c1 (.lst (us.take k))):=Same.upd nc1;have v1':(upd H17 c1 (.lst (us.take k))) c1=some (.lst (us.take k)):=qG;generalize upd H17 c1 (.lst (us.take k))=H18 at u1 v1' ⊢;refine⟨_,rfl,_,rfl,iI ⟨(by show(0:Int)<8;decide),iL (k:=_) (v:=r) (SqL.of (u1 _ _ h17)) er ⟨sz1,λc2 H19 _ u2 v2'=>?_⟩⟩⟩;refine⟨c1,c2,_,_,rfl,rfl,u2 _ _ v1',v2',(by rw[mR];show _ +1≤_;lia),λc3 H20 _ u3 v3'=>?_⟩;have u20:=(u1.trans u2).trans u3;refine⟨_,rfl,_,rfl,iI ⟨(k:Int)+1,rfl,l,_,rfl,SqL.of (u20 _ _ hl7),λc4 nc4=>?_⟩⟩;rw[ct3];have u4:Same H20 (upd H20 c4 (.lst (us.drop (k+1)))):=Same.upd nc4;have v4':(upd H20 c4 (.lst (us.drop (k+1)))) c4=some (.lst (us.drop (k+1))):=qG;generalize upd H20 c4 (.lst (us.drop (k+1)))=H21 at u4 v4' ⊢;refine⟨c3,c4,_,_,rfl,rfl,u4 _ _ v3',v4',(by simp;lia),λc5 H22 _ u5 v5'=>?_⟩;exact kk c5 _ H22 (s017.trans (u20.trans (u4.trans u5))) v5' (bd.same (u20.trans (u4.trans u5)))
rw[hG c]
refine iteF ?_
refine⟨_,rfl,_,rfl,iI ⟨(k:Int)+1,rfl,l,_,rfl,SqL.of hl7,λc1 nc1=>?_⟩⟩
rw[ct2]
have u1:Same H17 (upd H17 c1 (.lst (us.take (k+1)))):=Same.upd nc1
have v1':(upd H17 c1 (.lst (us.take (k+1)))) c1=some (.lst (us.take (k+1))):=qG
generalize upd H17 c1 (.lst (us.take (k+1)))=H18 at u1 v1' ⊢
refine⟨_,rfl,z3,λrr H18' _ u1' w1=>?_⟩
refine⟨sz1,λc2 H19 _ u2 v2'=>?_⟩
refine⟨c1,c2,_,_,rfl,rfl,u2 _ _ (u1' _ _ v1'),v2',(by rw[mR];show _ +1≤_;lia),λc3 H20 _ u3 v3'=>?_⟩
have u20:=(u1.trans (u1'.trans u2)).trans u3
refine⟨_,rfl,_,rfl,iI ⟨(k:Int)+1,rfl,l,_,rfl,SqL.of (u20 _ _ hl7),λc4 nc4=>?_⟩⟩
rw[ct3]
have u4:Same H20 (upd H20 c4 (.lst (us.drop (k+1)))):=Same.upd nc4
have v4':(upd H20 c4 (.lst (us.drop (k+1)))) c4=some (.lst (us.drop (k+1))):=qG
generalize upd H20 c4 (.lst (us.drop (k+1)))=H21 at u4 v4' ⊢
refine⟨c3,c4,_,_,rfl,rfl,u4 _ _ v3',v4',(by simp;lia),λc5 H22 _ u5 v5'=>?_⟩
have s22:=u20.trans (u4.trans u5)
exact kk c5 _ H22 (s017.trans s22) v5' (qFT (rw7.same s22) ok hk ⟨rr,rfl,((u2.trans u3).trans (u4.trans u5)) _ _ w1⟩))
theorem PS.new{H:Hp}{x:Sto}{so B:Nat}{sr:Int}(b2:2≤B)(b16:B≤16)(st:StAt t H x (.int (so:Int)) (.int sr) (.int 0) (.int 1000000) (CM.new (B:Int) 10 1000000 []) (bk0 B 10))(so1:so≤60):PS t H x so sr (CM.new (B:Int) 10 1000000 []) (bk0 B 10) 0 [] false:=by(
refine⟨st,⟨qHM (by lia) (by lia) (by lia) (by lia) (λb v e=>by cases e),qI3 b16 (by lia) (by lia),rfl,rfl⟩,?_,?_,?_,λb=>rfl,rfl,mI _,rfl,λp _=>?_,cK,List.Perm.nil,λs h=>absurd h (by simp),λs v h=>absurd h (by simp),so1⟩
·show List.replicate _ false=List.replicate B false;rw[mL]
·show List.replicate _ (0:Int)=List.replicate B 0;rw[mL]
·show List.replicate B (0:Int)=linF B 10 0;exact qHW.symm
show(List.replicate _ V.non).getD p .non=.non
rw[kM,g5]
split<;>rfl)
theorem q9Z{H:Hp}{a b:Addr}{us ws:List V}{n:Nat}{nm:Nat→Str}{ct sc:Nat→Nat}(ha:H a=some (.lst us))(hb:H b=some (.lst ws))(r1:Rws H us n nm ct sc)(r2:Rws H ws n nm ct sc):Eqv K H 6 (.ref a) (.ref b):=by(
refine .lst (SqL.of ha) (SqL.of hb) (by rw[r1.1,r2.1]) λi x y hx hy=>?_
have hi:i<n:=by rw[←r1.1];exact(hU.mp hx).1
obtain⟨p,e1,h1⟩:=r1.at hi
obtain⟨p',e2,h2⟩:=r2.at hi
rw[hx]at e1
rw[hy]at e2
cases e1
cases e2
exact q7C (SqT.of h1) (SqT.of h2) (by simp[vQ]))
theorem q6E{n:Nat}{nm nm2:Nat→Str}{f g:Nat→V}(h:∀i,i<n→nm i=nm2 i∧f i=g i):dN n nm f=dN n nm2 g:=by unfold dN;exact cB λi hi=>by rw[(h i (k7.mp hi)).1,(h i (k7.mp hi)).2]
theorem PtAt.conv{H:Hp}{z:Pz}{s:Addr}{n n2:Nat}{nm nm2:Nat→Str}{ct sc ct2 sc2:Nat→Nat}(h:PtAt t H z s n nm ct sc)(e:n=n2∧∀i,i<n→nm i=nm2 i∧ct i=ct2 i∧sc i=sc2 i):PtAt t H z s n2 nm2 ct2 sc2:=by(
obtain⟨rfl,e⟩:=e
refine⟨h.o,?_,?_,?_,h.d1,h.d2⟩
·rw[h.f,q6E λi hi=>⟨(e i hi).1,by rw[zD λk hk=>(e k (by lia)).2.1]⟩]
·rw[h.c,q6E λi hi=>⟨(e i hi).1,by rw[(e i hi).2.1]⟩]
rw[h.s,q6E λi hi=>⟨(e i hi).1,by rw[(e i hi).2.2]⟩])
theorem Rws.ro{H:Hp}{us:List V}{n:Nat}{nm:Nat→Str}{ct sc:Nat→Nat}(r:Rws H us n nm ct sc)(ok:TabOk n nm ct sc){v:V}(hv:v∈us):zQ H v:=by(
obtain⟨i,hi,rfl⟩:=wX.mp hv
have hi':i<n:=r.1▸hi
obtain⟨w,ew,r'⟩:=r.2 i hi'
rw[hZ hi]at ew
cases ew
have:=ok.c1 i hi'
have:=ok.s1 i hi'
exact⟨_,_,_,r',ok.nm i hi',by lia,by lia⟩)
theorem Rws.okc{H:Hp}{us:List V}{n n2:Nat}{nm nm2:Nat→Str}{ct sc ct2 sc2:Nat→Nat}{so sr:Int}(a:Rws H us n nm ct sc)(b:Rws H us n2 nm2 ct2 sc2)(h:Unl n nm∧((fst ct n:Nat):Int)≤so∧((fst sc n:Nat):Int)≤sr):Unl n2 nm2∧((fst ct2 n2:Nat):Int)≤so∧((fst sc2 n2:Nat):Int)≤sr:=by(
obtain⟨rfl,q⟩:=a.one b
obtain⟨u,c1,c2⟩:=h
refine⟨λi j hi hj ee=>u i j hi hj ?_,?_,?_⟩
·rw[(q i hi).1,(q j hj).1,ee]
·rw[←zD λi hi=>(q i hi).2.1];exact c1
rw[←zD λi hi=>(q i hi).2.2]
exact c2)
theorem qIE{xs:List V}:(cutV xs (some 9) (some 39)).length≤30:=by unfold cutV;rw[mR,cX,show HT.sIx xs.length 0 (some 9)=min 9 xs.length from rfl,show HT.sIx xs.length xs.length (some 39)=min 39 xs.length from rfl];lia
theorem qEE{H:Hp}{Q:VK}{E:XK}{x:Sto}{so:Nat}{sr:Int}{m:CM}{q:QM}{n':Nat}{W:Mp}{ha p pd:Addr}{us:List V}{n:Nat}{nm:Nat→Str}{ct sc:Nat→Nat}(ps:PS t H x so sr m q n' W false)(hl:H ha=some (.lst us))(r:Rws H us n nm ct sc)(ok:TabOk n nm ct sc)(okc:Unl n nm∧((fst ct n:Nat):Int)≤(so:Int)∧((fst sc n:Nat):Int)≤sr)(np:H p=none)(npd:H pd=none)
 (k:∀fs cs ss H',PtAt t H' ⟨p,pd,fs,cs,ss⟩ x.s n nm ct sc→fs≠cs→H fs=none→H cs=none→H ss=none→Same H H'→Q .non H'):qG8 t [.ref p,.ref x.s,.ref ha] (upd (upd H pd (.own p)) p (.ins t.C_Parts pd [])) Q E:=by(
have sP:Same H (upd (upd H pd (.own p)) p (.ins t.C_Parts pd [])):=q39 np npd
have rP:=r.same sP
have n4:=ok.n4
have lu:=r.1
exact⟨p,pd,x,so,sr,m,q,n',W,false,ha,us,rfl,qG,ps.same sP,sP _ _ hl,by lia,λv hv=>rP.rx ok hv,λ⟨v,hv,no⟩=>absurd (rP.ro ok hv) no,λn2 nm2 ct2 sc2 rw2 _ no=>absurd (rP.okc rw2 okc) no,λn2 nm2 ct2 sc2 rw2 _ _ fs cs ss HD pt fcs f1 f2 f3 up=>k fs cs ss HD (pt.conv (rw2.one rP)) fcs (sP.free f1) (sP.free f2) (sP.free f3) λb o e=>up b o (qF e np) (sP b o e)⟩)
theorem qIF(T:Txt K mg t)(S:Fns K t)(B:BmIn base mg):S.law.Ok0 P w mg base 16 (q3T K [t.aA]):=by(
refine S.law.F.ok0 yS λcdv A _ s H vs Q E hr h=>?_
obtain⟨a,ns,rfl,hS,hlen,hT0,kk⟩:=h
have hT:H t.aA=some (.tbl #[]):=hT0 _ (kF.mpr rfl)
have hu:=vR hr
have sz:(100:Nat)<sizeLine:=by decide
refine⟨_,(qB (qS (i:=1) yS.nd rfl (Or.inl rfl) (qT (q8Q T S).mono hr rfl T.xW T.xQ S.oP.b .nil qL (qA (pv 0) (qA qI qC)))) (qB (qS (i:=2) yS.nd rfl (Or.inl rfl) zG) (qB (qS (i:=3) yS.nd rfl (Or.inl rfl) qI) (qB (uQ gE rfl (jW (pv 1)) (q12 rfl (jN (qR (i:=4) yS.nd rfl (Or.inl rfl)) (jN (qR (i:=5) yS.nd rfl (Or.inl rfl)) (jN (qR (i:=6) yS.nd rfl (Or.inl rfl)) zS)))) (qB (vW hu (pv 2) (pv 4) (pv 3) rfl) (qD (qS (i:=3) yS.nd rfl (Or.inl rfl) (qP jQ (pv 3) (pv 5)))))) (qB (qS (i:=7) yS.nd rfl (Or.inl rfl) (qP jQ (pv 3) (qP yG (qT (yD T S).mono hr rfl T.aM T.aN S.aP.b .nil qL (qA (pv 0) (qA qI qC))) qI))) (qB (qS (i:=8) yS.nd rfl (Or.inl rfl) (qP jQ (qU (q0E rfl) (by rfl) T.aAW (by kernel_rfl) (qA (yV ["_law_row"] [] rfl (jW (pv 1)) (λ_ _ _ _ _=>(qR (i:=0) (show List.Nodup (["_law_row"]:List Str)from by decide) rfl (Or.inl rfl))) (λ_ _ _ _ _=>vX) (λ_ _ _ _ _=>(yJ (q22 (K:=K) rfl) (pv 0) qI (λ_ _=>rfl))) (by kernel_rfl) (yC (by decide))) qC)) (qP yG (qP u7 (qT (yD T S).mono hr rfl T.aM T.aN S.aP.b .nil qL (qA (pv 0) (qA qI qC))) qI) qI))) (qB (qS (i:=9) yS.nd rfl (Or.inl rfl) (qP jQ qI (qP yG (qT (yD T S).mono hr rfl T.aM T.aN S.aP.b .nil qL (qA (pv 0) (qA qI qC))) qI))) (qB (qS (i:=10) yS.nd rfl (Or.inl rfl) (q4U T.aA7 (q6R T S).mono hr rfl T.aA4 S.iQ.b .nil qL (qA (q4U T.aBB (q8I T S).mono hr rfl T.aBG S.tT S.tX qL (qA (pv 9) (qA qI qC))) (qA (q4U T.aA0 (q6P T S).mono hr rfl T.aA2 S.tL S.tP qL (qA (pv 9) (qA qI (qA (pv 7) (qA (pv 8) qC))))) qC)))) (qB (qS (i:=11) yS.nd rfl (Or.inl rfl) (qB0 (q0D qQ (pv 1) (q0D qQ (pv 2) (q0D qQ zG (q0D qQ (pv 7) (q0D qQ (pv 8) qAZ))))) rfl rfl (by simp) (by decide))) (qB (qS (i:=12) yS.nd rfl (Or.inl rfl) (zC zX (by rfl) T.tQ (by kernel_rfl) (qA (pv 1) qC))) (qB (qS (i:=13) yS.nd rfl (Or.inl rfl) (q37 yB T.oC (vD T S).mono hr rfl T.oG S.bZ.b .nil (qA (pv 10) (qA (pv 12) qC)))) (qB (jC (qA6 g6 pB pC q94 (pv 12))) (qB (uQ gE rfl (jW (q0B q32 (pv 0) (q0G qI) (q0G qI))) (qR (i:=14) yS.nd rfl (Or.inl rfl)) (qB (qS (i:=15) yS.nd rfl (Or.inl rfl) (qP yG (qP zW (pv 14) qI) qI)) (qB (jA (jJ (jF (qT (q9X T S B).mono hr rfl T.aAG T.aAH S.xL.b .nil qL (qA (pv 10) (qA (pv 13) (qA (pv 11) (qA (pv 15) qC))))))) (qD (qO uN)) qM) (qD (jA (jJ (jF (qT (q1W T S).mono hr rfl T.iB T.iE S.iK.b .nil qL (qA (pv 10) (qA (pv 13) (qA (pv 11) (qA (yJ jX (pv 1) (qP yG (qP u7 (pv 15) qI) (qU jH (by rfl) T.fO mW (qA (pv 1) qC))) (λ_ _=>rfl)) qC))))))) (qD (qO uN)) qM))))) (qB (qS (i:=16) yS.nd rfl (Or.inl rfl) (q37 yB T.oC (vD T S).mono hr rfl T.oG S.bZ.b .nil (qA (pv 10) (qA (zC zX (by rfl) T.tQ (by kernel_rfl) (qA (pv 1) qC)) qC)))) (qB (uQ gE rfl (jW (pv 1)) (qR (i:=17) yS.nd rfl (Or.inl rfl)) (qB (jA (PW.pt (q11 (jJ (jF (qT (q1W T S).mono hr rfl T.iB T.iE S.iK.b .nil qL (qA (pv 10) (qA (pv 13) (qA (pv 11) (qA (pv 17) qC))))))) (zE (jJ (jF (qT (q6U T S).mono hr rfl T.xN T.xO S.iU.b .nil qL (qA (pv 10) (qA (yJ q3Q (pv 17) qI (λ_ _=>rfl)) qC)))))))) (qD (qO uN)) qM) (qD (jA (jJ (jF (qT (q1W T S).mono hr rfl T.iB T.iE S.iK.b .nil qL (qA (pv 10) (qA (pv 16) (qA (pv 11) (qA (pv 17) qC))))))) (qD (qO uN)) qM)))) (qB (qS (i:=18) yS.nd rfl (Or.inl rfl) (jK (pv 13) T.aD T.i7 (q2O T S).mono hr S.fU.b .nil qL)) (qB (jA (PW.pt (q11 (jJ (jF (qU jY (by rfl) T.aL (by kernel_rfl) (qA (pv 18) (qA (vA rfl T.tQ (by kernel_rfl) rfl (v:=.ty "list")) qC))))) (zE (qY (qDE hr.units) (pv 18) (pv 1) (qX _))))) (qD (qO uN)) qM) (qB (jC (qA6 g6 pB pC q94 (pv 18))) (qD (qO (uP (yP (qDD hr.units) (jK (pv 13) T.aD T.i7 (q2O T S).mono hr S.fU.b .nil qL) (pv 1) (qX _)) (uZ (qT (q6C T S).mono hr rfl T.tO T.tI S.iC.b .nil qL (qA (pv 10) (qA (qT (q6V T S).mono hr rfl T.tW T.xM S.iR.b .nil qL (qA (pv 1) (qA (qT (yD T S).mono hr rfl T.aM T.aN S.aP.b .nil qL (qA (pv 0) (qA qI qC))) (qA (pv 10) qC)))) qC))))))))))))))))))))))))),?_⟩
try dsimp-beta-proj-iota-zeta-eta only[wishK,cxK]
refine⟨_,rfl,a,ns,rfl,hS,λl us H1 s1 n1 h1 r1=>?_⟩
have ok:=tabT (ns:=ns)
have nn1:1≤nT ns:=by unfold nT;lia
have cb:∀i,ctT ns i≤6∧1≤ctT ns i:=λi=>by unfold ctT;lia
have sb:∀i,scT ns i≤4∧1≤scT ns i:=λi=>by unfold scT;lia
generalize nT ns=n at ok r1 nn1
generalize nmT ns=nm at ok r1
generalize ctT ns=ct at ok r1 cb
generalize scT ns=sc at ok r1 sb
have n4:=ok.n4
have u:=ok.u
have lu:=r1.1
have bnd:∀(f:Nat→Nat) (b:Nat),(∀i,f i≤b∧1≤f i)→∀k,fst f k≤k*b∧k≤fst f k:=λf b hf k=>by
 induction k with
 |zero=>exact⟨mI _,mI _⟩
 |succ k ih=>have:=hf k;rw[Nat.succ_mul];show fst f k+f k≤_∧_≤fst f k+f k;lia
have b1:=bnd ct 6 cb n
have b2:=bnd sc 4 sb n
have b3:n*6≤24:=by lia
have b4:n*4≤16:=by lia
intro fa nfa
have s2:Same H1 (upd H1 fa (.dK [])):=Same.upd nfa
have e2:(upd H1 fa (.dK [])) fa=some (.dK []):=qG
generalize upd H1 fa (.dK [])=H2 at s2 e2 ⊢
have lfa:l≠fa:=qF h1 nfa
refine⟨_,rfl,l,rfl,⟨_,SqL.of (s2 _ _ h1)⟩,?_⟩
refine q3W (K:=K) (xs:=us) (λi σ' H3=>(∃y4 y5 y6,σ'=[some (.ref a),some (.ref l),some (.ref fa),some (.int ((fst ct i:Nat):Int)),y4,y5,y6,none,none,none,none,none,none,none,none,none,none,none,none])∧H3 fa=some (.dK (dN i nm λi=>.int ((fst ct i:Nat):Int)))∧∀b o,b≠fa→H2 b=some o→H3 b=some o) ⟨⟨_,_,_,rfl⟩,e2,λb o _ e=>e⟩ (λi σ' H3 hi hp=>SqL.of (hp.2.2 _ _ lfa (s2 _ _ h1))) (λi v σ' H3 D' nxt hv hp=>?_) (λσ' H3 hp=>?_)
·obtain⟨⟨y4,y5,y6,rfl⟩,hf3,up3⟩:=hp;have hi:i<n:=by rw[←lu];exact(hU.mp hv).1
 obtain⟨ra,era,hra⟩:=r1.at hi;rw[hv]at era;cases era;have hra3:=up3 _ _ (qF hra nfa) (s2 _ _ hra);refine⟨ra,_,rfl,SqT.of hra3,rfl,_,_,rfl,_,_,rfl,_,_,rfl,rfl,?_⟩;refine⟨_,rfl,_,rfl,_,rfl,fa,_,rfl,DPut.k (k:=Sum.inr (nm i)) hf3 (by rw[q3X];lia),?_⟩;rw[q86 (u.less (show i+1≤n from hi)),show(dN (i+1) nm λj=>if j=i then V.int ((fst ct i:Nat):Int)else V.int ((fst ct j:Nat):Int))=dN (i+1) nm λj=>.int ((fst ct j:Nat):Int)from q5T λj _=>by split<;>simp_all];refine⟨_,rfl,_,rfl,iI ?_⟩;exact nxt _ _ ⟨⟨_,_,_,rfl⟩,qG,λb o nb e=>by rw[qE nb];exact up3 b o nb e⟩
obtain⟨⟨y4,y5,y6,rfl⟩,hf3,up3⟩:=hp
rw[lu]at hf3 ⊢
have s03:Same H H3:=λb o e=>up3 b o (qF (s1 _ _ e) nfa) (s2 _ _ (s1 _ _ e))
have l3:=up3 _ _ lfa (s2 _ _ h1)
have r3:Rws H3 us n nm ct sc:=r1.tp λb xs e=>up3 _ _ (qF e nfa) (s2 _ _ e)
clear s2 e2 up3
refine⟨_,rfl,_,rfl,a,ns,7,rfl,s03.seq hS,by decide,_,_,rfl,rfl,(by show(0:Int)<3;decide),iI ?_⟩
obtain⟨so,eso,so1,so2⟩:∃so:Nat,((fst ct n:Nat):Int)+yK ns 7%3=(so:Int)∧fst ct n≤so∧so≤26:=⟨(((fst ct n:Nat):Int)+yK ns 7%3).toNat,by lia,by lia,by lia⟩
dsimp only
rw[eso]
refine⟨_,rfl,l,rfl,⟨_,SqL.of l3⟩,λD H4 nD s4 hD=>?_⟩
refine q45 (n:=n) (g:=λi=>.int (sc i:Nat)) (by show(0:Nat)<1;decide) l3 s4 nD hD lu (by lia) (λi hi=>?_) λH5 s5 h5=>?_
·obtain⟨p,e,hp⟩:=r3.at hi;exact⟨p,_,e,hp,rfl⟩
have h5:H5 D=some (.lst (((List.range n).map λi=>((sc i:Nat):Int)).map V.int)):=by rw[h5,dQ];rfl
have s05:=s03.trans s5
refine⟨D,_,rfl,SqL.of h5,_,rfl,a,ns,7,rfl,s05.seq hS,by decide,_,_,rfl,rfl,⟨by show(0:Int)<3;decide,by decide⟩,iI ⟨(by show(0:Int)<3;decide),iI ?_⟩⟩
rw[q3I]
obtain⟨sr,esr,sr1,sr2⟩:∃sr:Nat,((fst sc n:Nat):Int)+yK ns 7 / 3%3=(sr:Int)∧fst sc n≤sr∧sr≤18:=⟨(((fst sc n:Nat):Int)+yK ns 7 / 3%3).toNat,by lia,by lia,by lia⟩
dsimp only
rw[esr]
refine⟨_,rfl,a,ns,8,rfl,s05.seq hS,by decide,_,_,rfl,rfl,(by show(0:Int)<3;decide),iI ?_⟩
obtain⟨bl,ebl,bl1,bl2⟩:∃bl:Nat,4+yK ns 8%3=(bl:Int)∧4≤bl∧bl≤6:=⟨(4+yK ns 8%3).toNat,by lia,by lia,by lia⟩
dsimp only
rw[ebl]
clear h5 hD nD s4
have l5:=s5 _ _ l3
have f5:=s5 _ _ hf3
have r5:=r3.same s5
refine⟨_,rfl,?_⟩
dsimp only[tNil]
refine qJA (bl:=(bl:Int)) (pg:=10) (mo:=1000000) (by lia) (by lia) (by decide) (by decide) (by decide) (by decide) λc ca HA hc sC fC=>?_
refine⟨_,rfl,_,rfl,_,rfl,?_⟩
dsimp only[tNil]
refine qJC (by lia) (by lia) (by decide) (by decide) (by lia) (by lia) (by lia) (by lia) (by decide) (by lia) (by decide) (by decide) λtm td HB sB htm=>?_
have s5B:=sC.trans sB
have hcB:=hc.same sB
have tbB:TbF t HB:=⟨#[],s5B _ _ (s05 _ _ hT),.inl rfl⟩
refine λsA sd nA nsd nn=>?_
have sM:Same HB (upd (upd HB sd (.own sA)) sA (.ins t.C_Plain sd [])):=q39 nA nsd
refine⟨sA,sd,tm,td,c,ca,_,_,_,_,_,bl,10,rfl,qG,sM _ _ htm,hcB.same sM,rfl,rfl,by lia,tbB.same sM,λkb HC st fk up=>⟨rfl,?_⟩⟩
have sBC:Same HB HC:=λb o e=>up b o (qF e nA) (sM b o e)
have s5C:=s5B.trans sBC
have ps:PS t HC ⟨sA,sd,tm,td,c,ca,kb⟩ so ((sr:Nat):Int) (CM.new (bl:Int) 10 1000000 []) (bk0 bl 10) 0 [] false:=PS.new (by lia) (by lia) st (by lia)
intro mi nmi
have s6:Same HC (upd HC mi (.dK [])):=Same.upd nmi
have e6:(upd HC mi (.dK [])) mi=some (.dK []):=qG
generalize upd HC mi (.dK [])=H6 at s6 e6 ⊢
refine⟨_,rfl,_,rfl,?_⟩
intro la nla
have s7:Same H6 (upd H6 la (.dK [])):=Same.upd nla
have e7:(upd H6 la (.dK [])) la=some (.dK []):=qG
generalize upd H6 la (.dK [])=H7 at s7 e7 ⊢
refine⟨_,rfl,_,rfl,?_⟩
refine⟨s7 _ _ e6,dM ⟨mi,l,fa,la⟩ so sr,rfl,by simp[dM],?_⟩
rw[show q0H [] (dM ⟨mi,l,fa,la⟩ so sr)=dM ⟨mi,l,fa,la⟩ so sr from rfl]
have u8:∀x o,x≠mi→H7 x=some o→(upd H7 mi (.dK (dM ⟨mi,l,fa,la⟩ so sr))) x=some o:=λx o n e=>by rw[qE n];exact e
have d8:(upd H7 mi (.dK (dM ⟨mi,l,fa,la⟩ so sr))) mi=some (.dK (dM ⟨mi,l,fa,la⟩ so sr)):=qG
generalize upd H7 mi (.dK (dM ⟨mi,l,fa,la⟩ so sr))=H8 at u8 d8 ⊢
have mila:mi≠la:=qF e6 nla
have sC8:Same HC H8:=λx o e=>u8 x o (qF e nmi) (s7 _ _ (s6 _ _ e))
have la8:=u8 _ _ mila.symm e7
have lC:=s5C _ _ l5
have fC':=s5C _ _ f5
refine⟨_,rfl,l,us,rfl,.inl (SqL.of (sC8 _ _ lC)),λha H9 nha s9 h9=>?_⟩
have sC9:=sC8.trans s9
refine⟨_,rfl,_,rfl,?_⟩
refine λp pd np npd nn'=>?_
dsimp only[tNil,mM,mV]
have rC:=r5.same s5C
have okc:Unl n nm∧((fst ct n:Nat):Int)≤(so:Int)∧((fst sc n:Nat):Int)≤((sr:Nat):Int):=⟨u,by lia,by lia⟩
refine qEE (ps.same sC9) h9 (rC.same sC9) ok okc np npd λfs cs ss HD pt fcs f1 f2 f3 s9D=>⟨rfl,?_⟩
have hD9:=s9D _ _ h9
refine⟨_,rfl,.inl ⟨rfl,_,SqL.of hD9⟩,ha,_,rfl,rfl,hD9,?_⟩
have kE:Keep [ha] HD (upd HD ha (.lst [])):=Keep.upd hD9 (λ_ y=>by cases y) (by simp)
generalize upd HD ha (.lst [])=HE at kE ⊢
have s8D:Same H8 HD:=s9.trans s9D
have n8:∀b o,H8 b=some o→HE b=some o:=λb o e=>kE.k _ _ (λw=>by rw[kF.mp w,nha]at e;cases e) (s8D _ _ e)
have nCE:∀b o,HC b=some o→HE b=some o:=λb o e=>n8 b o (sC8 _ _ e)
have pne:∀b,H9 b=none→b≠ha:=λb e w=>by rw[w,h9]at e;cases e
have ptE:PtAt t HE ⟨p,pd,fs,cs,ss⟩ sA n nm ct sc:=pt.keep kE λb hb w=>by
 have w:=kF.mp w;have hb:b=p∨b=fs∨b=cs∨b=ss:=by simpa[zf]using hb
 rcases hb with h|h|h|h
 ·exact pne b (h▸np) w
 ·exact pne b (h▸f1) w
 ·exact pne b (h▸f2) w
 exact pne b (h▸f3) w
have eX:=ps.st.some'
have noNew:∀b,HC b=none→b∉t.aA::([sA,tm]++(ca.li::sf ⟨sA,sd,tm,td,c,ca,kb⟩)):=λb e w=>by obtain⟨o,e'⟩:=eX b w;rw[e]at e';cases e'
have noOld:∀b o,H5 b=some o→(∀ps,o≠ .tbl ps)→(∀C d fs,o≠ .ins C d fs)→b∉t.aA::([sA,tm]++(ca.li::sf ⟨sA,sd,tm,td,c,ca,kb⟩)):=λb o e nt ni w=>by
 have w:b=t.aA∨b=sA∨b=tm∨b∈ca.li::foot c ca∨b∈bf kb:=by simpa[sf,or_assoc]using w
 rcases w with w|w|w|w|w
 ·rw[w,s05 _ _ hT]at e;exact nt _ (kJ e).symm
 ·have:=s5B _ _ e;rw[w,nA]at this;cases this
 ·have:=s5B _ _ e;rw[w,htm]at this;exact ni _ _ _ (kJ this).symm
 ·rw[fC b w]at e;cases e
 have:=sM _ _ (s5B _ _ e);rw[fk b w]at this;cases this
have psD:=ps.same (sC8.trans s8D)
have psE:PS t HE ⟨sA,sd,tm,td,c,ca,kb⟩ so ((sr:Nat):Int) (CM.new (bl:Int) 10 1000000 []) (bk0 bl 10) 0 [] false:=by
 have nl:∀b,b∈t.aA::([sA,tm]++(ca.li::sf ⟨sA,sd,tm,td,c,ca,kb⟩))→b∉[ha]:=λb hb w=>by obtain⟨o,e⟩:=eX b hb;rw[kF.mp w]at e;rw[sC8 _ _ e]at nha;cases nha
 have tb:TbF t HE:=by
  obtain⟨qs,hT',h⟩:=psD.st.tb;refine⟨qs,kE.k _ _ (nl _ (by simp)) hT',?_⟩;rcases h with h|⟨c,h,hc⟩
  ·exact .inl h
  refine .inr ⟨c,h,kE.k _ _ (λw=>?_) hc⟩;rw[kF.mp w,hD9]at hc;cases hc
 exact psD.mv (psD.st.keep kE (λb hb=>nl b (kD _ hb)) tb) (λb xs e=>kE.tp _ _ e)
have laC:HC la=none:=s6.free nla
have H9C:∀{b},H9 b=none→HC b=none:=fun {b} e=>sC9.free e
have old:∀{b},b=p∨b=fs∨b=cs∨b=ss→H9 b=none:=fun {b} h=>by rcases h with rfl|rfl|rfl|rfl<;>assumption
have j0:J t HE ⟨sA,sd,tm,td,c,ca,kb⟩ so sr (CM.new (bl:Int) 10 1000000 []) (bk0 bl 10) 0 [] ⟨p,pd,fs,cs,ss⟩ ⟨mi,l,fa,la⟩ us n nm ct sc:=by
 refine⟨psE,ptE,n8 _ _ d8,nCE _ _ fC',n8 _ _ la8,nCE _ _ lC,(rC.tp λb xs e=>nCE _ _ e),ok,nn1,so1,λhb=>?_,λb hb=>?_⟩
 ·have hb:la=mi∨la=fa∨la=l∨la=p∨la=fs∨la=cs∨la=ss:=by simpa[own]using hb
  rcases hb with h|h|h|h
  ·exact mila h.symm
  ·rw[h,fC']at laC;cases laC
  ·rw[h,lC]at laC;cases laC
  have:=old h;rw[s9 _ _ la8]at this;cases this
 have hb:b=la∨b=mi∨b=fa∨b=l∨b=p∨b=fs∨b=cs∨b=ss:=by simpa[own]using hb
 rcases hb with rfl|rfl|rfl|rfl|h
 ·exact noNew _ laC
 ·exact noNew _ nmi
 ·exact noOld _ _ f5 (λ_ z=>by cases z) (λ_ _ _ z=>by cases z)
 ·exact noOld _ _ l5 (λ_ z=>by cases z) (λ_ _ _ z=>by cases z)
 exact noNew _ (H9C (old h))
have fr0:∀b∈t.aA::la::sf ⟨sA,sd,tm,td,c,ca,kb⟩,b=t.aA∨H b=none:=λb hb=>by
 rcases kL.mp hb with h|h
 ·exact .inl h
 refine .inr ?_;cases w:H b with
 |none=>rfl
 |some o=>
  exfalso;have w5:=s05 _ _ w;rcases kL.mp h with h|h
  ·rw[←h,s5C _ _ w5]at laC;cases laC
  have h:b∈foot c ca∨b∈bf kb:=by simpa[sf]using h
  rcases h with h|h
  ·rw[fC b (kD _ h)]at w5;cases w5
  have:=sM _ _ (s5B _ _ w5);rw[fk b h]at this;cases this
have rt0:RT t H HE:=RT.of λb o e=>nCE _ _ (s5C _ _ (s05 _ _ e))
clear n8 nCE pne noNew noOld old H9C eX kE s8D d8 la8 u8 e6 e7 s6 s7 fk up st sM hcB hc fC psD psE ptE pt
have z0:(0:Int)<(us.length:Int):=by lia
refine⟨_,rfl,9,rfl,39,rfl,a,_,rfl,rt0.sq hT hS,λcu ncu=>?_⟩
have si:Same HE (upd HE cu (.lst (cutV (ns.map V.int) (some 9) (some 39)))):=Same.upd ncu
have pi:(upd HE cu (.lst (cutV (ns.map V.int) (some 9) (some 39)))) cu=some (.lst (cutV (ns.map V.int) (some 9) (some 39))):=qG
generalize upd HE cu (.lst (cutV (ns.map V.int) (some 9) (some 39)))=HF at si pi ⊢
have lc:=qIE (xs:=ns.map V.int)
have cuF:cu∉t.aA::la::sf ⟨sA,sd,tm,td,c,ca,kb⟩:=λw=>by
 have:∃o,HE cu=some o:=by
  rcases kL.mp w with h|h
  ·exact j0.ps.st.some' cu (by simp[h])
  rcases kL.mp h with h|h
  ·rw[h];exact⟨_,j0.l⟩
  exact j0.ps.st.some' cu (by simp[h])
 obtain⟨o,e⟩:=this;rw[ncu]at e;cases e
refine⟨cu,rfl,⟨_,SqL.of pi⟩,?_⟩
refine q3W (K:=K) (xs:=cutV (ns.map V.int) (some 9) (some 39)) (λi σ' H4=>(∃y14 y15,σ'=[some (.ref a),some (.ref l),some (.ref fa),some (.int ((fst ct n:Nat):Int)),y4,y5,y6,some (.int (so:Int)),some (.int (sr:Int)),some (.int (bl:Int)),some (.ref sA),some (.ref mi),some (.ref ha),some (.ref p),y14,y15,none,none,none])∧H4 cu=some (.lst (cutV (ns.map V.int) (some 9) (some 39)))∧RT t H H4∧∃m q n' W,J t H4 ⟨sA,sd,tm,td,c,ca,kb⟩ so sr m q n' W ⟨p,pd,fs,cs,ss⟩ ⟨mi,l,fa,la⟩ us n nm ct sc∧n'≤i∧q.B=bl∧q.P=10) ⟨⟨_,_,rfl⟩,pi,rt0.same si,_,_,0,[],j0.same si,kB _,rfl,rfl⟩ (λi σ' H4 hi hp=>SqL.of hp.2.1) (λi v σ' H4 D' nxt hv hp=>?_) (λσ' H4 hp=>?_)
·obtain⟨⟨y14,y15,rfl⟩,cu4,rt4,m,q,n',W,j,hn',eB,eP⟩:=hp;obtain⟨ce,rfl⟩:=qFM hv;have il:i<30:=kY (hU.mp hv).1 lc;refine⟨_,rfl,iI ⟨.inr ⟨by decide,by decide⟩,iI ⟨(by show(0:Int)<2147483647;decide),?_⟩⟩⟩;have u0:=gP (ce*48271) (show(2147483647:Int)≠0 by decide);have u1:=gS (ce*48271) (show(0:Int)<2147483647 by decide);dsimp only;generalize ce*48271%2147483647=num at u0 u1 ⊢;refine⟨_,rfl,_,rfl,_,rfl,_,rfl,?_⟩;dsimp only[tNil,mM,mV];refine⟨⟨sA,sd,tm,td,c,ca,kb⟩,so,sr,m,q,n',W,⟨p,pd,fs,cs,ss⟩,⟨mi,l,fa,la⟩,us,n,nm,ct,sc,num,rfl,j,λi=>by have:=cb i;lia,u0,u1,by rw[eB,eP];lia,by lia,by lia,λm' q' n2 W' H5 j5 hn2 eB' eP' k5=>⟨_,rfl,iteF ?_⟩⟩;have ha':=gP (num / 4096) (show(us.length:Int)≠0 by lia);have hb':=gS (num / 4096) z0;obtain⟨i2,ei⟩:=gJ ha';have hi2:i2<n:=by lia
 obtain⟨ra,era,hra⟩:=j5.rw.at hi2;refine⟨_,rfl,_,rfl,_,rfl,_,rfl,_,rfl,iI ⟨⟨by show(0:Int)<4096;decide,by decide⟩,_,rfl,l,_,rfl,.inl (SqL.of j5.ra),iI ⟨z0,iL (k:=_) (v:=.ref ra) (SqL.of j5.ra) (by rw[ei];exact uR era) ?_⟩⟩⟩;dsimp only[tNil,mM,mV];refine⟨⟨sA,sd,tm,td,c,ca,kb⟩,so,sr,m',q',n2,W',⟨p,pd,fs,cs,ss⟩,⟨mi,l,fa,la⟩,us,n,nm,ct,sc,ra,i2,rfl,j5,hi2,by have:=cb i2;lia,hra,λH6 s6=>⟨_,rfl,iteF ?_⟩⟩;exact nxt _ _ ⟨⟨_,_,rfl⟩,s6 _ _ (k5.k _ _ cuF cu4),(rt4.keep k5 fr0).same s6,m',q',n2,W',j5.same s6,by lia,by rw[eB'];exact eB,by rw[eP'];exact eP⟩
obtain⟨⟨y14,y15,rfl⟩,cu4,rt4,m,q,n',W,j,hn',eB,eP⟩:=hp
refine⟨_,rfl,_,rfl,l,us,rfl,.inl (SqL.of j.ra),λl2 H5 nl2 s5' h5'=>?_⟩
refine λp2 pd2 np2 npd2 nn2=>?_
dsimp only[tNil,mM,mV]
have j5:=j.same s5'
refine qEE j5.ps h5' j5.rw ok okc np2 npd2 λfs2 cs2 ss2 H6 pt2 fcs2 g1 g2 g3 s6=>⟨rfl,?_⟩
have j6:=j5.same s6
have j2:J t H6 ⟨sA,sd,tm,td,c,ca,kb⟩ so sr m q n' W ⟨p2,pd2,fs2,cs2,ss2⟩ ⟨mi,l,fa,la⟩ us n nm ct sc:=by
 have nw1:∀b,H5 b=none→b≠la:=λb e w=>by rw[w,j5.l]at e;cases e
 have nw2:∀b,H5 b=none→b∉t.aA::([sA,tm]++(ca.li::sf ⟨sA,sd,tm,td,c,ca,kb⟩)):=λb e w=>by obtain⟨o,e'⟩:=j5.ps.st.some' b w;rw[e]at e';cases e'
 have old:∀{b},b=p2∨b=fs2∨b=cs2∨b=ss2→H5 b=none:=fun {b} h=>by rcases h with rfl|rfl|rfl|rfl<;>assumption
 refine { j6 with pt:=pt2,dl:=λhb=>?_,df:=λb hb=>?_ }
 ·have hb:la=mi∨la=fa∨la=l∨la=p2∨la=fs2∨la=cs2∨la=ss2:=by simpa[own]using hb
  rcases hb with h|h|h|h
  ·exact j.dl (by simp[own,h])
  ·exact j.dl (by simp[own,h])
  ·exact j.dl (by simp[own,h])
  exact nw1 la (old h) rfl
 have hb:b=la∨b=mi∨b=fa∨b=l∨b=p2∨b=fs2∨b=cs2∨b=ss2:=by simpa[own]using hb
 rcases hb with h|h|h|h|h
 ·exact j.df b (by simp[h])
 ·exact j.df b (by simp[own,h])
 ·exact j.df b (by simp[own,h])
 ·exact j.df b (by simp[own,h])
 exact nw2 b (old h)
have rt6:=(rt4.same s5').same s6
clear nl2 h5' s5' s6 np2 npd2 nn2 g1 g2 g3 pt2 fcs2 j5 j cu4 cuF pi si ncu
refine⟨_,rfl,l,rfl,⟨_,SqL.of j6.ra⟩,?_⟩
refine q3W (K:=K) (xs:=us) (λi σ' H7=>(∃y17,σ'=[some (.ref a),some (.ref l),some (.ref fa),some (.int ((fst ct n:Nat):Int)),y4,y5,y6,some (.int (so:Int)),some (.int (sr:Int)),some (.int (bl:Int)),some (.ref sA),some (.ref mi),some (.ref ha),some (.ref p),y14,y15,some (.ref p2),y17,none])∧Same H6 H7) ⟨⟨_,rfl⟩,Same.refl H6⟩ (λi σ' H7 hi hp=>SqL.of (hp.2 _ _ j6.ra)) (λi v σ' H7 D' nxt hv hp=>?_) (λσ' H7 hp=>?_)
·obtain⟨⟨y17,rfl⟩,s7⟩:=hp;have hi:i<n:=by rw[←lu];exact(hU.mp hv).1
 have j7:=j6.same s7;obtain⟨ra,era,hra⟩:=j7.rw.at hi;rw[hv]at era;cases era;have c60:ct i≤60:=by have:=cb i;lia
 refine⟨_,rfl,_,rfl,_,rfl,_,rfl,?_⟩;dsimp only[tNil,mM,mV];refine⟨⟨sA,sd,tm,td,c,ca,kb⟩,so,sr,m,q,n',W,⟨p,pd,fs,cs,ss⟩,⟨mi,l,fa,la⟩,us,n,nm,ct,sc,ra,i,rfl,j7,hi,c60,hra,λH8 s8=>⟨_,rfl,iteF ?_⟩⟩;refine⟨_,rfl,_,rfl,iT (k:=0) (v:=.str (nm i)) (SqT.of (s8 _ _ hra)) rfl ?_⟩;dsimp only[tNil,mM,mV];have j8:=j7.same s8;refine⟨⟨sA,sd,tm,td,c,ca,kb⟩,so,_,m,q,n',W,false,nm i,rfl,j8.ps,by lia,λH9 s9=>⟨_,rfl,iteF ?_⟩⟩;refine⟨_,rfl,_,rfl,_,rfl,_,rfl,?_⟩;dsimp only[tNil,mM,mV];have s79:=s7.trans (s8.trans s9);refine⟨⟨sA,sd,tm,td,c,ca,kb⟩,so,sr,m,q,n',W,⟨p2,pd2,fs2,cs2,ss2⟩,⟨mi,l,fa,la⟩,us,n,nm,ct,sc,ra,i,rfl,j2.same s79,hi,c60,(s8.trans s9) _ _ hra,λH10 s10=>⟨_,rfl,iteF ?_⟩⟩;exact nxt _ _ ⟨⟨_,rfl⟩,s79.trans s10⟩
obtain⟨⟨y17,rfl⟩,s7⟩:=hp
have j7:=j6.same s7
refine(iV rfl (iM j7.pt.o rfl ⟨⟨p,pd,fs,cs,ss⟩,sA,n,nm,ct,sc,rfl,j7.pt,u,n4,λl2 us2 H8 s8 n8 h8 r8=>?_⟩))
refine⟨_,rfl,.ref l2,_,_,.type "list",_,rfl,rfl,.inl (.lst h8),qAA,_,rfl,iteF ?_⟩
refine⟨_,rfl,_,rfl,q9Z h8 (s8 _ _ j7.ra) r8 (j7.rw.same s8),_,rfl,iteF ?_⟩
refine⟨_,rfl,.inl ⟨rfl,_,SqL.of h8⟩,l2,_,rfl,rfl,h8,?_⟩
have s79:Same H7 (upd H8 l2 (.lst [])):=λb o e=>by rw[qE (qF e n8)];exact s8 _ _ e
generalize upd H8 l2 (.lst [])=H9 at s79 ⊢
have j9:=j7.same s79
refine(iV rfl (iM j9.pt.o rfl ⟨⟨p,pd,fs,cs,ss⟩,sA,n,nm,ct,sc,rfl,j9.pt,u,n4,λl3 us3 H10 s10 n10 h10 r10=>?_⟩))
have j10:=j9.same s10
refine⟨_,rfl,q9Z h10 j10.ra r10 j10.rw,_,rfl,iteT ?_⟩
have rt10:=((rt6.same s7).same s79).same s10
refine⟨_,rfl,_,rfl,_,rfl,a,ns,9,rfl,rt10.sq hT hS,by decide,_,rfl,?_⟩
dsimp only[tNil,mM,mV]
refine⟨⟨sA,sd,tm,td,c,ca,kb⟩,so,_,m,q,n',W,false,l,us,n,nm,ct,sc,yK ns 9,rfl,j10.ps,j10.ra,j10.rw,ok,nn1,so1,by lia,λl' us' H11 s11 h11 bd=>?_⟩
exact⟨⟨sA,sd,tm,td,c,ca,kb⟩,so,_,m,q,n',W,false,l',us',rfl,j10.ps.same s11,h11,bd,λH'=>kk H'⟩)
theorem qIG{P:Program}{w:World}{K:W.Frag}{mg:Str→Option Value}{t:Adr}(T:Txt K mg t)(S:Fns K t)(B:BmIn base mg):S.law.Ok0 P w mg base 16 (q3T K [t.aA]):=rR λn=>by
 have hs:hkB hkE:=by unfold hkE;exact Classical.epsilon_spec ⟨⟨P,w,K,mg,t⟩,S,base,T,B,n⟩
 obtain⟨S',b',T',B1,n'⟩:=hs;exact n' (qIF T' S' B1)
end
theorem qIH{l:W.OpenLaw}{w:World}{K:W.Frag}{h:Heap}{mg:Str→Option Value}{fa z0 z1 z2 z3 z4 z5 z6 z7 z8 z9 z10 z11 z12 z13 z14 z15 z16 z17 z18 z19 z20 z21 z22 z23 z24 z25 z26 z27 z28 z29 z30 z31 z32 z33 z34 z35 z36 z37 z38 z39 z40 z41 z42 z43 z44 z45 z46 z47 z48 z49 z50 z51 z52 z53 z54 z55 z56 z57 z58 z59 z60 z61 z62 z63 z64 z65 z66 z67 z68 z69 z70 z71 z72 z73 z74 z75 z76 z77:Addr}(X:K.In h)(G:h.Ns mainGlobals mg)(hfa:mg "law"=some (.ref fa))
 {z78 z79 z90 z91 z102 z103:Option Addr} {z80 z92 z104:Array (Option Value)} {z81 z82 z83 z84 z85 z86 z93 z94 z95 z96 z98 z105 z106 z107 z108 z109 z110:Value} {z87:Option Addr} {z88:Nat} {z89:Array (Option Value)} {e0_Chip_init:Tok} {z111:Option Addr} {z112:Nat} {z113:Array (Option Value)} {e0_Terms_init:Tok} {e1_Terms_init:Tok} {eG:Tok} {xK:Tok} {oH:Tok}
 (z114:W.nsIn K mainGlobals "Parts"=some (some (.ref z69)))
 (z115:Cls K z69)
 (z116:qN K z69 "store")
 (z117:qN K z69 "firsts")
 (z118:qN K z69 "counts")
 (z119:qN K z69 "shares")
 (z120:Meth K z69 "write" z11)
 (z121:Meth K z69 "read" z12)
 (z122:Meth K z69 "held" z13)
 (z123:Meth K z69 "room" z14)
 (z124:Meth K z69 "share_of" z15)
 (z125:Meth K z69 "told" z16)
 (z126:Meth K z69 "place_of" z17)
 (z127:Meth K z69 "check_part" z18)
 (z128:Mk K z69 z10)
 (z129:W.nsIn K mainGlobals "Chip"=some (some (.ref z70)))
 (z130:Cls K z70)
 (z131:qN K z70 "blocks")
 (z132:qN K z70 "pages")
 (z133:qN K z70 "most")
 (z134:qN K z70 "limits")
 (z135:qN K z70 "borne")
 (z136:qN K z70 "clearings")
 (z137:qN K z70 "deed_counts")
 (z138:qN K z70 "broken")
 (z139:qN K z70 "deeds_left")
 (z140:qN K z70 "record")
 (z141:Meth K z70 "put" z21)
 (z142:Meth K z70 "read" z22)
 (z143:Meth K z70 "is_dark" z23)
 (z144:Meth K z70 "cleared" z24)
 (z145:Meth K z70 "failed" z25)
 (z146:Meth K z70 "check_page" z26)
 (z147:Meth K z70 "check_block" z27)
 (z148:Meth K z70 "check_power" z28)
 (z149:Meth K z70 "check_deed" z29)
 (z150:Meth K z70 "is_spent" z30)
 (z151:Meth K z70 "do_deed" z31)
 (z152:Mk K z70 z20)
 (z153:W.nsIn K mainGlobals "Book"=some (some (.ref z71)))
 (z154:Cls K z71)
 (z155:qN K z71 "blocks")
 (z156:qN K z71 "pages")
 (z157:qN K z71 "stamp")
 (z158:qN K z71 "where")
 (z159:qN K z71 "live")
 (z160:qN K z71 "filled")
 (z161:qN K z71 "born")
 (z162:Meth K z71 "mark" z35)
 (z163:Meth K z71 "note" z36)
 (z164:Meth K z71 "forget" z37)
 (z165:Meth K z71 "held" z38)
 (z166:Mk K z71 z34)
 (z167:W.nsIn K mainGlobals "Plain"=some (some (.ref z72)))
 (z168:Cls K z72)
 (z169:qN K z72 "chip")
 (z170:qN K z72 "terms")
 (z171:qN K z72 "book")
 (z172:Meth K z72 "good" z40)
 (z173:Meth K z72 "free" z41)
 (z174:Meth K z72 "part" z42)
 (z175:Meth K z72 "spot" z43)
 (z176:Meth K z72 "reserve" z44)
 (z177:Meth K z72 "ready" z45)
 (z178:Meth K z72 "make_ready" z46)
 (z179:Meth K z72 "set_down" z47)
 (z180:Meth K z72 "lay" z48)
 (z181:Meth K z72 "write" z49)
 (z182:Meth K z72 "give_up" z50)
 (z183:Meth K z72 "read" z51)
 (z184:Meth K z72 "held" z52)
 (z185:Meth K z72 "check_sheet" z53)
 (z186:Meth K z72 "check_share" z54)
 (z187:Mk K z72 z39)
 (z188:W.nsIn K mainGlobals "Terms"=some (some (.ref z73)))
 (z189:Cls K z73)
 (z190:qN K z73 "blocks")
 (z191:qN K z73 "pages")
 (z192:qN K z73 "sheets")
 (z193:qN K z73 "share")
 (z194:qN K z73 "ill")
 (z195:qN K z73 "spread")
 (z196:Meth K z73 "closed" z56)
 (z197:Mk K z73 z55)
 (z198:W.nsIn K mainGlobals "Full"=some (some (.ref z74)))
 (z199:W.excIn K z74 bmVE "ValueError.__new__"=true)
 (z200:W.nsIn K mainGlobals "NoPart"=some (some (.ref z75)))
 (z201:W.excIn K z75 bmVE "ValueError.__new__"=true)
 (z202:W.exmOne K (.ref z74) (.ref z74)=some true)
 (z203:W.exmOne K (.ref z75) (.ref z75)=some true)
 (z204:W.codeHdIn K z0 z1=true)
 (z205:GFn K "is_whole" z2)
 (z206:GFn K "is_within" z3)
 (z207:GFn K "is_shape" z4)
 (z208:GFn K "is_value" z5)
 (z209:GFn K "is_name" z6)
 (z210:GFn K "is_from_one" z7)
 (z211:GFn K "check_told" z8)
 (z212:GFn K "check_row" z9)
 (z213:GFn K "limits_of" z19)
 (z214:GFn K "mark_of" z32)
 (z215:GFn K "bits_of" z33)
 (z216:GFn K "_law_cell_at" z57)
 (z217:GFn K "_law_whole" z58)
 (z218:GFn K "_law_names" z59)
 (z219:GFn K "_law_table" z60)
 (z220:GFn K "_law_refused" z61)
 (z221:GFn K "_law_faulty" z62)
 (z222:GFn K "_law_numbers" z63)
 (z223:GFn K "_law_same" z64)
 (z224:GFn K "_law_tried" z65)
 (z225:GFn K "_law_step" z66)
 (z226:GFn K "_law_nobody" z67)
 (z227:W.nsIn K mainGlobals "MOST_TOLD"=some (some (.int 1000000 eG)))
 (z228:W.nsIn K mainGlobals "ROLL"=some (some (.int 64 xK)))
 (z229:W.nsIn K mainGlobals "NAMES"=some (some (.int 128 oH)))
 (z230:W.nsIn K mainGlobals "all"=some none)
 (z231:W.nsIn K mainGlobals "bool"=some none)
 (z232:W.nsIn K mainGlobals "int"=some none)
 (z233:W.nsIn K mainGlobals "isinstance"=some none)
 (z234:W.nsIn K mainGlobals "len"=some none)
 (z235:W.nsIn K mainGlobals "list"=some none)
 (z236:W.nsIn K mainGlobals "max"=some none)
 (z237:W.nsIn K mainGlobals "min"=some none)
 (z238:W.nsIn K mainGlobals "range"=some none)
 (z239:W.nsIn K mainGlobals "set"=some none)
 (z240:W.nsIn K mainGlobals "sorted"=some none)
 (z241:W.nsIn K mainGlobals "str"=some none)
 (z242:W.nsIn K mainGlobals "sum"=some none)
 (z243:W.nsIn K mainGlobals "tuple"=some none)
 (z244:FnX K "is_whole" "is_whole" q2S z2)
 (z245:FnX K "is_within" "is_within" q1B z3)
 (z246:FnX K "is_shape" "is_shape" q2T z4)
 (z247:FnX K "is_value" "is_value" q2U z5)
 (z248:FnX K "is_name" "is_name" q3Y z6)
 (z249:FnX K "is_from_one" "is_from_one" zZ z7)
 (z250:FnX K "check_told" "check_told" q0L z8)
 (z251:FnX K "check_row" "check_row" q1C z9)
 (z252:FnX K "__init__" "Parts.__init__" q0M z10)
 (z253:FnX K "write" "Parts.write" q00 z11)
 (z254:FnX K "read" "Parts.read" q0N z12)
 (z255:FnX K "held" "Parts.held" q0O z13)
 (z256:FnX K "room" "Parts.room" q0P z14)
 (z257:FnX K "share_of" "Parts.share_of" v6 z15)
 (z258:FnX K "told" "Parts.told" q0Q z16)
 (z259:FnX K "place_of" "Parts.place_of" v7 z17)
 (z260:FnX K "check_part" "Parts.check_part" uH z18)
 (z261:FnX K "limits_of" "limits_of" q1D z19)
 (z262:K.lookup z20=some ⟨z81,z78,.func (W.fnOf "__init__" "Chip.__init__" (yU uM) (yH uM) (qH uM) (.ref z76) z82 z83 z84 z79 z85 z86),z80⟩)
 (z263:W.codeIn K z85 "Chip.__init__"=true)
 (z264:K.lookup z76=some ⟨.type "tuple",z87,.seq #[.int 1000000 e0_Chip_init,.none] z88,z89⟩)
 (z265:FnX K "put" "Chip.put" q2V z21)
 (z266:FnX K "read" "Chip.read" q1E z22)
 (z267:FnX K "is_dark" "Chip.is_dark" zL z23)
 (z268:FnX K "cleared" "Chip.cleared" zM z24)
 (z269:FnX K "failed" "Chip.failed" q01 z25)
 (z270:FnX K "check_page" "Chip.check_page" uU z26)
 (z271:FnX K "check_block" "Chip.check_block" uI z27)
 (z272:FnX K "check_power" "Chip.check_power" uJ z28)
 (z273:FnX K "check_deed" "Chip.check_deed" uV z29)
 (z274:FnX K "is_spent" "Chip.is_spent" vM z30)
 (z275:FnX K "do_deed" "Chip.do_deed" zN z31)
 (z276:FnX K "mark_of" "mark_of" q3Z z32)
 (z277:FnX K "bits_of" "bits_of" q40 z33)
 (z278:FnX K "__init__" "Book.__init__" q1F z34)
 (z279:FnX K "mark" "Book.mark" q1G z35)
 (z280:FnX K "note" "Book.note" q1H z36)
 (z281:FnX K "forget" "Book.forget" q02 z37)
 (z282:FnX K "held" "Book.held" q1I z38)
 (z283:FnX K "__init__" "Plain.__init__" q0R z39)
 (z284:FnX K "good" "Plain.good" q0S z40)
 (z285:K.lookup z41=some ⟨z93,z90,.func (W.fnOf "free" "Plain.free" (yU jZ) (yH jZ) (qH jZ) .none z94 z95 z96 z91 (.ref z0) z98),z92⟩)
 (z286:W.codeIn K (.ref z0) "Plain.free"=true)
 (z287:FnX K "part" "Plain.part" q0T z42)
 (z288:FnX K "spot" "Plain.spot" q0U z43)
 (z289:FnX K "reserve" "Plain.reserve" vO z44)
 (z290:FnX K "ready" "Plain.ready" q03 z45)
 (z291:FnX K "make_ready" "Plain.make_ready" uK z46)
 (z292:FnX K "set_down" "Plain.set_down" v8 z47)
 (z293:FnX K "lay" "Plain.lay" q1J z48)
 (z294:FnX K "write" "Plain.write" q04 z49)
 (z295:FnX K "give_up" "Plain.give_up" vP z50)
 (z296:FnX K "read" "Plain.read" q0V z51)
 (z297:FnX K "held" "Plain.held" q0W z52)
 (z298:FnX K "check_sheet" "Plain.check_sheet" uD z53)
 (z299:FnX K "check_share" "Plain.check_share" uE z54)
 (z300:K.lookup z55=some ⟨z105,z102,.func (W.fnOf "__init__" "Terms.__init__" (yU uA) (yH uA) (qH uA) (.ref z77) z106 z107 z108 z103 z109 z110),z104⟩)
 (z301:W.codeIn K z109 "Terms.__init__"=true)
 (z302:K.lookup z77=some ⟨.type "tuple",z111,.seq #[.int 0 e0_Terms_init,.int 1000000 e1_Terms_init] z112,z113⟩)
 (z303:FnX K "closed" "Terms.closed" zO z56)
 (z304:FnX K "_law_cell_at" "_law_cell_at" q05 z57)
 (z305:FnX K "_law_whole" "_law_whole" q1K z58)
 (z306:FnX K "_law_names" "_law_names" q1L z59)
 (z307:FnX K "_law_table" "_law_table" q1M z60)
 (z308:FnX K "_law_refused" "_law_refused" q06 z61)
 (z309:FnX K "_law_faulty" "_law_faulty" q0X z62)
 (z310:FnX K "_law_numbers" "_law_numbers" q07 z63)
 (z311:FnX K "_law_same" "_law_same" q2W z64)
 (z312:FnX K "_law_tried" "_law_tried" q1N z65)
 (z313:FnX K "_law_step" "_law_step" q2X z66)
 (z314:FnX K "_law_nobody" "_law_nobody" q0Y z67)
 (z315:W.nsIn K mainGlobals "law"=some (some (.ref z68)))
 (z316:FnX K "law" "law" qE3 z68):
 ∃fd:FuncData,(∀(s:Shared) (v:Value),BindsTo s fd ⟨[v],[]⟩ [("_law_script",v)])∧∀base:Heap,K.In base→base.Ns mainGlobals mg→BmIn base mg→FnOk l.prog w K mg base (CX0) 16 fa fd ["_law_script"] (q3T K [z1]):=by(
have e:=hfa.symm.trans (m9 X G z315)
cases e
let t:Adr:=⟨z2,z3,z4,z5,z6,z7,z8,z9,z10,z11,z12,z13,z14,z15,z16,z17,z18,z19,z20,z21,z22,z23,z24,z25,z26,z27,z28,z29,z30,z31,z32,z33,z34,z35,z36,z37,z38,z39,z40,z41,z42,z43,z44,z45,z46,z47,z48,z49,z50,z51,z52,z53,z54,z55,z56,z57,z58,z59,z60,z61,z62,z63,z64,z65,z66,z67,fa,z69,z70,z71,z72,z73,z74,z75,eG,xK,oH,z0,z1⟩
have T:Txt K mg t:=⟨m9 X G z114,z115,z116,z117,z118,z119,z120,z121,z122,z123,z124,z125,z126,z127,z128,m9 X G z129,z130,z131,z132,z133,z134,z135,z136,z137,z138,z139,z140,z141,z142,z143,z144,z145,z146,z147,z148,z149,z150,z151,z152,m9 X G z153,z154,z155,z156,z157,z158,z159,z160,z161,z162,z163,z164,z165,z166,m9 X G z167,z168,z169,z170,z171,z172,z173,z174,z175,z176,z177,z178,z179,z180,z181,z182,z183,z184,z185,z186,z187,m9 X G z188,z189,z190,z191,z192,z193,z194,z195,z196,z197,m9 X G z198,z199,m9 X G z200,z201,z202,z203,z204,m9 X G z205.1,z205.2,m9 X G z206.1,z206.2,m9 X G z207.1,z207.2,m9 X G z208.1,z208.2,m9 X G z209.1,z209.2,m9 X G z210.1,z210.2,m9 X G z211.1,z211.2,m9 X G z212.1,z212.2,m9 X G z213.1,z213.2,m9 X G z214.1,z214.2,m9 X G z215.1,z215.2,m9 X G z216.1,z216.2,m9 X G z217.1,z217.2,m9 X G z218.1,z218.2,m9 X G z219.1,z219.2,m9 X G z220.1,z220.2,m9 X G z221.1,z221.2,m9 X G z222.1,z222.2,m9 X G z223.1,z223.2,m9 X G z224.1,z224.2,m9 X G z225.1,z225.2,m9 X G z226.1,z226.2,m9 X G z227,m9 X G z228,m9 X G z229,gL X G z230,gL X G z231,gL X G z232,gL X G z233,gL X G z234,gL X G z235,gL X G z236,gL X G z237,gL X G z238,gL X G z239,gL X G z240,gL X G z241,gL X G z242,gL X G z243⟩
let S:Fns K t:=⟨fn1 z244,fn1 z245,fn1 z246,fn1 z247,fn1 z248,fn1 z249,fn1 z250,fn1 z251,fn1 z252,fn1 z253,fn1 z254,fn1 z255,fn1 z256,fn1 z257,fn1 z258,fn1 z259,fn1 z260,fn1 z261,_,(.ref z76),FunD.mk' (st:=uM) z262 z263,λs us kin hl=>by rw[lnx (us:=us) (n:=5) (by simpa using hl)];exact dC rfl (kin _ _ z264) rfl rfl rfl,[.none],λs us kin hl=>by rw[lnx (us:=us) (n:=4) (by simpa using hl)];exact dC rfl (kin _ _ z264) rfl rfl rfl,(.cons rfl .nil),[.int 1000000 e0_Chip_init,.none],λs us kin hl=>by rw[lnx (us:=us) (n:=3) (by simpa using hl)];exact dC rfl (kin _ _ z264) rfl rfl rfl,(.cons ⟨_,rfl⟩ (.cons rfl .nil)),fn1 z265,fn1 z266,fn1 z267,fn1 z268,fn1 z269,fn1 z270,fn1 z271,fn1 z272,fn1 z273,fn1 z274,fn1 z275,fn1 z276,fn1 z277,fn1 z278,fn1 z279,fn1 z280,fn1 z281,fn1 z282,fn1 z283,fn1 z284,_,FunT.mk' (st:=jZ) z285 z286,yM.all λus hl=>by rw[lnx hl];rfl,fn1 z287,fn1 z288,fn1 z289,fn1 z290,fn1 z291,fn1 z292,fn1 z293,fn1 z294,fn1 z295,fn1 z296,fn1 z297,fn1 z298,fn1 z299,_,(.ref z77),FunD.mk' (st:=uA) z300 z301,λs us kin hl=>by rw[lnx (us:=us) (n:=7) (by simpa using hl)];exact dC rfl (kin _ _ z302) rfl rfl rfl,[.int 1000000 e1_Terms_init],λs us kin hl=>by rw[lnx (us:=us) (n:=6) (by simpa using hl)];exact dC rfl (kin _ _ z302) rfl rfl rfl,(.cons ⟨_,rfl⟩ .nil),[.int 0 e0_Terms_init,.int 1000000 e1_Terms_init],λs us kin hl=>by rw[lnx (us:=us) (n:=5) (by simpa using hl)];exact dC rfl (kin _ _ z302) rfl rfl rfl,(.cons ⟨_,rfl⟩ (.cons ⟨_,rfl⟩ .nil)),fn1 z303,fn1 z304,fn1 z305,fn1 z306,fn1 z307,fn1 z308,fn1 z309,fn1 z310,fn1 z311,fn1 z312,fn1 z313,fn1 z314,fn1 z316⟩
exact⟨_,FnX.bind1 (by intros;rfl) S.law.F,λbase _ _ bm=>qIG T S bm⟩)
theorem walk{l:W.OpenLaw}{q:Program}{loose:List Str}{XP:(Str→Option Value)→Heap→Prop}{YP:World→Heap→Prop}{d:DefRec}{K:Params→W.Frag}(hn:l.most=some 63)(hdf:d.params.defaults=[])
 (hY:∀(w:World) (h:Heap),YP w h→(K w.params).In h∧∀T∈([568]:List Addr),h.get? T=some (W.tabObj #[])) (hT:∀w:World,∀T∈([568]:List Addr),(K w.params).lookup T=none∧∃c,W.codeHdIn (K w.params) c T=true)
 (F:∀(w:World) (mg:Str→Option Value) (fa:Addr) (h:Heap),(K w.params).In h→h.Ns mainGlobals mg→mg d.name=some (.ref fa)→∃fd:FuncData,(∀(s:Shared) (u:Value),BindsTo s fd ⟨[u],[]⟩ [("_law_script",u)])∧∀base:Heap,(K w.params).In base→base.Ns mainGlobals mg→BmIn base mg→FnOk l.prog w (K w.params) mg base (CX0) 16 fa fd ["_law_script"] (q3T (K w.params) [568])):
 W.WalkO q loose XP YP l.row.toRowW d [] (λf vs=>PySem.call f vs):=L2.qDL (n:=63) (k:=16) (x:="_law_script") (CX:=λ_=>CX0) (sp:=λw=>q3T (K w.params) [568]) [568] hn (by decide) hdf ⟨rfl,by decide,by decide⟩ hY hT F (λ_ _ a ns hl hS hT=>⟨a,ns,rfl,hS,hl,hT,λ_=>rfl⟩) (λ_ _ _ _ _ z=>z)
end W1
namespace PySem.W.Fast
theorem tw9788723139314921324:True:=⟨⟩
theorem tw12138680502656544224:True:=⟨⟩
theorem tw14290174744797346304:True:=⟨⟩
theorem tw13415711748856073888:True:=⟨⟩
theorem tw13923426531246553024:True:=⟨⟩
theorem tw9085169881446574273:True:=⟨⟩
theorem tw14138564004566439074:True:=⟨⟩
theorem tw1551216067256082722:True:=⟨⟩
theorem tw3792359938583981378:True:=⟨⟩
theorem tw6487385326545591842:True:=⟨⟩
theorem tw12936914853726248674:True:=⟨⟩
theorem tw15104450851098424483:True:=⟨⟩
theorem tw9198069795137724099:True:=⟨⟩
theorem tw15614509344583329603:True:=⟨⟩
theorem tw11655045586242141604:True:=⟨⟩
theorem tw15218406076279724709:True:=⟨⟩
theorem tw8691766586951545829:True:=⟨⟩
theorem tw13067019816554205734:True:=⟨⟩
theorem tw3776440556482176936:True:=⟨⟩
theorem tw10577758860841333865:True:=⟨⟩
theorem tw4629263520987463337:True:=⟨⟩
theorem tw9211860105582425993:True:=⟨⟩
theorem tw11716202703700867114:True:=⟨⟩
theorem tw7899517208923378379:True:=⟨⟩
theorem tw5972260960166873164:True:=⟨⟩
theorem tw16946936340924118220:True:=⟨⟩
theorem tw140648871194392428:True:=⟨⟩
theorem tw14262394589965883981:True:=⟨⟩
theorem tw14190817438242739310:True:=⟨⟩
theorem tw7867685787731288111:True:=⟨⟩
theorem tw362819480024184367:True:=⟨⟩
theorem tw10689265077501283633:True:=⟨⟩
theorem tw2416782439378476338:True:=⟨⟩
theorem tw7088914811966072434:True:=⟨⟩
theorem tw11604546852490631026:True:=⟨⟩
theorem tw5420343702039313651:True:=⟨⟩
theorem tw15993585952380734419:True:=⟨⟩
theorem tw3954782632687813876:True:=⟨⟩
theorem tw17608737149532379956:True:=⟨⟩
theorem tw11958279461535593845:True:=⟨⟩
theorem tw9086655055547962773:True:=⟨⟩
theorem tw2593719660454944406:True:=⟨⟩
theorem tw11285819651740621782:True:=⟨⟩
theorem tw9759373465436499000:True:=⟨⟩
theorem tw17694259081858412728:True:=⟨⟩
theorem tw10691831215249804696:True:=⟨⟩
theorem tw18091526927649394392:True:=⟨⟩
theorem tw7944847382011279192:True:=⟨⟩
theorem tw3259321404899962778:True:=⟨⟩
theorem tw12169296333422198459:True:=⟨⟩
theorem tw14131438532453407483:True:=⟨⟩
theorem tw12929290800425719134:True:=⟨⟩
theorem tw9794399903161304181:True:=⟨⟩
theorem tw11037931957491264237:True:=⟨⟩
theorem tw459564908330873989:True:=⟨⟩
theorem tw7600223095589332928:True:=⟨⟩
theorem tw1557514491150356383:True:=⟨⟩
theorem tw7407061301500134410:True:=⟨⟩
theorem tw1918785542566513860:True:=⟨⟩
theorem tw7171679898714787827:True:=⟨⟩
theorem tw7457274321675582909:True:=⟨⟩
theorem tw4521211542090481760:True:=⟨⟩
theorem tw14002386511739255904:True:=⟨⟩
theorem tw4921644466858241809:True:=⟨⟩
theorem tw14956408624030528747:True:=⟨⟩
theorem tw2532662422808415785:True:=⟨⟩
theorem tw12202972139709555016:True:=⟨⟩
theorem tw4792821456446339902:True:=⟨⟩
theorem tw7603621928768988391:True:=⟨⟩
theorem tw6511641949801781530:True:=⟨⟩
theorem tw12833536842475529876:True:=⟨⟩
theorem tw6471512245499087228:True:=⟨⟩
theorem tw15760203703612196685:True:=⟨⟩
theorem tw15192803906336596012:True:=⟨⟩
theorem tw10752741576236986944:True:=⟨⟩
theorem tw9926160322172641487:True:=⟨⟩
theorem tw6772315973852294286:True:=⟨⟩
theorem tw1688594078464455676:True:=⟨⟩
theorem tw7029110595560981410:True:=⟨⟩
theorem tw6025423092394764442:True:=⟨⟩
theorem tw9148672777973133712:True:=⟨⟩
theorem tw5606288426448311612:True:=⟨⟩
theorem tw17491447110224726811:True:=⟨⟩
theorem tw5239471818847648500:True:=⟨⟩
theorem tw10928454853306324728:True:=⟨⟩
theorem tw1135885013439938984:True:=⟨⟩
theorem tw10651961479721811493:True:=⟨⟩
theorem tw11023561928523381022:True:=⟨⟩
theorem tw1686748128068778893:True:=⟨⟩
theorem tw5316042375772154710:True:=⟨⟩
theorem tw9345879042651514697:True:=⟨⟩
theorem tw9971767762974358602:True:=⟨⟩
theorem tw13131724166493738062:True:=⟨⟩
theorem tw8807243589704265727:True:=⟨⟩
theorem tw3993138620743335259:True:=⟨⟩
theorem tw9977385519368737662:True:=⟨⟩
theorem tw17721037366950442677:True:=⟨⟩
theorem tw15148236782352434406:True:=⟨⟩
theorem tw12666896891243465439:True:=⟨⟩
theorem tw967754131903773869:True:=⟨⟩
theorem tw9372090410698694208:True:=⟨⟩
theorem tw1576954549941363186:True:=⟨⟩
theorem tw18171834609981953038:True:=⟨⟩
theorem tw3743720596371416582:True:=⟨⟩
theorem tw8013278834956259036:True:=⟨⟩
theorem tw15383639194748109459:True:=⟨⟩
theorem tw14145642916919406138:True:=⟨⟩
theorem tw14095206911691793157:True:=⟨⟩
theorem tw18044233652562538092:True:=⟨⟩
theorem tw6052180416474004291:True:=⟨⟩
theorem tw3236071736469180083:True:=⟨⟩
theorem tw13066102557409609998:True:=⟨⟩
theorem tw11713224016370490966:True:=⟨⟩
theorem tw13821910133925816849:True:=⟨⟩
theorem tw11432650643983264992:True:=⟨⟩
theorem tw6232555801080009256:True:=⟨⟩
theorem tw863928247393119247:True:=⟨⟩
theorem tw9709880334369027467:True:=⟨⟩
theorem tw13306435049085511776:True:=⟨⟩
theorem tw13959271490857114057:True:=⟨⟩
theorem tw9047682666354217713:True:=⟨⟩
theorem tw9554561831474523366:True:=⟨⟩
theorem tw8389658373124452767:True:=⟨⟩
theorem tw12451803132725328699:True:=⟨⟩
theorem tw13820102852187058475:True:=⟨⟩
theorem tw14665305337074264331:True:=⟨⟩
theorem tw15999656723915576707:True:=⟨⟩
theorem tw3315171902371441884:True:=⟨⟩
theorem tw654836943816533913:True:=⟨⟩
theorem tw5554077787808560438:True:=⟨⟩
theorem tw12919878858399498846:True:=⟨⟩
theorem tw1049585453815832501:True:=⟨⟩
theorem tw13786524417897921110:True:=⟨⟩
theorem tw17239660128582425117:True:=⟨⟩
theorem tw9618976048736349908:True:=⟨⟩
theorem tw12005590604777066845:True:=⟨⟩
theorem tw12541759470776914558:True:=⟨⟩
theorem tw18144560271091756342:True:=⟨⟩
theorem tw11454424869685482395:True:=⟨⟩
theorem tw17153758909476434514:True:=⟨⟩
theorem tw8075812597220167751:True:=⟨⟩
theorem tw13676670949986248889:True:=⟨⟩
theorem tw9666189145119282688:True:=⟨⟩
theorem tw18040469252403516564:True:=⟨⟩
theorem tw12620367991806353065:True:=⟨⟩
theorem tw12161910600002859192:True:=⟨⟩
theorem tw15584082491890951048:True:=⟨⟩
theorem tw7501703748745833699:True:=⟨⟩
theorem tw8455821492850760596:True:=⟨⟩
theorem tw8784237488610748149:True:=⟨⟩
theorem tw2274222090013008362:True:=⟨⟩
theorem tw14794889433884704338:True:=⟨⟩
theorem tw7769489819038382165:True:=⟨⟩
theorem tw16308610297694524272:True:=⟨⟩
theorem tw1195969906594491080:True:=⟨⟩
theorem tw14059261752129623539:True:=⟨⟩
theorem tw581633375478757338:True:=⟨⟩
theorem tw13820302343195453481:True:=⟨⟩
theorem tw15700261091067107173:True:=⟨⟩
theorem tw1019440711554288884:True:=⟨⟩
theorem tw2870237418074747714:True:=⟨⟩
theorem tw12643327711439187128:True:=⟨⟩
theorem tw7308064857175347362:True:=⟨⟩
theorem tw5876590185103180943:True:=⟨⟩
theorem tw12654144802850756134:True:=⟨⟩
theorem tw1724082337090526666:True:=⟨⟩
theorem tw10048582443354568707:True:=⟨⟩
theorem tw28295862537829495:True:=⟨⟩
theorem tw15033989658486391813:True:=⟨⟩
theorem tw14923196442651102140:True:=⟨⟩
theorem tw1192909026409745218:True:=⟨⟩
theorem tw2101986656989531548:True:=⟨⟩
theorem tw10743941759189660939:True:=⟨⟩
theorem tw10208582512924004157:True:=⟨⟩
theorem tw9976367295622125170:True:=⟨⟩
theorem tw12394524217099849973:True:=⟨⟩
theorem tw13442955015606505996:True:=⟨⟩
theorem tw5202272748373185947:True:=⟨⟩
theorem tw2547105489023432533:True:=⟨⟩
theorem tw1116128677379766435:True:=⟨⟩
theorem tw1059575260752442379:True:=⟨⟩
theorem tw1326967724838444505:True:=⟨⟩
theorem tw15762606670331197495:True:=⟨⟩
theorem tw8533941604993229695:True:=⟨⟩
theorem tw16650263081238605807:True:=⟨⟩
theorem tw4330782657556980045:True:=⟨⟩
theorem tw6325594080767087422:True:=⟨⟩
theorem tw9318276438815917536:True:=⟨⟩
theorem tw9688372708933301825:True:=⟨⟩
theorem tw13373113413225539348:True:=⟨⟩
theorem tw3198379411025606035:True:=⟨⟩
theorem tw5429153342319309848:True:=⟨⟩
theorem tw15847608833917205929:True:=⟨⟩
theorem tw3301819514027095441:True:=⟨⟩
theorem tw16122814309653468241:True:=⟨⟩
theorem tw16891334201931143419:True:=⟨⟩
theorem tw17663445651823844660:True:=⟨⟩
theorem tw2653789630585911098:True:=⟨⟩
theorem tw15233443608947190270:True:=⟨⟩
theorem tw17098015722844876396:True:=⟨⟩
theorem tw16979883232689364522:True:=⟨⟩
theorem tw7732670510901747202:True:=⟨⟩
theorem tw14574897115284597257:True:=⟨⟩
theorem tw7135810008827178452:True:=⟨⟩
theorem tw3912254311089931803:True:=⟨⟩
theorem tw16796143225298873233:True:=⟨⟩
theorem tw17440973867991613703:True:=⟨⟩
theorem tw11085724134500865839:True:=⟨⟩
theorem tw16689938969900701401:True:=⟨⟩
theorem tw12044593633901056240:True:=⟨⟩
theorem tw9701232852672834116:True:=⟨⟩
theorem tw8434059502903793298:True:=⟨⟩
theorem tw14172862273410103716:True:=⟨⟩
theorem tw5886413825092449879:True:=⟨⟩
theorem tw4971380471294766740:True:=⟨⟩
theorem tw8932386903306365372:True:=⟨⟩
theorem tw3485273166478726469:True:=⟨⟩
theorem tw4243649477988078035:True:=⟨⟩
theorem tw8349598351127894805:True:=⟨⟩
theorem tw5764711926750122642:True:=⟨⟩
theorem tw1873137837892457979:True:=⟨⟩
theorem tw15296759564797359866:True:=⟨⟩
theorem tw1713701536892365684:True:=⟨⟩
theorem tw1993520892781430218:True:=⟨⟩
theorem tw15416600911623408367:True:=⟨⟩
theorem tw1661762559132956052:True:=⟨⟩
theorem tw8664252047180162670:True:=⟨⟩
theorem tw7914587962919017496:True:=⟨⟩
theorem tw12744945837689017053:True:=⟨⟩
theorem tw8601323912586246151:True:=⟨⟩
theorem tw2680180859157635558:True:=⟨⟩
theorem tw2262216141896390787:True:=⟨⟩
theorem tw2973968586207781795:True:=⟨⟩
theorem tw1697174925539942752:True:=⟨⟩
theorem tw15564603692647524760:True:=⟨⟩
theorem tw910670932703728002:True:=⟨⟩
theorem tw2181264927480226763:True:=⟨⟩
theorem tw17996395634226532823:True:=⟨⟩
theorem tw11996946127269873690:True:=⟨⟩
theorem tw1956691730960104661:True:=⟨⟩
theorem tw11664443553436961248:True:=⟨⟩
theorem tw5383282982976613977:True:=⟨⟩
theorem tw1635667324261158890:True:=⟨⟩
theorem tw13496942551246977625:True:=⟨⟩
theorem tw9802509875878331732:True:=⟨⟩
theorem tw4103947567241546059:True:=⟨⟩
theorem tw3117265587087810543:True:=⟨⟩
theorem tw3081686510274134154:True:=⟨⟩
theorem tw1380093480680374158:True:=⟨⟩
theorem tw9961668992654161717:True:=⟨⟩
theorem tw8383004011082205554:True:=⟨⟩
theorem tw7710275193145497416:True:=⟨⟩
theorem tw6066499017947604427:True:=⟨⟩
theorem tw5790634816245699352:True:=⟨⟩
theorem tw2507377543657470265:True:=⟨⟩
theorem tw15836938415918011072:True:=⟨⟩
theorem tw14268377967200375301:True:=⟨⟩
theorem tw13841918001425092443:True:=⟨⟩
theorem tw12779709412212088783:True:=⟨⟩
theorem tw17579550408866316426:True:=⟨⟩
theorem tw1655330895553323352:True:=⟨⟩
theorem tw5803964961776738571:True:=⟨⟩
theorem tw13075791077720133706:True:=⟨⟩
theorem tw18303062445921819120:True:=⟨⟩
theorem tw11117800883268217148:True:=⟨⟩
theorem tw17587455962831732095:True:=⟨⟩
theorem tw7829467534379032211:True:=⟨⟩
theorem tw6204215206855035212:True:=⟨⟩
theorem tw321658424277884956:True:=⟨⟩
theorem tw17537373865329510666:True:=⟨⟩
theorem tw16138233520632455069:True:=⟨⟩
theorem tw7273411570868661903:True:=⟨⟩
theorem tw2668279291813328057:True:=⟨⟩
theorem tw10651825451067090787:True:=⟨⟩
theorem tw10577173778385411406:True:=⟨⟩
theorem tw8402312719668751108:True:=⟨⟩
theorem tw2231043741806016324:True:=⟨⟩
theorem tw923344606972008532:True:=⟨⟩
theorem tw16891083969878343354:True:=⟨⟩
theorem tw8163738424589654956:True:=⟨⟩
theorem tw17620779097301267244:True:=⟨⟩
theorem tw8632716666122117633:True:=⟨⟩
theorem tw803123140768676537:True:=⟨⟩
theorem tw15109965756865923615:True:=⟨⟩
theorem tw2492743272040061226:True:=⟨⟩
theorem tw8240601392408573673:True:=⟨⟩
theorem tw7579009081391016277:True:=⟨⟩
theorem tw4938738971002990491:True:=⟨⟩
theorem tw12487180887374570395:True:=⟨⟩
theorem tw17870001504603418807:True:=⟨⟩
theorem tw9376695235301548147:True:=⟨⟩
theorem tw15362973427776246339:True:=⟨⟩
theorem tw12296122732109758794:True:=⟨⟩
theorem tw4884877122465684409:True:=⟨⟩
theorem tw12235719258594815601:True:=⟨⟩
theorem tw10173340924499044159:True:=⟨⟩
theorem tw643880629957078204:True:=⟨⟩
theorem tw1522880869056573168:True:=⟨⟩
theorem tw14722175304934343298:True:=⟨⟩
theorem tw16176121635168715279:True:=⟨⟩
theorem tw5397828450379170786:True:=⟨⟩
theorem tw16059875750538724279:True:=⟨⟩
theorem tw1574786021199938237:True:=⟨⟩
theorem tw18396941568300046388:True:=⟨⟩
theorem tw13967719802265377474:True:=⟨⟩
theorem tw4123132152428232873:True:=⟨⟩
theorem tw15645950921874780981:True:=⟨⟩
theorem tw6541196992482885830:True:=⟨⟩
theorem tw9364336772639363581:True:=⟨⟩
theorem tw9325703254357442540:True:=⟨⟩
theorem tw5886798810157548915:True:=⟨⟩
theorem tw2237001152910746111:True:=⟨⟩
theorem tw17296284548697625650:True:=⟨⟩
theorem tw17176830754792240426:True:=⟨⟩
theorem tw12292617829808342969:True:=⟨⟩
theorem tw3526304439683718459:True:=⟨⟩
theorem tw17200399948816110781:True:=⟨⟩
theorem tw10794247968414399322:True:=⟨⟩
theorem tw2980469041472796140:True:=⟨⟩
theorem tw11419608450830527324:True:=⟨⟩
theorem tw2968593662839025977:True:=⟨⟩
theorem tw10613292968114228582:True:=⟨⟩
theorem tw13790867411822887130:True:=⟨⟩
theorem tw3550005999201128719:True:=⟨⟩
theorem tw8122942160375913975:True:=⟨⟩
theorem tw7853356604255533577:True:=⟨⟩
theorem tw3568148220702117461:True:=⟨⟩
theorem tw1317706484173597015:True:=⟨⟩
theorem tw6320881480171627860:True:=⟨⟩
theorem tw9527435540638093342:True:=⟨⟩
theorem tw8330632449069554185:True:=⟨⟩
theorem tw4675121618693633608:True:=⟨⟩
theorem tw17862830869478002161:True:=⟨⟩
theorem tw10945432541668170486:True:=⟨⟩
theorem tw11934543924644823541:True:=⟨⟩
theorem tw8897192316679819919:True:=⟨⟩
theorem tw7618558037737580641:True:=⟨⟩
theorem tw6739459765728778121:True:=⟨⟩
theorem tw244006401715981750:True:=⟨⟩
theorem tw11449640229278617860:True:=⟨⟩
theorem tw10434387136498683818:True:=⟨⟩
theorem tw1799860929039394878:True:=⟨⟩
theorem tw15757674954664097247:True:=⟨⟩
theorem tw14044357567862158823:True:=⟨⟩
theorem tw8038255203272718855:True:=⟨⟩
theorem tw7113956514662108325:True:=⟨⟩
theorem tw9111949213626792844:True:=⟨⟩
theorem tw6184983168977091046:True:=⟨⟩
theorem tw125016725542759203:True:=⟨⟩
theorem tw11991446107281319706:True:=⟨⟩
theorem tw9323956910526104385:True:=⟨⟩
theorem tw15102343941244687102:True:=⟨⟩
theorem tw10417152875555016760:True:=⟨⟩
theorem tw6331838723063358269:True:=⟨⟩
theorem tw5753581106490267939:True:=⟨⟩
theorem tw2433671525505173960:True:=⟨⟩
theorem tw4959134111379741842:True:=⟨⟩
theorem tw18189616941018738691:True:=⟨⟩
theorem tw12831621983717437352:True:=⟨⟩
theorem tw8980793629306772179:True:=⟨⟩
theorem tw8239375289510238233:True:=⟨⟩
theorem tw7473427520019304859:True:=⟨⟩
theorem tw5643656094106069924:True:=⟨⟩
theorem tw18096704071198644738:True:=⟨⟩
theorem tw17114659547968776702:True:=⟨⟩
theorem tw15626540834267101554:True:=⟨⟩
theorem tw13044390492319266334:True:=⟨⟩
theorem tw12734982776589234757:True:=⟨⟩
theorem tw3956541410162224529:True:=⟨⟩
theorem tw6371205225181384697:True:=⟨⟩
theorem tw16749467701973631761:True:=⟨⟩
theorem tw7514085384752752939:True:=⟨⟩
theorem tw6591454195318614957:True:=⟨⟩
theorem tw4281276047330113215:True:=⟨⟩
theorem tw3734236942383184213:True:=⟨⟩
theorem tw3030795212618980201:True:=⟨⟩
theorem tw2569253948473139548:True:=⟨⟩
theorem tw1975654845931755000:True:=⟨⟩
theorem tw17244201121265075904:True:=⟨⟩
theorem tw16387214927775175262:True:=⟨⟩
theorem tw14866684233725906646:True:=⟨⟩
theorem tw14682225559465994633:True:=⟨⟩
theorem tw1416429875781084652:True:=⟨⟩
theorem tw13769325258826239138:True:=⟨⟩
theorem tw13098787850498808466:True:=⟨⟩
theorem tw12027152946023830369:True:=⟨⟩
theorem tw10679379315319376884:True:=⟨⟩
theorem tw8662243139249151225:True:=⟨⟩
theorem tw9761995647448223766:True:=⟨⟩
theorem tw14061148063674466478:True:=⟨⟩
theorem tw18000730541958871704:True:=⟨⟩
theorem tw9989426435942809713:True:=⟨⟩
theorem tw639434783301303321:True:=⟨⟩
theorem tw9540356843635080105:True:=⟨⟩
theorem tw8823109866942500249:True:=⟨⟩
theorem tw7621673565203317627:True:=⟨⟩
theorem tw7541103582070208347:True:=⟨⟩
theorem tw6723862945603157933:True:=⟨⟩
theorem tw6607593820102667204:True:=⟨⟩
theorem tw4449143700305241124:True:=⟨⟩
theorem tw3894634277441793200:True:=⟨⟩
theorem tw2130751679147462235:True:=⟨⟩
theorem tw16650026988360743508:True:=⟨⟩
theorem tw13925203676516812759:True:=⟨⟩
theorem tw2826251471667887108:True:=⟨⟩
theorem tw8912249978463765790:True:=⟨⟩
theorem tw471870506499648183:True:=⟨⟩
theorem tw6660892936533259904:True:=⟨⟩
theorem tw6314534321457197980:True:=⟨⟩
theorem tw5718766728918724254:True:=⟨⟩
theorem tw5295484572516940417:True:=⟨⟩
theorem tw3238293204881951772:True:=⟨⟩
theorem tw2683019982898671078:True:=⟨⟩
theorem tw2388091245516282710:True:=⟨⟩
theorem tw2341101185261221642:True:=⟨⟩
theorem tw15655221568550805350:True:=⟨⟩
theorem tw15284709121090949613:True:=⟨⟩
theorem tw13977661238640343448:True:=⟨⟩
theorem tw13974852199631821862:True:=⟨⟩
theorem tw12714683794282810089:True:=⟨⟩
theorem tw11686335476868250953:True:=⟨⟩
theorem tw11239688806378015578:True:=⟨⟩
theorem tw10701452602641845442:True:=⟨⟩
theorem tw10336797502807604026:True:=⟨⟩
theorem tw8739847604153175828:True:=⟨⟩
theorem tw7625496211557056919:True:=⟨⟩
theorem tw3806668986367171697:True:=⟨⟩
theorem tw947365866167731014:True:=⟨⟩
theorem tw9361544944211543695:True:=⟨⟩
theorem tw9292082548424298329:True:=⟨⟩
theorem tw6893822261306288774:True:=⟨⟩
theorem tw4361729431217181932:True:=⟨⟩
theorem tw1970400803337926216:True:=⟨⟩
theorem tw17852784349648082000:True:=⟨⟩
theorem tw16617240945133476544:True:=⟨⟩
theorem tw14457945684378509763:True:=⟨⟩
theorem tw13388195437435051766:True:=⟨⟩
theorem tw13306151772749073583:True:=⟨⟩
theorem tw6597972321451180447:True:=⟨⟩
theorem tw15231357366441633852:True:=⟨⟩
theorem tw1422611156420417175:True:=⟨⟩
theorem tw11499791295055308122:True:=⟨⟩
theorem tw783529481444037740:True:=⟨⟩
theorem tw3725915725090354892:True:=⟨⟩
theorem tw15108622405678623107:True:=⟨⟩
theorem tw9667987880055568782:True:=⟨⟩
theorem tw8495627950363355463:True:=⟨⟩
theorem tw6595549389410842688:True:=⟨⟩
theorem tw6231132121745491722:True:=⟨⟩
theorem tw3356660702006748037:True:=⟨⟩
theorem tw2043156339493744276:True:=⟨⟩
theorem tw15774374089150006116:True:=⟨⟩
theorem tw15519975949569058539:True:=⟨⟩
theorem tw8296581443688196347:True:=⟨⟩
theorem tw7687491547363667341:True:=⟨⟩
theorem tw7221038689376043355:True:=⟨⟩
theorem tw6982815550581152334:True:=⟨⟩
theorem tw6620399089999744775:True:=⟨⟩
theorem tw16992525565128230275:True:=⟨⟩
theorem tw16952880022202819088:True:=⟨⟩
theorem tw14371861145657088136:True:=⟨⟩
theorem tw13763582175877661111:True:=⟨⟩
theorem tw1200926184783969564:True:=⟨⟩
theorem tw11204310219857990366:True:=⟨⟩
theorem tw3074032358551701383:True:=⟨⟩
theorem tw6423619867460054112:True:=⟨⟩
theorem tw4619966359561659627:True:=⟨⟩
theorem tw13550056954247614322:True:=⟨⟩
theorem tw9466958193963173029:True:=⟨⟩
theorem tw16896692596062457892:True:=⟨⟩
theorem tw15267064748610520736:True:=⟨⟩
theorem tw224154223551616567:True:=⟨⟩
theorem tw12742432119642899390:True:=⟨⟩
theorem tw17875573623361788698:True:=⟨⟩
theorem tw489448942974663530:True:=⟨⟩
theorem tw3655858567784142777:True:=⟨⟩
theorem tw3546755850667793358:True:=⟨⟩
theorem tw16403152105275627979:True:=⟨⟩
theorem tw15211817934652597978:True:=⟨⟩
theorem tw14568117154702839403:True:=⟨⟩
theorem tw14303662221594570703:True:=⟨⟩
theorem tw6863621639348943613:True:=⟨⟩
theorem tw5798280567421612309:True:=⟨⟩
theorem tw4632377024270294197:True:=⟨⟩
theorem tw4020289091838111136:True:=⟨⟩
theorem tw2428668066790149221:True:=⟨⟩
theorem tw2178127759269188103:True:=⟨⟩
theorem tw17272699653212661713:True:=⟨⟩
theorem tw16574294793259511702:True:=⟨⟩
theorem tw15099837778885669343:True:=⟨⟩
theorem tw1508590826828968201:True:=⟨⟩
theorem tw14214190822153907996:True:=⟨⟩
theorem tw10593846670966984692:True:=⟨⟩
theorem tw10320336365525541463:True:=⟨⟩
theorem tw6668983628634668425:True:=⟨⟩
theorem tw435505195823723:True:=⟨⟩
theorem tw16641682062740669219:True:=⟨⟩
theorem tw16247052450746054047:True:=⟨⟩
theorem tw13561950301538795522:True:=⟨⟩
theorem tw17811113741236625710:True:=⟨⟩
theorem tw9572439264799917510:True:=⟨⟩
theorem tw8716312574044298389:True:=⟨⟩
theorem tw8327168597534290211:True:=⟨⟩
theorem tw7629393405113007786:True:=⟨⟩
theorem tw6321890306411649568:True:=⟨⟩
theorem tw6170982635269247278:True:=⟨⟩
theorem tw5084690017981014602:True:=⟨⟩
theorem tw5025739486972059072:True:=⟨⟩
theorem tw1715197699335347385:True:=⟨⟩
theorem tw15870701347544795148:True:=⟨⟩
theorem tw15115226650077285549:True:=⟨⟩
theorem tw13732500920994049191:True:=⟨⟩
theorem tw11462879577329518122:True:=⟨⟩
theorem tw11191475627255228144:True:=⟨⟩
theorem tw10489391663084563908:True:=⟨⟩
theorem tw7729041912623014938:True:=⟨⟩
theorem tw7368854986685994016:True:=⟨⟩
theorem tw4036996393609482081:True:=⟨⟩
theorem tw18307309190986244193:True:=⟨⟩
theorem tw1674283430553051805:True:=⟨⟩
theorem tw13255615904748221805:True:=⟨⟩
end PySem.W.Fast
open PySem PySem.W PyProof.Rows
set_option maxRecDepth 100000 in
theorem PySem.Challenge.cw_wornpages_k81_where_parts_lie_holds : PySem.Challenge.rw_wornpages_k81_where_parts_lie.Holds := by
 (
w_on;o_law;k_head;(case hw=>w_witness2)
k_fill
refine W1.walk (l:=PySem.Challenge.rw_wornpages_k81_where_parts_lie) rfl rfl (λw h Y=>⟨W.km_in_of Y,W.km_tabs_of Y⟩) (?T) ?F
case T=>
 intro w T hT;have hT:T=568:=by simpa using hT
 subst hT;exact⟨by kernel_rfl,570,by kernel_rfl⟩
case F=>
 intro w mg fa h KX G hmg;refine' W1.qIH (z1:=568) (z0:=570) KX G hmg ?_ ?_ ?_ ?_ ?_ ?_ ?_ ?_ ?_ ?_ ?_ ?_ ?_ ?_ ?_ ?_ ?_ ?_ ?_ ?_ ?_ ?_ ?_ ?_ ?_ ?_ ?_ ?_ ?_ ?_ ?_ ?_ ?_ ?_ ?_ ?_ ?_ ?_ ?_ ?_ ?_ ?_ ?_ ?_ ?_ ?_ ?_ ?_ ?_ ?_ ?_ ?_ ?_ ?_ ?_ ?_ ?_ ?_ ?_ ?_ ?_ ?_ ?_ ?_ ?_ ?_ ?_ ?_ ?_ ?_ ?_ ?_ ?_ ?_ ?_ ?_ ?_ ?_ ?_ ?_ ?_ ?_ ?_ ?_ ?_ ?_ ?_ ?_ ?_ ?_ ?_ ?_ ?_ ?_ ?_ ?_ ?_ ?_ ?_ ?_ ?_ ?_ ?_ ?_ ?_ ?_ ?_ ?_ ?_ ?_ ?_ ?_ ?_ ?_ ?_ ?_ ?_ ?_ ?_ ?_ ?_ ?_ ?_ ?_ ?_ ?_ ?_ ?_ ?_ ?_ ?_ ?_ ?_ ?_ ?_ ?_ ?_ ?_ ?_ ?_ ?_ ?_ ?_ ?_ ?_ ?_ ?_ ?_ ?_ ?_ ?_ ?_ ?_ ?_ ?_ ?_ ?_ ?_ ?_ ?_ ?_ ?_ ?_ ?_ ?_ ?_ ?_ ?_ ?_ ?_ ?_ ?_ ?_ ?_ ?_ ?_ ?_ ?_ ?_ ?_ ?_ ?_ ?_ ?_ ?_ ?_ ?_ ?_ ?_ ?_ ?_ ?_ ?_ ?_ ?_ ?_ ?_ ?_ ?_ ?_ ?_ ?_ ?_
 any_goals first|k_is|(refine' L2.FnX.of ?fa ?fb;(case fa=>k_is);(case fb=>k_is))|((first|apply And.intro|apply L2.Meth.mk|apply L2.Mk.mk|apply L2.Cls.mk|apply L2.XAt.mk|apply L2.BIni.mk|apply L2.ClM.mk|apply L2.XRd.mk)<;>first|k_is|kernel_rfl)|(show W.findIn _ _ _=_;k_is)
 all_goals first|k_exc|kts_exm|kit_is|kernel_rfl|decide)
