import PyProof.Rows.All
import Wide.All
import OpenK.AllK
import Wide.FinOn
import Lean
import PyProof.EqAt
import PyProof.EqKinds
import PyProof.TupleCall
import PyProof.StationsW
import PyProof.NsDelKeeps
import PyProof.PassesOwn
import PyProof.ZipIter
import PyProof.NeKinds
import PyProof.CompFree
import OpenK.KMake
import PyProof.EnumFor
import PyProof.EnumMake
import PyProof.EnumStmt
import KE.KDictList
import PyProof.ConsumeWalk
import PyProof.WalkInts
import PyProof.WalksMore
import PyProof.SumAny
import PyProof.Rows.MinMaxN
import PyProof.Rows.SortWalk
import PyProof.ListRange
import KE.KTupSum
import PyProof.FitsBits
import PyProof.CompUse
import KE.KLam
import KE.KNestM
import PyProof.DictWalks
import PyProof.DictItems
import KE.KSortTup
import KE.KItemsList
import KE.KEqDict
import PyProof.MinMaxWalk
import PyProof.SeqI3
import KE.KDictSum
import PyProof.ExcClass3
import PyProof.Rows.SetFrom
import KE.KRangeStep
import PyProof.StrWalks
import PyProof.FString5
import Wide.Seal
import PySem.Challenge.RW_wornpages_k84_shares_shifted
set_option Elab.async false
set_option linter.all false
set_option maxRecDepth 100000
set_option maxHeartbeats 0
noncomputable abbrev hG:=@decide_eq_false
noncomputable abbrev hI:=@decide_eq_true
noncomputable abbrev kI:=@if_neg
noncomputable abbrev kJ:=@if_pos
noncomputable abbrev k9:=@decide_eq_true_eq
noncomputable abbrev gL:=@of_decide_eq_true
noncomputable abbrev g9:=@beq_eq_false_iff_ne
noncomputable abbrev dS:=@congrArg
noncomputable abbrev d4:=@beq_iff_eq
noncomputable abbrev wM:=@decide_eq_decide
noncomputable abbrev wQ:=@or_false
open PySem.Heap renaming get?_push_of_some→hU, lt_size→kM, get?_push_size→kY, get?_update_other→mG, get?_update_self→rH, size_push→rL, get?_none_of_le→wN, size_update→nG
open List renaming length_map→hV, getElem?_eq_getElem→hX, mem_cons_of_mem→hZ, mem_singleton→kC, getElem?_eq_some_iff→kD, mem_append_right→kN, getD_eq_getElem?_getD→kO, size_toArray→kQ, mem_cons→kR, mem_cons_self→kU, mem_range→kW, mem_map→mB, getElem?_map→mC, mem_append_left→mD, map_append→mE, length_range→mL, map_cons→mM, mem_append→mO, length_append→mP, length_cons→mQ, length_replicate→mT, cons_append→mV, nodup_append→mW, nodup_cons→m6, length_set→m7, nil_append→m8, take_append_getElem→m9, length_filter_le→gD, mem_of_getElem?→gH, mem_filter→gM, range_succ→gN, not_mem_nil→gQ, all_eq_true→gR, getElem?_append_right→gT, replicate_succ→gU, filter_cons→gW, lookup_cons→gX, map_map→gZ, getElem?_replicate→g0, find?_cons→g8, map_congr_left→dA, getElem?_range→dB, length_take→dE, getElem_map→dF, take_length→dG, getElem_range→dJ, getElem?_eq_none→dL, getElem?_append_left→dP, pairwise_iff_getElem→dQ, getElem?_set_ne→dR, filterMap_cons→dY, any_eq_true→dZ, find?_eq_none→d9, filter_append→rB, any_cons→rG, flatten_cons→rJ, nodup_nil→rP, ext_getElem→rQ, mem_filterMap→rW, pairwise_cons→rZ, map_replicate→r6, getElem?_set_self→wB, pairwise_map→wF, length_singleton→wH, getElem_mem→wL, of_mem_zip→wT, mem_of_find?_eq_some→cJ, filter_congr→cP, getElem?_cons_succ→cW, map_nil→c7, foldl_cons→pB, length_nil→pC, sum_append→pF, countP_mono_left→pJ, getElem_of_mem→p6, filter_sublist→p8, filter_eq_self→p9, toList_toArray→sD, append_assoc→sT, find?_append→sZ, countP_cons→nE, append_nil→nK, forIn_cons→nN, find?_some→nP, all_cons→lM, map_set→lQ, all_map→lR
open PySem renaming wpAny_bind→kG, wpAny_pure→kX, boot_len→mR, mem_of_lookup→mU, wpAny_truthy_bool→gE, wpAny_mono→gJ, sizeLine_eq→gK, wpAny_holding→gY, wpAny_Call_Name_kw→dH, codeAny_mono→dU, tupleKind_room_in1→d8, wpAny_passesOwn→rV, wpAny_call→rX, wpAny_AugAssign_SubscriptAny→wS, wpAny_newFunctionEnv_cells→cF, wpAny_pyIter_list→cL, wpAny_field→cO, wpAny_standAt→cS, seqIndex_neg→cZ, wpAny_getItem_list_neg→c6, call_meetsIn→c8, wpAny_execs_nil→pA, codeAny_builtin→pE, wpAny_isTrue_Compare1→pG, codeAny_call_function→pH, wpAny_loadName_local→pL, seqIndex_of→pN, wpAny_setField→pO, codeAny_call_builtin→pP, wpAny_newFunctionEnv→pQ, wpAny_loadName_cell→pT, wpAny_handleBy_cons→pZ, wpAny_attempt→sF, wpAny_assign_Name→sO, slot_list_getitem→sS, wpAny_Call_method→sU, wpAny_newObj_type→sV, wpAny_Name→nR, typeIs_int→nV, call_meets→nX
open Nat renaming le_refl→kH, lt_of_lt_of_le→kZ, ne_of_lt→mF, le_trans→mI, zero_le→mJ, lt_succ_self→gO, lt_irrefl→gS, le_succ→dW, ne_of_gt→d0, lt_succ_of_lt→rK, mul_le_mul_right→rO, mul_comm→wD, div_lt_of_lt_mul→wR, le_of_lt→wY, le_of_eq→cA, lt_of_le_of_lt→cG, not_lt→cH, lt_or_gt_of_ne→cI, add_mul→cQ, one_mul→cR
open Bool renaming false_ne_true→kL, and_eq_true→mH, eq_iff_iff→rD, or_eq_true→rE, not_eq_true'→wE, true_and→cT, false_and→nS, or_false→lL, false_or→lN
open Option.some renaming inj→kP
open PySem.W renaming mg_of→mS, kia_one→mZ, mg_none_of→gF, callWith_K→d6, cellsFrom_some→wC, methodCall_KW→wG, any_some→wJ, looks_findIn→wO, plainGet_of→wX, codeRec_of→sK, kitx_list→sQ, kitx_dict→sR, codeHd_of_K→nJ
open Option renaming map_eq_some_iff→mY, isSome_iff_exists→rS, bind_some→wK, isSome_map→cN, getD_none→nB, map_some→nO, map_none→nQ
open PySem.F renaming slot_list_append→gA, type_list_append→gB, plainAttrs_list→gG, called_set→rA, slot_dict_itemiterator_iter→rT, plainAttrs_dict→r9, slot_dict_get→wI, args_dict_get_2→cV, slot_dict_items→cX, entry_dict_get→c9, slot_dict_pop→pI, slot_int_rmul→nL
open Array renaming length_toList→gC, getElem?_eq_some_iff→rM, getD_eq_getD_getElem?→cB, getElem?_toList→pK, append_assoc→sJ
open PySem.PassesOwn renaming never→gI
open Int renaming eq_ofNat_of_zero_le→gP, toNat_natCast→g7, zero_add→dX, emod_lt_of_pos→rC, emod_nonneg→rF, le_refl→rN, toNat_of_nonneg→rR, natCast_add→wV, natCast_mul→wW, le_of_lt→cC, le_trans→sX, natCast_ediv→nH, mul_nonneg→nY, ofNat_sub→lO
open PySem.BindsTo renaming of_defaults→dC
open Ne renaming symm→dD
open PySem.Obj renaming isFreed_of_fields→dO, data_mapFields→rY
open PySem.Calls renaming callWith_builtin→d7, evalArgs_plain→wP, Name_function_global→cD, spliced_cons→cE, spliced_nil→cM
open PyProof.Rows.F renaming plain_set_update_loop→wA, entry_set_update_loop→cY
open PySem.SeqAt.EqAt renaming same→wU, none_int→pU, none_str→pV, int_none→pW, str_none→pX, int_str→sG, str_int→sI, of_refs→sL
open PyProof.Rows renaming callWith_type1→wZ, listUpdate_at→cU, subscriptTail_builtinR→c5, get?_update_seq→pD, getElem?_mirror_all→p7, Subscript_→nU
open Sum.inl renaming inj→cK
open PySem.Around renaming frames_deeper→pM, under_plainId→pR
open PySem.Value renaming isStrOf_shape→pS, isInt_shape→sN
open PySem.Paired renaming length→sE
open List.Pairwise renaming map→sY
open PySem.SeqAt renaming eq_listAt→nM
open PySem.Walks renaming list→nZ
open List.Perm renaming refl→lA
open PySem.EqMixed renaming eq_bool_str→lB, eq_str_bool→lC, ne_bool_str→lE, ne_str_bool→lF, eq_int_str→lG, eq_str_int→lI, ne_int_str→lJ, ne_str_int→lK
open Prod.mk renaming injEq→lP, inj→lU
open Sum.inr renaming inj→lT
open PySem.W.Looks renaming here→lW, ld→lZ
open PySem.Heap.IsSliceOf renaming new→lY
set_option genSizeOf false
namespace L2
open PySem PySem.Spec PyProof.Rows
noncomputable abbrev Key:=Sum Int Str
noncomputable def q29:Key→Value→Bool
| .inl k,v=>Value.isInt k v
| .inr x,v=>Value.isStrOf x v
noncomputable def keyH(w:World):Key→Int
| .inl k=>hashInt k
| .inr x=>hashStr w x
theorem jM:∀{k:Key} {v:Value},q29 k v=true→(∃i t,k=Sum.inl i∧v=Value.int i t)∨(∃x t,k=Sum.inr x∧v=Value.str x t)
| .inl i,v,h=>by obtain⟨t,e⟩:=sN (k:=i) (v:=v) h;exact .inl ⟨i,t,rfl,e⟩
| .inr x,v,h=>by obtain⟨t,e⟩:=pS (x:=x) (v:=v) h;exact .inr ⟨x,t,rfl,e⟩
theorem q61(i:Int)(t:Tok):q29 (.inl i) (.int i t)=true:=by simp[q29,Value.isInt]
theorem q62(x:Str)(t:Tok):q29 (.inr x) (.str x t)=true:=by simp[q29,Value.isStrOf]
theorem qEX(a b:Int):decide ((Sum.inl a:Key)=Sum.inl b)=(a==b):=by(
by_cases e:a=b
·subst e;simp
have h:¬(Sum.inl a:Key)=Sum.inl b:=λq=>e (cK q)
rw[hG h]
exact(g9.mpr e).symm)
theorem qEY(a b:Str):decide ((Sum.inr a:Key)=Sum.inr b)=decide (a=b):=by(
by_cases e:a=b
·subst e;simp
have h:¬(Sum.inr a:Key)=Sum.inr b:=λq=>e (lT q)
rw[hG h,hG e])
theorem qEZ(a:Int)(b:Str):decide ((Sum.inl a:Key)=Sum.inr b)=false:=hG (λq=>nomatch q)
theorem qF0(a:Str)(b:Int):decide ((Sum.inr a:Key)=Sum.inl b)=false:=hG (λq=>nomatch q)
noncomputable def qX(prog:Program)(w:World):PySem.KeyKind prog w Key where
is:=q29
hash:=keyH w
inj:=λv a b ha hb=>by
 rcases jM ha with⟨i,t,rfl,rfl⟩|⟨x,t,rfl,rfl⟩
 ·rcases jM hb with⟨j,u,rfl,e⟩|⟨y,u,rfl,e⟩
  ·injection e with e1 _;rw[e1]
  exact nomatch e
 rcases jM hb with⟨j,u,rfl,e⟩|⟨y,u,rfl,e⟩
 ·exact nomatch e
 injection e with e1 _;rw[e1]
byValue:=λk v h=>by rcases jM h with⟨i,t,rfl,rfl⟩|⟨x,t,rfl,rfl⟩<;>rfl
pyHash:=λhv h=>by
 rcases jM hv with⟨i,t,rfl,rfl⟩|⟨x,t,rfl,rfl⟩
 ·exact wpAny_pyHash_int h
 exact wpAny_pyHash_str h
eqBool:=λhu hv h=>by
 rcases jM hu with⟨i,t,rfl,rfl⟩|⟨x,t,rfl,rfl⟩
 ·rcases jM hv with⟨j,u,rfl,rfl⟩|⟨y,u,rfl,rfl⟩
  ·rw[qEX]at h;exact wpAny_eqBool_int h
  rw[qEZ]at h;exact sG i t y u _ _ _ _ h
 rcases jM hv with⟨j,u,rfl,rfl⟩|⟨y,u,rfl,rfl⟩
 ·rw[qF0]at h;exact sI x t j u _ _ _ _ h
 rw[qEY]at h;exact wpAny_eqBool_str h
«strs»:=λk x t v h=>by
 rcases jM h with⟨i,u,rfl,e⟩|⟨y,u,rfl,e⟩
 ·exact nomatch e
 injection e with e1 _
 subst e1;cases v<;>rfl
theorem q7X(prog:Program)(w:World)(i:Int)(t:Tok):(qX prog w).is (.inl i) (.int i t)=true:=q61 i t
theorem q7Y(prog:Program)(w:World)(x:Str)(t:Tok):(qX prog w).is (.inr x) (.str x t)=true:=q62 x t
inductive V where
|non|bl (b:Bool)|int (i:Int)|str (x:Str)|byt (b:Array UInt8)|flt (b:UInt64)|ref (a:Addr)|ty (n:String)
deriving DecidableEq
noncomputable def RelV:V→Value→Prop
| .non,u=>u=Value.none
| .bl b,u=>u=Value.bool b
| .int i,u=>∃t,u=Value.int i t
| .str x,u=>∃t,u=Value.str x t
| .byt b,u=>∃t,u=Value.bytes b t
| .flt b,u=>∃t,u=Value.float b t
| .ref a,u=>u=Value.ref a
| .ty n,u=>u=Value.type n
noncomputable abbrev Vals:List V→List Value→Prop:=Paired RelV
theorem Vals.length{xs:List V}{us:List Value}(r:Vals xs us):xs.length=us.length:=sE r
theorem Vals.get:∀{xs:List V} {us:List Value} {i:Nat} {x:V},Vals xs us→xs[i]?=some x→∃u,us[i]?=some u∧RelV x u
|_,_,_,_,.nil,e=>by simp at e
|_,_,0,_,.cons r _,e=>by simp at e;subst e;exact⟨_,rfl,r⟩
|_,_,i+1,x,.cons _ t,e=>by obtain⟨u,h1,h2⟩:=Vals.get (i:=i) (x:=x) t (by simpa using e);exact⟨u,by simpa using h1,h2⟩
theorem Vals.set{x:V}{u:Value}(r:RelV x u):∀{xs:List V} {us:List Value} (i:Nat),Vals xs us→Vals (xs.set i x) (us.set i u)
|_,_,_,.nil=>.nil
|_,_,0,.cons _ t=>.cons r t
|_,_,i+1,.cons q t=>.cons q (Vals.set r i t)
theorem Vals.append:∀{xs ys:List V} {us ws:List Value},Vals xs us→Vals ys ws→Vals (xs++ys) (us++ws)
|_,_,_,_,.nil,s=>s
|_,_,_,_,.cons r t,s=>.cons r (Vals.append t s)
theorem Vals.take:∀{xs:List V} {us:List Value} (n:Nat),Vals xs us→Vals (xs.take n) (us.take n)
|_,_,0,_=>.nil
|_,_,_ +1,.nil=>.nil
|_,_,n+1,.cons r t=>.cons r (Vals.take n t)
theorem Vals.drop:∀{xs:List V} {us:List Value} (n:Nat),Vals xs us→Vals (xs.drop n) (us.drop n)
|_,_,0,r=>r
|_,_,_ +1,.nil=>.nil
|_,_,n+1,.cons _ t=>Vals.drop n t
noncomputable def RelO:Option V→Option Value→Prop
|some v,some u=>RelV v u
|none,none=>True
|_,_=>False
noncomputable def KV{κ:Type}:List (κ×V)→List (κ×Value)→Prop:=Paired λ(p:κ×V) (q:κ×Value)=>p.1=q.1∧RelV p.2 q.2
noncomputable def kV:Key→V
| .inl i=>.int i
| .inr x=>.str x
inductive HO where
|lst (xs:List V)
|tup (xs:List V)
|dK (kvs:List (Key×V))|dT (kvs:List (List Key×V))
|set (S:Int→Bool) (n:Nat)
|ins (C dx:Addr) (fs:List (Str×V))
|own (x:Addr)
|xd (fs:List (Str×V))
|met (f x:Addr)
|rng (lo hi:Int)
|frz (o:Obj) (u:HO)
|tbl (ps:Array Value)
|ext (φ:Heap→Prop)
noncomputable abbrev Hp:=Addr→Option HO
noncomputable def upd(H:Hp)(a:Addr)(o:HO):Hp:=λb=>if b=a then some o else H b
theorem qH{H:Hp}{a:Addr}{o:HO}:upd H a o a=some o:=by unfold upd;rw[kJ rfl]
theorem qC{H:Hp}{a b:Addr}{o:HO}(h:b≠a):upd H a o b=H b:=by unfold upd;rw[kI h]
theorem q6T{H:Hp}{a:Addr}{o u:HO}:upd (upd H a o) a u=upd H a u:=by funext b;unfold upd;split<;>rfl
theorem jK{H:Hp}{a b:Addr}{o u:HO}(h:H a=some o)(h':H b=some u)(d:o≠u):a≠b:=by intro e;subst e;rw[h]at h';exact d (kP h')
theorem qF{H:Hp}{a b:Addr}{o:HO}(h:H a=some o)(h':H b=none):a≠b:=by intro e;subst e;rw[h]at h';cases h'
section
variable(P:Program)(w:World)
noncomputable def jP(H:Hp)(h:Heap)(a:Addr):HO→Prop
| .lst xs=>xs.length≤sizeLine∧∃(its:List Value) (n:Nat),Vals xs its∧h.get? a=some { cls:=.type "list",data:=.seq its.toArray n }
| .tup xs=>xs.length≤sizeLine∧∃its:List Value,Vals xs its∧IsTup h a its.toArray
| .dK kvs=>kvs.length≤sizeLine∧(a==sysModules)=false∧∃vs,KV kvs vs∧h.DictOf (qX P w) a vs
| .dT kvs=>kvs.length≤sizeLine∧(a==sysModules)=false∧∃xs:List (List Key×Addr×Value),Paired (λ(p:List Key×V) (q:List Key×Addr×Value)=>p.1=q.1∧H q.2.1=some (.tup (p.1.map kV))∧RelV p.2 q.2.2) kvs xs∧∃o es ep,h.get? a=some o∧o.ExactDict∧o.data=.dict es ep∧es.toList=xs.map (entryOfKey (tupleKind (qX P w)))∧(xs.map (·.1)).Nodup
| .set S n=>h.SetOf (intKind P w) a S n
| .ins C dx fs=>H dx=some (.own a)∧fs.length≤1000∧dx≠a∧h.get? a=some (PySem.W.instObj C dx)∧∃mA,h.Ns1 dx mA∧(∀f,RelO (fs.lookup f) (mA f))∧PySem.Within mA (fs.map (·.1))
| .own _=>∃o,h.get? a=some o
| .xd fs=>∃mA,h.Ns1 a mA∧∀f,RelO (fs.lookup f) (mA f)
| .rng lo hi=>∃t u v,h.get? a=some { cls:=.type "range",data:=.fields #[.int lo t,.int hi u,.int 1 v] }
| .frz o u=>h.get? a=some o∧jP H h a u
| .tbl ps=>h.get? a=some { cls:=.none,data:=.fields ps }
| .met f x=>h.get? a=some (PySem.W.methodObj (.ref f) (.ref x))
| .ext φ=>φ h∧(∃o,h.get? a=some o)∧∀h1 h2:Heap,φ h1→(∀o,h1.get? a=some o→h2.get? a=some o)→φ h2
noncomputable def HOk(H:Hp)(h:Heap):Prop:=∀a o,H a=some o→jP P w H h a o
end
section
variable{P:Program}{w:World}{H H':Hp}{h h':Heap}{a:Addr}{o:HO}
theorem jP.lt(x:jP P w H h a o):a<h.objs.size:=by(
cases o with
|lst xs=>obtain⟨_,_,_,_,e⟩:=x;exact kM e
|tup xs=>obtain⟨_,_,_,p⟩:=x;exact p.lt
|dK kvs=>obtain⟨_,_,_,_,o,_,_,e,_⟩:=x;exact kM e
|dT kvs=>obtain⟨_,_,_,_,o,_,_,e,_⟩:=x;exact kM e
|set S n=>obtain⟨o,_,_,_,e,_⟩:=x;exact kM e
|ins C dx fs=>obtain⟨_,_,_,e,_⟩:=x;exact kM e
|own y=>obtain⟨_,e⟩:=x;exact kM e
|xd fs=>obtain⟨_,⟨_,_,_,e,_⟩,_⟩:=x;exact kM e
|rng lo hi=>obtain⟨_,_,_,e⟩:=x;exact kM e
|frz ob u=>obtain⟨e,_⟩:=x;exact kM e
|tbl ps=>exact kM (show h.get? a=some _ from x)
|met f y=>exact kM (show h.get? a=some _ from x)
|ext φ=>obtain⟨_,⟨_,e⟩,_⟩:=x;exact kM e)
theorem Paired.mapP{α β:Type}{F G:α→β→Prop}:∀{l₁:List α} {l₂:List β},Paired F l₁ l₂→(∀a b,F a b→G a b)→Paired G l₁ l₂
|_,_,.nil,_=>.nil
|_,_,.cons r t,f=>.cons (f _ _ r) (Paired.mapP t f)
theorem jP.stay(x:jP P w H h a o)(k:∀b u,(b=a∨H b=some (.own a))→h.get? b=some u→h'.get? b=some u)
 (ho:∀b,H b=some (.own a)→H' b=some (.own a)) (ht:∀b xs,H b=some (.tup xs)→H' b=some (.tup xs)):jP P w H' h' a o:=by(
induction o with
|lst xs=>obtain⟨z,its,n,r,e⟩:=x;exact⟨z,its,n,r,k _ _ (.inl rfl) e⟩
|tup xs=>obtain⟨z,its,r,ob,e,c⟩:=x;exact⟨z,its,r,ob,k _ _ (.inl rfl) e,c⟩
|dK kvs=>obtain⟨z,y,vs,r,ob,es,ep,e,c⟩:=x;exact⟨z,y,vs,r,ob,es,ep,k _ _ (.inl rfl) e,c⟩
|dT kvs=>obtain⟨z,y,xs,r,ob,es,ep,e,c⟩:=x;exact⟨z,y,xs,Paired.mapP r λp q z=>⟨z.1,ht _ _ z.2.1,z.2.2⟩,ob,es,ep,k _ _ (.inl rfl) e,c⟩
|set S n=>obtain⟨ob,es,ep,t,e,c⟩:=x;exact⟨ob,es,ep,t,k _ _ (.inl rfl) e,c⟩
|ins C dx fs=>obtain⟨d,z,ne,e,mA,⟨od,es,ep,e2,c⟩,r⟩:=x;exact⟨ho _ d,z,ne,k _ _ (.inl rfl) e,mA,⟨od,es,ep,k _ _ (.inr d) e2,c⟩,r⟩
|own y=>obtain⟨ob,e⟩:=x;exact⟨ob,k _ _ (.inl rfl) e⟩
|xd fs=>obtain⟨mA,⟨od,es,ep,e,c⟩,r⟩:=x;exact⟨mA,⟨od,es,ep,k _ _ (.inl rfl) e,c⟩,r⟩
|rng lo hi=>obtain⟨t,u,v,e⟩:=x;exact⟨t,u,v,k _ _ (.inl rfl) e⟩
|frz ob u ih=>obtain⟨e,q⟩:=x;exact⟨k _ _ (.inl rfl) e,ih q⟩
|tbl ps=>have e:h.get? a=some { cls:=.none,data:=.fields ps }:=x;show h'.get? a=some { cls:=.none,data:=.fields ps };exact k a _ (.inl rfl) e
|met f y=>have e:h.get? a=some (PySem.W.methodObj (.ref f) (.ref y)):=x;show h'.get? a=some (PySem.W.methodObj (.ref f) (.ref y));exact k a _ (.inl rfl) e
|ext φ=>obtain⟨p,⟨o,e⟩,st⟩:=x;exact⟨st _ _ p λo q=>k _ _ (.inl rfl) q,⟨o,k _ _ (.inl rfl) e⟩,st⟩)
theorem HOk.lt(x:HOk P w H h)(e:H a=some o):a<h.objs.size:=(x a o e).lt
theorem HOk.fresh(x:HOk P w H h)(e:h.objs.size≤a):H a=none:=by(
cases q:H a with
|none=>rfl
|some u=>exact absurd (kZ (x.lt q) e) (gS _))
theorem HOk.kept(x:HOk P w H h)(k:∀b u,h.get? b=some u→h'.get? b=some u):HOk P w H h':=λa o e=>(x a o e).stay (λb u _ q=>k b u q) (λ_ q=>q) λ_ _ q=>q
theorem HOk.laid(x:HOk P w H h)(k:∀b u,h.get? b=some u→h'.get? b=some u)(hp:h.objs.size≤a)(new:jP P w (upd H a o) h' a o):HOk P w (upd H a o) h':=λb u e=>by(
have hn:=x.fresh hp
by_cases hb:b=a
·subst hb;rw[qH]at e;cases e;exact new
rw[qC hb]at e
exact(x b u e).stay (λc v _ q=>k c v q) (λc q=>by rw[qC (qF q hn)];exact q) λc xs q=>by rw[qC (qF q hn)];exact q)
end
noncomputable def Rd(H:Hp)(a:Addr)(u:HO):Prop:=H a=some u∨∃o,H a=some (.frz o u)
theorem Rd.ok{P:Program}{w:World}{H:Hp}{h:Heap}{a:Addr}{u:HO}(r:Rd H a u)(x:HOk P w H h):jP P w H h a u:=by(
rcases r with r|⟨o,r⟩
·exact x a u r
obtain⟨_,q⟩:=x a _ r
exact q)
noncomputable def Mut:Option HO→Prop
|some (.lst _)=>True
|some (.dK _)=>True
|some (.dT _)=>True
|some (.set _ _)=>True
|some (.ins _ _ _)=>True
|some (.ext _)=>True
|_=>False
section
variable{P:Program}{w:World}{H:Hp}{h h':Heap}{x e:Addr}{o':HO}
theorem HOk.write(ok:HOk P w H h)(mu:Mut (H x))(he:e=x∨H e=some (.own x))(k:∀b u,b≠e→h.get? b=some u→h'.get? b=some u)(heo:∃u,h'.get? e=some u)
 (new:jP P w (upd H x o') h' x o'):HOk P w (upd H x o') h':=λb u q=>by(
have nown:∀c y,H c=some (.own y)→c≠x:=λc y r z=>by subst z;rw[r]at mu;exact mu
have ntup:∀c xs,H c=some (.tup xs)→c≠x:=λc xs r z=>by subst z;rw[r]at mu;exact mu
by_cases hb:b=x
·subst hb;rw[qH]at q;cases q;exact new
rw[qC hb]at q
by_cases hbe:b=e
·have q':H b=some (.own x):=by
  rcases he with z|z
  ·exact absurd (hbe.trans z) hb
  rw[hbe];exact z
 rw[q]at q';cases q';obtain⟨v,hv⟩:=heo;exact⟨v,by rw[hbe];exact hv⟩
refine(ok b u q).stay (λc v hc r=>k c v ?_ r) (λc r=>by rw[qC (nown c b r)];exact r) λc xs r=>by rw[qC (ntup c xs r)];exact r
rcases hc with rfl|hc
·exact hbe
rintro rfl
rcases he with z|z
·exact nown c b hc z
rw[hc]at z;cases z;exact hb rfl)
end
structure Un(fs ex:List Addr)(H H':Hp)(h h':Heap):Prop where
keep:∀b o,h.get? b=some o→H b=none→b∉fs→b∉ex→h'.get? b=some o
slot:∀b o,h.get? b=some o→H b=none→b∈fs→b∉ex→∃sl,h'.get? b=some { o with slots:=sl }
free:∀b o,h.get? b=some o→H b=none→b∉ex→H' b=none
there:∀b o,h.get? b=some o→b∉ex→∃o',h'.get? b=some o'
tups:∀b xs,H b=some (.tup xs)→H' b=some (.tup xs)
frzs:∀b o u,H b=some (.frz o u)→H' b=some (.frz o u)
tbls:∀b ps,H b=some (.tbl ps)→∃more,H' b=some (.tbl (ps++more))
section
variable{fs fs' ex ex':List Addr}{H H1 H2:Hp}{h h1 h2 h':Heap}{a x e:Addr}{o:HO}
theorem Un.any(u:Un fs ex H H1 h h1){b:Addr}{ob:Obj}(q:h.get? b=some ob)(n:H b=none)(hx:b∉ex):∃sl,h1.get? b=some { ob with slots:=sl }:=by(
by_cases hb:b∈fs
·exact u.slot b ob q n hb hx
exact⟨ob.slots,u.keep b ob q n hb hx⟩)
theorem Un.trans(a:Un fs ex H H1 h h1)(b:Un fs ex H1 H2 h1 h2):Un fs ex H H2 h h2 where
keep:=λc ob q n hc hx=>b.keep c ob (a.keep c ob q n hc hx) (a.free c ob q n hx) hc hx
slot:=λc ob q n hc hx=>by obtain⟨sl,e1⟩:=a.slot c ob q n hc hx;obtain⟨sl',e2⟩:=b.slot c _ e1 (a.free c ob q n hx) hc hx;exact⟨sl',e2⟩
free:=λc ob q n hx=>by obtain⟨o',e1⟩:=a.there c ob q hx;exact b.free c o' e1 (a.free c ob q n hx) hx
there:=λc ob q hx=>by obtain⟨o',e1⟩:=a.there c ob q hx;exact b.there c o' e1 hx
tups:=λc xs q=>b.tups c xs (a.tups c xs q)
frzs:=λc ob xs q=>b.frzs c ob xs (a.frzs c ob xs q)
tbls:=λc ps q=>by obtain⟨m1,e1⟩:=a.tbls c ps q;obtain⟨m2,e2⟩:=b.tbls c _ e1;exact⟨m1++m2,by rw[e2,sJ]⟩
theorem Un.kept(k:∀b u,h.get? b=some u→h'.get? b=some u):Un fs ex H H h h':=⟨λb ob q _ _ _=>k b ob q,λb ob q _ _ _=>⟨ob.slots,k b ob q⟩,λ_ _ _ n _=>n,λb ob q _=>⟨ob,k b ob q⟩,λ_ _ q=>q,λ_ _ _ q=>q,λ_ ps q=>⟨#[],by rw[q];simp⟩⟩
theorem Un.refl:Un fs ex H H h h:=Un.kept λ_ _ q=>q
theorem Un.laid(k:∀b u,h.get? b=some u→h'.get? b=some u)(hp:h.objs.size≤a)(hn:H a=none):Un fs ex H (upd H a o) h h' where
keep:=λb u q _ _ _=>k b u q
slot:=λb u q _ _ _=>⟨u.slots,k b u q⟩
free:=λb u q n _=>by rw[qC (mF (kZ (kM q) hp))];exact n
there:=λb u q _=>⟨u,k b u q⟩
tups:=λb xs q=>by rw[qC (qF q hn)];exact q
frzs:=λb u xs q=>by rw[qC (qF q hn)];exact q
tbls:=λb ps q=>⟨#[],by rw[qC (qF q hn),q];simp⟩
theorem Un.write(mu:Mut (H x))(he:e=x∨H e=some (.own x))(k:∀b u,b≠e→h.get? b=some u→h'.get? b=some u)(heo:∃u,h'.get? e=some u):Un fs ex H (upd H x o) h h':=by(
have hx:∀b,H b=none→b≠x:=λb n z=>by subst z;rw[n]at mu;exact mu
have hb:∀b,H b=none→b≠e:=λb n z=>by
 subst z;rcases he with r|r
 ·exact hx b n r
 rw[n]at r;cases r
have hm:∀b u,H b=some u→¬Mut (some u)→b≠x:=λb u q nm z=>by subst z;rw[q]at mu;exact nm mu
refine⟨λb u q n _ _=>k b u (hb b n) q,λb u q n _ _=>⟨u.slots,k b u (hb b n) q⟩,λb u q n _=>by rw[qC (hx b n)];exact n,λb u q _=>?_,λb xs q=>by rw[qC (hm b _ q λz=>z)];exact q,λb u xs q=>by rw[qC (hm b _ q λz=>z)];exact q,λb ps q=>⟨#[],by rw[qC (hm b _ q λz=>z),q];simp⟩⟩
by_cases hbe:b=e
·subst hbe;exact heo
exact⟨u,k b u hbe q⟩)
end
noncomputable def trk(h:Heap)(H:Hp):List Addr:=(List.range h.objs.size).filter λa=>(H a).isSome
noncomputable def hidT(h:Heap)(H:Hp):Heap:=PySem.W.hideAll h (trk h H)
theorem q63(h:Heap)(H:Hp):(hidT h H).objs.size=h.objs.size:=PySem.W.hideAll_size _ _
theorem q4E{h:Heap}{H:Hp}{b:Addr}{o:Obj}(e:h.get? b=some o)(n:H b=none):(hidT h H).get? b=some o:=PySem.W.hideAll_get _ e λhm=>by  have q:(H b).isSome=true:=(gM.mp hm).2;rw[n]at q;simp at q
theorem q9O{h:Heap}{H:Hp}{b:Addr}{o:Obj}(e:(hidT h H).get? b=some o):h.get? b=some o∧H b=none:=by(
have e':h.get? b=some o:=PySem.W.of_hideAll (trk h H) e
refine⟨e',?_⟩
cases q:H b with
|none=>rfl
|some x=>have hm:b∈trk h H:=gM.mpr ⟨kW.mpr (kM e'),by simp[q]⟩;have z:(hidT h H).get? b=none:=PySem.W.hideAll_none (trk h H) hm;rw[z]at e;cases e)
structure Mod(K:PySem.W.Frag)(mg:Str→Option Value)(base:Heap):Prop where
kin:K.In base
glob:base.Ns mainGlobals mg
blt:∃mb,base.Ns builtinsNs mb∧∀x:Str,x≠"__name__"→mb x=bootBuiltins x
nolimit:base.NoLimit
structure Cx where
prog:Program
w:World
K:PySem.W.Frag
mg:Str→Option Value
base:Heap
A:Around
N:List Str
s₀:Shared
H₀:Hp
env:Env
outer:List Env
stack:List Env
ex:List Addr
fn:Str→Bool
calm:Bool
pn:List (Addr×Obj)
xe:Value→Shared→Prop
noncomputable def frs(l:List Env):List Addr:=l.filterMap (·.frame)
noncomputable abbrev Cx.fs(X:Cx):List Addr:=frs X.outer
noncomputable def Vis(sc:Scope)(x:Str):Prop:=sc.names.lookup x=some .local∨sc.names.lookup x=some .cell∨sc.names.lookup x=some .free
noncomputable def Loc(sc:Scope)(x:Str):Prop:=sc.names.lookup x=some .local∨sc.names.lookup x=some .cell
noncomputable def Look(env:Env)(h:Heap)(m:Str→Option Value)(x:Str)(u:Value):Prop:=(env.kindOf x=some .local∧m x=some u)∨((env.kindOf x=some .cell∨env.kindOf x=some .free)∧∃c,env.cells.lookup x=some c∧h.IsCell c (some u))
structure Cx.Ok(X:Cx):Prop where
mod:Mod X.K X.mg X.base
kind:X.env.scope.kind=.function
glob:X.env.globals=mainGlobals
blt:X.env.builtins=builtinsNs
above:X.s₀.heap.objs.size≤X.env.locals
inj:∀x y c,X.env.cells.lookup x=some c→X.env.cells.lookup y=some c→x=y
has:∀x,(X.env.kindOf x=some .cell∨X.env.kindOf x=some .free)→∃c,X.env.cells.lookup x=some c
cab:∀x c,X.fn x=true→X.env.cells.lookup x=some c→X.s₀.heap.objs.size≤c
hd:X.calm=true→X.A.handled=none
frames:X.A.frames=some X.stack
stk:X.stack=X.outer∨(X.stack=X.env::X.outer∧X.env.frame=some X.env.locals)
exf:∀b∈X.ex,b≠X.env.locals∧∀x c,X.env.cells.lookup x=some c→c≠b
bs:∀b o,X.base.get? b=some o→X.s₀.heap.get? b=some o∧X.H₀ b=none
bsz:X.base.objs.size≤X.s₀.heap.objs.size
noex:∀b o,X.base.get? b=some o→b∉X.ex
exfs:∀b∈X.ex,b∉X.fs
funs:X.s₀.heap.FunFrames X.base X.outer
frf:∀b∈X.fs,X.H₀ b=none
structure Inv(X:Cx)(pins:List (Addr×Obj))(σ:List (Option V))(H:Hp)(s:Shared):Prop where
ok:X.Ok
os:s.os=X.s₀.os
bare:AllBare s.gens
base:Un X.fs X.ex X.H₀ H X.s₀.heap s.heap
loc:∃m,s.heap.Ns X.env.locals m∧∀(i:Nat) (x:Str) (v:V),X.N[i]?=some x→σ[i]?=some (some v)→Vis X.env.scope x→∃u,RelV v u∧Look X.env s.heap m x u
cell:∀x c,X.env.cells.lookup x=some c→∃v,s.heap.IsCell c v
free:H X.env.locals=none
freeC:∀x c,X.env.cells.lookup x=some c→H c=none
pin:∀p∈X.pn++pins,s.heap.get? p.1=some p.2∧H p.1=none∧p.1≠X.env.locals∧p.1∉X.fs∧∀v,p.2.data≠ .cell v
hok:HOk X.prog X.w H s.heap
len:σ.length=X.N.length
section
variable{X:Cx}{pins:List (Addr×Obj)}{σ:List (Option V)}{H H':Hp}{s:Shared}{h':Heap}
theorem Cx.Ok.nofr(ok:X.Ok){b:Addr}{o:Obj}(e:X.base.get? b=some o):b∉X.fs:=λhb=>by have:=(ok.funs.mem hb).1;rw[e]at this;cases this
theorem Inv.bs(I:Inv X pins σ H s):∀b o,X.base.get? b=some o→s.heap.get? b=some o∧H b=none:=λb o e=>⟨I.base.keep b o (I.ok.bs b o e).1 (I.ok.bs b o e).2 (I.ok.nofr e) (I.ok.noex b o e),I.base.free b o (I.ok.bs b o e).1 (I.ok.bs b o e).2 (I.ok.noex b o e)⟩
theorem Inv.bk(I:Inv X pins σ H s):∀b o,X.base.get? b=some o→s.heap.get? b=some o:=λb o e=>(I.bs b o e).1
theorem Inv.mod(I:Inv X pins σ H s):Mod X.K X.mg X.base:=I.ok.mod
theorem Inv.kIn(I:Inv X pins σ H s):X.K.In s.heap:=I.ok.mod.kin.keeps I.bk
theorem Inv.fr(I:Inv X pins σ H s):∃m,Fr X.base X.env.locals s.heap m:=let⟨m,hn,_⟩:=I.loc
 ⟨m,hn,I.bk,mI I.ok.bsz I.ok.above⟩
theorem Inv.lt(I:Inv X pins σ H s):X.env.locals<s.heap.objs.size:=let⟨_,hn,_⟩:=I.loc;hn.lt
theorem Inv.sz(I:Inv X pins σ H s):X.s₀.heap.objs.size≤s.heap.objs.size:=mI I.ok.above (wY I.lt)
theorem Inv.nofs(I:Inv X pins σ H s){a:Addr}(h:s.heap.objs.size≤a):a∉X.fs:=λhb=>by obtain⟨_,o,ho,_⟩:=I.ok.funs.mem hb;exact absurd (kZ (kM ho) (mI I.sz h)) (gS _)
theorem Inv.cne(I:Inv X pins σ H s):∀x c,X.env.cells.lookup x=some c→c≠X.env.locals:=λx c e z=>by obtain⟨v,o,ho,hd⟩:=I.cell x c e;obtain⟨m,⟨o',es,ep,ho',hd',_⟩,_⟩:=I.loc;rw[z,ho']at ho;cases ho;rw[hd']at hd;cases hd
theorem Inv.funs(I:Inv X pins σ H s):s.heap.FunFrames X.base X.outer:=by(
have all:∀(l:List Env),(∀b∈frs l,b∈X.fs)→X.s₀.heap.FunFrames X.base l→s.heap.FunFrames X.base l:=by
 intro l;induction l with
 |nil=>intro _ _;trivial
 |cons env r ih=>intro hs hl;obtain⟨hk,⟨L,o,hf,hn,ho,hd⟩,hr⟩:=hl;have hL:L∈X.fs:=hs L (by unfold frs;rw[dY,hf];exact kU);obtain⟨sl,e⟩:=I.base.slot L o ho (I.ok.frf L hL) hL λz=>I.ok.exfs L z hL;exact⟨hk,⟨L,_,hf,hn,e,hd⟩,ih (λb hb=>hs b (by unfold frs;rw[dY,hf];exact hZ _ hb)) hr⟩
exact all X.outer (λ_ hb=>hb) I.ok.funs)
theorem Inv.stack(I:Inv X pins σ H s):s.heap.FunFrames X.base X.stack:=by(
rcases I.ok.stk with e|⟨e,hf⟩
·rw[e];exact I.funs
rw[e]
obtain⟨m,hn,_⟩:=I.loc
refine .cons (by rw[I.ok.kind];decide) hf hn ?_ I.funs
exact wN (mI I.ok.bsz I.ok.above))
theorem Inv.stkSub(I:Inv X pins σ H s):∀b∈frs X.stack,b∈X.env.locals::X.fs:=λb hb=>by(
rcases I.ok.stk with e|⟨e,hf⟩
·rw[e]at hb;exact hZ _ hb
rw[e]at hb
unfold frs at hb
rw[dY,hf]at hb
exact hb)
theorem Inv.stkFree(I:Inv X pins σ H s):∀b∈frs X.stack,H b=none:=λb hb=>by(
rcases kR.mp (I.stkSub b hb)with e|hb
·rw[e];exact I.free
obtain⟨_,o,ho,_⟩:=I.ok.funs.mem hb
exact I.base.free b o ho (I.ok.frf b hb) λz=>I.ok.exfs b z hb)
theorem Inv.step{g':Array GenState}{t':Nat}{d':Drawn}{ch:List Addr}(I:Inv X pins σ H s)
 (hch:∀b∈ch,(b∈X.ex∨X.s₀.heap.objs.size≤b)∧b≠X.env.locals∧(∀x c,X.env.cells.lookup x=some c→c≠b)∧∀p∈X.pn++pins,p.1≠b)
 (keep:∀b o,b≠X.env.locals→b∉X.fs→b∉ch→s.heap.get? b=some o→H b=none→h'.get? b=some o)
 (slot:∀b o,b≠X.env.locals→b∈X.fs→b∉ch→s.heap.get? b=some o→H b=none→∃sl,h'.get? b=some { o with slots:=sl }) (free:∀b o,b∉ch→s.heap.get? b=some o→H b=none→H' b=none)
 (there:∀b o,b∉ch→s.heap.get? b=some o→∃o',h'.get? b=some o')
 (tups:∀b xs,H b=some (.tup xs)→H' b=some (.tup xs)) (frzs:∀b o u,H b=some (.frz o u)→H' b=some (.frz o u)) (tbls:∀b ps,H b=some (.tbl ps)→∃more,H' b=some (.tbl (ps++more)))
 (ns:∀m,s.heap.Ns X.env.locals m→h'.Ns X.env.locals m) (hok:HOk X.prog X.w H' h') (hg:AllBare g'):
 Inv X pins σ H' { s with heap:=h',gens:=g',drawn:=d',toks:=t' }:=by(
have neL:∀b o,X.s₀.heap.get? b=some o→b≠X.env.locals:=λb o e=>mF (kZ (kM e) I.ok.above)
have neC:∀b o,X.s₀.heap.get? b=some o→b∉X.ex→b∉ch:=λb o e hx hb=>by
 rcases(hch b hb).1 with z|z
 ·exact hx z
 exact absurd (kZ (kM e) z) (gS _)
have cellK:∀x c,X.env.cells.lookup x=some c→∀v,s.heap.IsCell c v→h'.IsCell c v:=λx c e v ⟨o,ho,hd⟩=>by
 have nch:c∉ch:=λz=>(hch c z).2.2.1 x c e rfl;by_cases hc:c∈X.fs
 ·obtain⟨sl,q⟩:=slot c o (I.cne x c e) hc nch ho (I.freeC x c e);exact⟨_,q,hd⟩
 exact⟨o,keep c o (I.cne x c e) hc nch ho (I.freeC x c e),hd⟩
refine⟨I.ok,I.os,hg,⟨λb o e n hb hx=>?_,λb o e n hb hx=>?_,λb o e n hx=>?_,λb o e hx=>?_,λb xs e=>tups b xs (I.base.tups b xs e),λb o xs e=>frzs b o xs (I.base.frzs b o xs e),λb ps e=>?_⟩,?_,λx c e=>?_,?_,λx c e=>?_,λp hp=>?_,hok,I.len⟩
·exact keep b o (neL b o e) hb (neC b o e hx) (I.base.keep b o e n hb hx) (I.base.free b o e n hx)
·obtain⟨sl,e1⟩:=I.base.slot b o e n hb hx;obtain⟨sl',e2⟩:=slot b _ (neL b o e) hb (neC b o e hx) e1 (I.base.free b o e n hx);exact⟨sl',e2⟩
·obtain⟨o',e1⟩:=I.base.there b o e hx;exact free b o' (neC b o e hx) e1 (I.base.free b o e n hx)
·obtain⟨o',e1⟩:=I.base.there b o e hx;exact there b o' (neC b o e hx) e1
·obtain⟨m1,e1⟩:=I.base.tbls b ps e;obtain⟨m2,e2⟩:=tbls b _ e1;exact⟨m1++m2,by rw[e2,sJ]⟩
·obtain⟨m,hn,hl⟩:=I.loc;refine⟨m,ns m hn,λi x v e1 e2 e3=>?_⟩;obtain⟨u,r,l⟩:=hl i x v e1 e2 e3;refine⟨u,r,?_⟩;rcases l with l|⟨k,c,e,z⟩
 ·exact .inl l
 exact .inr ⟨k,c,e,cellK x c e _ z⟩
·obtain⟨v,z⟩:=I.cell x c e;exact⟨v,cellK x c e v z⟩
·obtain⟨m,⟨o,_,_,ho,_⟩,_⟩:=I.loc;exact free _ o (λz=>(hch _ z).2.1 rfl) ho I.free
·obtain⟨v,o,ho,hd⟩:=I.cell x c e;exact free c o (λz=>(hch c z).2.2.1 x c e rfl) ho (I.freeC x c e)
obtain⟨e,n,ne,nf,d⟩:=I.pin p hp
have nch:p.1∉ch:=λz=>(hch p.1 z).2.2.2 p hp rfl
exact⟨keep p.1 p.2 ne nf nch e n,free p.1 p.2 nch e n,ne,nf,d⟩)
theorem Inv.un{t':Nat}(I:Inv X pins σ H s)(u:Un X.fs [] H H' s.heap h')(hok:HOk X.prog X.w H' h'):Inv X pins σ H' { s with heap:=h',toks:=t' }:=by obtain⟨m,⟨o,es,ep,ho,r⟩,_⟩:=id I.loc;obtain⟨sl,hL⟩:=u.any ho I.free (by simp);exact I.step (g':=s.gens) (d':=s.drawn) (ch:=[]) (λ_ z=>nomatch z) (λb o _ hb _ e n=>u.keep b o e n hb (by simp)) (λb o _ hb _ e n=>u.slot b o e n hb (by simp)) (λb o _ e n=>u.free b o e n (by simp)) (λb o _ e=>u.there b o e (by simp)) u.tups u.frzs u.tbls (λm' hm=>by obtain⟨o',es',ep',ho',r'⟩:=hm;rw[ho]at ho';cases ho';exact⟨_,es',ep',hL,r'⟩) hok I.bare
theorem Inv.call{g':Array GenState}{t':Nat}{d':Drawn}{ch:List Addr}(I:Inv X pins σ H s)(u:Un (frs X.stack) ch H H' s.heap h')(hok:HOk X.prog X.w H' h')(hg:AllBare g')
 (hch:∀b∈ch,(b∈X.ex∨X.s₀.heap.objs.size≤b)∧b≠X.env.locals∧(∀x c,X.env.cells.lookup x=some c→c≠b)∧∀p∈X.pn++pins,p.1≠b):
 Inv X pins σ H' { s with heap:=h',gens:=g',drawn:=d',toks:=t' }:=by obtain⟨m,⟨o,es,ep,ho,r⟩,_⟩:=id I.loc;obtain⟨sl,hL⟩:=u.any ho I.free λz=>(hch _ z).2.1 rfl;exact I.step (ch:=ch) hch (λb o hL hb hc e n=>u.keep b o e n (λz=>(kR.mp (I.stkSub b z)).elim hL hb) hc) (λb o _ _ hc e n=>u.any e n hc) (λb o hc e n=>u.free b o e n hc) (λb o hc e=>u.there b o e hc) u.tups u.frzs u.tbls (λm' hm=>by obtain⟨o',es',ep',ho',r'⟩:=hm;rw[ho]at ho';cases ho';exact⟨_,es',ep',hL,r'⟩) hok hg
theorem Inv.turned{t':Nat}{it:Addr}(I:Inv X pins σ H s)(k:∀b o,b≠it→s.heap.get? b=some o→h'.get? b=some o)(hn:H it=none)(hL:it≠X.env.locals)
 (h1:it∈X.ex∨X.s₀.heap.objs.size≤it) (h2:∀x c,X.env.cells.lookup x=some c→c≠it) (h3:∀p∈X.pn++pins,p.1≠it):Inv X pins σ H { s with heap:=h',toks:=t' }:=by(
have nit:∀b u,H b=some u→b≠it:=λb u e z=>by rw[z,hn]at e;cases e
refine I.step (g':=s.gens) (d':=s.drawn) (ch:=[it]) (λb hb=>?_) (λb o _ _ hc e _=>k b o (λz=>hc (by simp[z])) e) (λb o _ _ hc e _=>⟨o.slots,k b o (λz=>hc (by simp[z])) e⟩) (λ_ _ _ _ n=>n)
 (λb o hc e=>⟨o,k b o (λz=>hc (by simp[z])) e⟩) (λ_ _ e=>e) (λ_ _ _ e=>e) (λb ps e=>⟨#[],by rw[e];simp⟩) (λm hm=>?_) (λb u e=>?_) I.bare
·have e:b=it:=by simpa using hb
 subst e;exact⟨h1,hL,h2,h3⟩
·obtain⟨o,es,ep,ho,r⟩:=hm;exact⟨o,es,ep,k _ o (dD hL) ho,r⟩
refine(I.hok b u e).stay (λc v hc q=>k c v ?_ q) (λ_ q=>q) λ_ _ q=>q
rcases hc with z|z
·rw[z];exact nit b u e
exact nit c _ z)
theorem Inv.tok(I:Inv X pins σ H s)(t:Nat):Inv X pins σ H { s with toks:=t }:=I.un (h':=s.heap) (t':=t) Un.refl I.hok
theorem Inv.kept{t':Nat}(I:Inv X pins σ H s)(k:∀b u,s.heap.get? b=some u→h'.get? b=some u):Inv X pins σ H { s with heap:=h',toks:=t' }:=I.un (Un.kept k) (I.hok.kept k)
theorem Inv.laid{a:Addr}{o:HO}{t':Nat}(I:Inv X pins σ H s)(k:∀b u,s.heap.get? b=some u→h'.get? b=some u)(hp:s.heap.objs.size≤a)(new:jP X.prog X.w (upd H a o) h' a o):
 Inv X pins σ (upd H a o) { s with heap:=h',toks:=t' }:=I.un (Un.laid k hp (I.hok.fresh hp)) (I.hok.laid k hp new)
theorem Inv.write{x e:Addr}{o:HO}{t':Nat}(I:Inv X pins σ H s)(mu:Mut (H x))(he:e=x∨H e=some (.own x))(k:∀b u,b≠e→s.heap.get? b=some u→h'.get? b=some u)(heo:∃u,h'.get? e=some u)
 (new:jP X.prog X.w (upd H x o) h' x o):Inv X pins σ (upd H x o) { s with heap:=h',toks:=t' }:=I.un (Un.write mu he k heo) (I.hok.write mu he k heo new)
theorem Inv.weak{σ':List (Option V)}(I:Inv X pins σ H s)(hl:σ'.length=σ.length)(w:∀(i:Nat) v,σ'[i]?=some (some v)→σ[i]?=some (some v)):Inv X pins σ' H s:=⟨I.ok,I.os,I.bare,I.base,let⟨m,hn,hl'⟩:=I.loc;⟨m,hn,λi x v e1 e2 e3=>hl' i x v e1 (w i v e2) e3⟩,I.cell,I.free,I.freeC,I.pin,I.hok,hl.trans I.len⟩
theorem Inv.pins_of{pins':List (Addr×Obj)}(I:Inv X pins σ H s)(h:∀p∈pins',s.heap.get? p.1=some p.2∧H p.1=none∧p.1≠X.env.locals∧p.1∉X.fs∧∀v,p.2.data≠ .cell v):Inv X pins' σ H s:=⟨I.ok,I.os,I.bare,I.base,I.loc,I.cell,I.free,I.freeC,λp hp=>(mO.mp hp).elim (λz=>I.pin p (mD _ z)) (h p),I.hok,I.len⟩
theorem q4F{N:List Str}(hN:N.Nodup){i j:Nat}{x:Str}(a:N[i]?=some x)(b:N[j]?=some x):i=j:=by obtain⟨h1,e1⟩:=kD.mp a;obtain⟨h2,e2⟩:=kD.mp b;exact(List.getElem_inj hN).mp (e1.trans e2.symm)
theorem q64{M:Model}{A:Around}{E:Value→Shared→Prop}{i:Nat}{x:Str}{v:V}{u:Value}{Q:Unit→Shared→Prop}(I:Inv X pins σ H s)(hN:X.N.Nodup)(hi:X.N[i]?=some x)(hx:Loc X.env.scope x)(r:RelV v u)
 (h:∀s',Inv X pins (σ.set i (some v)) H s'→(∃a,Heap.SameBut a s.heap s'.heap∧(a=X.env.locals∨X.env.cells.lookup x=some a))→Q () s') (hf:X.fn x=true∨X.env.scope.names.lookup x=some .local:=by first|exact .inl rfl|exact .inr rfl|assumption):wpAny M A (storeName X.env x u) Q E s:=by(
obtain⟨m,hn,hl⟩:=id I.loc
have hcls:(X.env.scope.kind== .class||(X.env.scope.kind== .module&&X.env.locals !=X.env.globals))=false:=by rw[I.ok.kind];rfl
have hiσ:i<σ.length:=by rw[I.len];exact(kD.mp hi).1
have cne:=I.cne
have tracked:∀{a:Addr} {h':Heap},(∃o,s.heap.get? a=some o∧H a=none)→Heap.SameBut a s.heap h'→HOk X.prog X.w H h':=fun {a h'} ha hs b ob e=>by
 obtain⟨_,_,hfree⟩:=ha;refine(I.hok b ob e).stay (λc w' hc q=>(hs.2 c ?_).trans q) (λ_ q=>q) λ_ _ q=>q;rintro rfl
 rcases hc with rfl|hc
 ·rw[hfree]at e;cases e
 rw[hfree]at hc;cases hc
rcases hx with hk|hk
·refine wpAny_storeName_local hk hn (λh' hn' hs=>?_) hcls;obtain⟨oL,_,_,hoL,_⟩:=id hn;refine h _ ⟨I.ok,I.os,I.bare,⟨λb o e n hb hx=>?_,λb o e n hb hx=>?_,I.base.free,λb o e hx=>?_,I.base.tups,I.base.frzs,I.base.tbls⟩,⟨_,hn',λj y v' e1 e2 e3=>?_⟩,λy c e=>?_,I.free,I.freeC,λp hp=>?_,tracked ⟨oL,hoL,I.free⟩ hs,by simpa using I.len⟩ ⟨_,hs,.inl rfl⟩
 ·exact(hs.2 b (mF (kZ (kM e) I.ok.above))).trans (I.base.keep b o e n hb hx)
 ·obtain⟨sl,e1⟩:=I.base.slot b o e n hb hx;exact⟨sl,(hs.2 b (mF (kZ (kM e) I.ok.above))).trans e1⟩
 ·obtain⟨o',e1⟩:=I.base.there b o e hx;exact⟨o',(hs.2 b (mF (kZ (kM e) I.ok.above))).trans e1⟩
 ·by_cases hj:j=i
  ·subst hj;rw[hi]at e1;cases e1;rw[wB hiσ]at e2;cases e2;exact⟨u,r,.inl ⟨hk,by simp⟩⟩
  rw[dR (dD hj)]at e2;obtain⟨u',r',q⟩:=hl j y v' e1 e2 e3;refine⟨u',r',?_⟩;rcases q with⟨k,e⟩|⟨k,c,e,z⟩
  ·refine .inl ⟨k,?_⟩;have:y≠x:=λe=>hj (q4F hN e1 (e▸hi));simp[this,e]
  exact .inr ⟨k,c,e,z.sameBut hs (cne y c e)⟩
 ·obtain⟨w',z⟩:=I.cell y c e;exact⟨w',z.sameBut hs (cne y c e)⟩
 obtain⟨e,n,ne,nf,d⟩:=I.pin p hp;exact⟨(hs.2 p.1 ne).trans e,n,ne,nf,d⟩
have hfn:X.fn x=true:=by
 rcases hf with z|z
 ·exact z
 rw[z]at hk;cases hk
obtain⟨c,hc⟩:=I.ok.has x (.inl hk)
obtain⟨w',z⟩:=I.cell x c hc
refine wpAny_storeName_cell I.ok.kind hk hc z (λh' hc' hs=>?_)
obtain⟨oc,hoc,hocd⟩:=id z
refine h { s with heap:=h' } ⟨I.ok,I.os,I.bare,⟨λb o e n hb hx=>?_,λb o e n hb hx=>?_,I.base.free,λb o e hx=>?_,I.base.tups,I.base.frzs,I.base.tbls⟩,⟨m,hn.sameBut hs (dD (cne x c hc)),λj y v' e1 e2 e3=>?_⟩,λy c' e=>?_,I.free,I.freeC,λp hp=>?_,tracked ⟨oc,hoc,I.freeC x c hc⟩ hs,by simpa using I.len⟩ ⟨c,hs,.inr hc⟩
·exact(hs.2 b (mF (kZ (kM e) (I.ok.cab x c hfn hc)))).trans (I.base.keep b o e n hb hx)
·obtain⟨sl,e1⟩:=I.base.slot b o e n hb hx;exact⟨sl,(hs.2 b (mF (kZ (kM e) (I.ok.cab x c hfn hc)))).trans e1⟩
·obtain⟨o',e1⟩:=I.base.there b o e hx;exact⟨o',(hs.2 b (mF (kZ (kM e) (I.ok.cab x c hfn hc)))).trans e1⟩
·by_cases hj:j=i
 ·subst hj;rw[hi]at e1;cases e1;rw[wB hiσ]at e2;cases e2;exact⟨u,r,.inr ⟨.inl hk,c,hc,hc'⟩⟩
 rw[dR (dD hj)]at e2;obtain⟨u',r',q⟩:=hl j y v' e1 e2 e3;refine⟨u',r',?_⟩;rcases q with q|⟨k,c',e,z'⟩
 ·exact .inl q
 refine .inr ⟨k,c',e,z'.sameBut hs ?_⟩;rintro rfl
 exact hj (q4F hN e1 (I.ok.inj _ _ _ e hc▸hi))
·by_cases hcc:c'=c
 ·subst hcc;exact⟨_,hc'⟩
 obtain⟨w2,z2⟩:=I.cell y c' e;exact⟨w2,z2.sameBut hs hcc⟩
obtain⟨e,n,ne,nf,d⟩:=I.pin p hp
refine⟨(hs.2 p.1 ?_).trans e,n,ne,nf,d⟩
intro q
rw[q,hoc]at e
have q':oc=p.2:=kP e
exact d w' (by rw[←q'];exact hocd))
theorem q2A{M:Model}{A:Around}{E:Value→Shared→Prop}{i:Nat}{x:Str}{v:V}{u:Value}{Q:Unit→Shared→Prop}(I:Inv X pins σ H s)(hN:X.N.Nodup)(hi:X.N[i]?=some x)(hx:Loc X.env.scope x)(r:RelV v u)
 (h:∀s',Inv X pins (σ.set i (some v)) H s'→Q () s') (hf:X.fn x=true∨X.env.scope.names.lookup x=some .local:=by first|exact .inl rfl|exact .inr rfl|assumption):wpAny M A (storeName X.env x u) Q E s:=q64 I hN hi hx r (λs' I' _=>h s' I') hf
theorem Inv.call'{s':Shared}{ch:List Addr}(I:Inv X pins σ H s)(ho:s'.os=s.os)(u:Un (frs X.stack) ch H H' s.heap s'.heap)(hok:HOk X.prog X.w H' s'.heap)(hg:AllBare s'.gens)
 (hch:∀b∈ch,(b∈X.ex∨X.s₀.heap.objs.size≤b)∧b≠X.env.locals∧(∀x c,X.env.cells.lookup x=some c→c≠b)∧∀p∈X.pn++pins,p.1≠b):Inv X pins σ H' s':=by(
obtain⟨h',g',d',t',o'⟩:=s'
have e:o'=s.os:=ho
subst e
exact I.call (g':=g') (t':=t') (d':=d') u hok hg hch)
end
noncomputable abbrev XK:=Value→Option Addr→Hp→Prop
noncomputable abbrev St:=List (Option V)
noncomputable abbrev VK:=V→Hp→Prop
noncomputable abbrev TE:=St→Hp→VK→Prop
noncomputable abbrev TT:=St→Hp→(Bool→Hp→Prop)→Prop
noncomputable abbrev TA:=St→Hp→(List V→Hp→Prop)→Prop
structure Ends where
nx:St→Hp→Prop
rt:VK
bk:St→Hp→Prop:=λ_ _=>False
ct:St→Hp→Prop:=λ_ _=>False
noncomputable abbrev TS:=Ends→St→Hp→Prop
noncomputable def EP(X:Cx)(pins:List (Addr×Obj))(σ:St)(Q:VK)(u:Value)(s':Shared):Prop:=∃v H',Inv X pins σ H' s'∧RelV v u∧Q v H'
noncomputable def TP(X:Cx)(pins:List (Addr×Obj))(σ:St)(Q:Bool→Hp→Prop)(b:Bool)(s':Shared):Prop:=∃H',Inv X pins σ H' s'∧Q b H'
noncomputable def AP(X:Cx)(pins:List (Addr×Obj))(σ:St)(Q:List V→Hp→Prop)(us:List Value)(s':Shared):Prop:=∃vs H',Inv X pins σ H' s'∧Vals vs us∧Q vs H'
noncomputable def SP(X:Cx)(pins:List (Addr×Obj))(D:Ends)(f:Flow)(s':Shared):Prop:=match f with
| .next=>∃σ' H',Inv X pins σ' H' s'∧D.nx σ' H'
| .brk=>∃σ' H',Inv X pins σ' H' s'∧D.bk σ' H'
| .cont=>∃σ' H',Inv X pins σ' H' s'∧D.ct σ' H'
| .ret u=>∃v σ' H',Inv X pins σ' H' s'∧RelV v u∧D.rt v H'
noncomputable def PE(X:Cx)(e:Expr)(t:TE):Prop:=∀(pins:List (Addr×Obj)) (s:Shared) (σ:St) (H:Hp) (Q:VK),Inv X pins σ H s→t σ H Q→wpAny (model X.prog X.w) X.A (eval e X.env) (EP X pins σ Q) X.xe s
noncomputable def PT(X:Cx)(e:Expr)(t:TT):Prop:=∀(pins:List (Addr×Obj)) (s:Shared) (σ:St) (H:Hp) (Q:Bool→Hp→Prop),Inv X pins σ H s→t σ H Q→wpAny (model X.prog X.w) X.A (isTrue e X.env (eval e X.env)) (TP X pins σ Q) X.xe s
noncomputable def PW(X:Cx)(e:Expr)(t:TT):Prop:=∀(whole:Sem Value) (pins:List (Addr×Obj)) (s:Shared) (σ:St) (H:Hp) (Q:Bool→Hp→Prop),Inv X pins σ H s→t σ H Q→wpAny (model X.prog X.w) X.A (isTrue e X.env whole) (TP X pins σ Q) X.xe s
theorem PW.pt{X:Cx}{e:Expr}{t:TT}(h:PW X e t):PT X e t:=h _
noncomputable def PA(X:Cx)(es:List Expr)(t:TA):Prop:=∀(pos:Pos) (pins:List (Addr×Obj)) (s:Shared) (σ:St) (H:Hp) (Q:List V→Hp→Prop),Inv X pins σ H s→t σ H Q→wpAny (model X.prog X.w) X.A (spliced (backTo pos (starEach es X.env))) (AP X pins σ Q) X.xe s
noncomputable def PS(X:Cx)(st:Stmt)(t:TS):Prop:=∀(pins:List (Addr×Obj)) (s:Shared) (σ:St) (H:Hp) (D:Ends),Inv X pins σ H s→t D σ H→wpAny (model X.prog X.w) X.A (exec st X.env) (SP X pins D) X.xe s
noncomputable def PSs(X:Cx)(st:List Stmt)(t:TS):Prop:=∀(pins:List (Addr×Obj)) (s:Shared) (σ:St) (H:Hp) (D:Ends),Inv X pins σ H s→t D σ H→wpAny (model X.prog X.w) X.A (execs st X.env) (SP X pins D) X.xe s
theorem thn{α:Type}{t:Sem α}{Q Q':α→Shared→Prop}{M:Model}{A:Around}{E:Value→Shared→Prop}{s:Shared}(h:wpAny M A t Q E s)(hQ:∀a s,Q a s→Q' a s):wpAny M A t Q' E s:=gJ h hQ λ_ _ x=>x
section
variable{X:Cx}
noncomputable def tVar(i:Nat):TE:=λσ H Q=>∃v,σ[i]?=some (some v)∧Q v H
noncomputable def tC(v:V):TE:=λ_ H Q=>Q v H
theorem qF1{i:Nat}{x:Str}{pos:Pos}(hN:X.N[i]?=some x)(hv:Vis X.env.scope x)(hd:(x==("__debug__":Str))=false:=by decide)(hcd:(x==("__classdict__":Str))=false:=by decide):PE X (.Name x pos) (tVar i):=by(
intro pins s σ H Q I h
obtain⟨v,e,h⟩:=h
obtain⟨m,hn,hl⟩:=I.loc
obtain⟨u,r,l⟩:=hl i x v hN e hv
have fin:EP X pins σ Q u s:=⟨v,H,I,r,h⟩
rcases l with⟨hk,hm⟩|⟨hk,c,hc,hcell⟩
·exact nR (pL I.ok.kind hk hn hm fin) hd
rcases hk with hk|hk
·exact nR (pT I.ok.kind hk hc hcell fin) hd
exact nR (wpAny_loadName_free I.ok.kind hk hc hcell fin hcd) hd)
theorem qI{i j pos}:PE X (.Constant (.int i) j pos) (tC (.int i)):=λ_ _ _ H _ I h=>wpAny_Constant_int ⟨.int i,H,I.tok _,⟨_,rfl⟩,h⟩
theorem q3I{b j pos}:PE X (.Constant (.bool b) j pos) (tC (.bl b)):=λ_ _ _ H _ I h=>Constant_bool ⟨.bl b,H,I,rfl,h⟩
theorem yN{j pos}:PE X (.Constant .none j pos) (tC .non):=λ_ _ _ H _ I h=>Constant_none ⟨.non,H,I,rfl,h⟩
theorem qS{x j pos}:PE X (.Constant (.str x) j pos) (tC (.str x)):=λ_ _ _ H _ I h=>Calls.Constant_str ⟨.str x,H,I.tok _,⟨_,rfl⟩,h⟩
noncomputable def Gl(X:Cx)(x:Str):Prop:=X.env.kindOf x=some .globalImplicit
theorem q2B{E:Value→Shared→Prop}{pins:List (Addr×Obj)}{s:Shared}{σ:St}{H:Hp}{x:Str}{u:Value}{pos:Pos}{Q:Value→Shared→Prop}(I:Inv X pins σ H s)(hg:Gl X x)(hm:X.mg x=some u)(h:Q u s)
 (hd:(x==("__debug__":Str))=false:=by decide):wpAny (model X.prog X.w) X.A (eval (.Name x pos) X.env) Q E s:=cD I.ok.kind hg (Calls.loadGlobal_global (by rw[I.ok.glob];exact I.mod.glob.keeps I.bk) hm h) hd
theorem q4G{E:Value→Shared→Prop}{pins:List (Addr×Obj)}{s:Shared}{σ:St}{H:Hp}{x:Str}{u:Value}{pos:Pos}{Q:Value→Shared→Prop}(I:Inv X pins σ H s)(hg:Gl X x)(hm:X.mg x=none)(hv:bootBuiltins x=some u)(h:Q u s)
 (hn:x≠"__name__":=by decide) (hd:(x==("__debug__":Str))=false:=by decide):wpAny (model X.prog X.w) X.A (eval (.Name x pos) X.env) Q E s:=by obtain⟨mb,h1,h2⟩:=I.mod.blt;exact cD I.ok.kind hg (Calls.loadGlobal_builtin (by rw[I.ok.glob];exact I.mod.glob.keeps I.bk) hm (by rw[I.ok.blt];exact h1.keeps I.bk) ((h2 x hn).trans hv) h) hd
theorem uD{x:Str}{v:V}{u:Value}{pos:Pos}(hg:Gl X x)(hm:X.mg x=some u)(r:RelV v u)(hd:(x==("__debug__":Str))=false:=by decide):PE X (.Name x pos) (tC v):=λ_ _ _ H _ I h=>q2B I hg hm ⟨v,H,I,r,h⟩ hd
theorem uO{x:Str}{v:V}{u:Value}{pos:Pos}(hg:Gl X x)(hm:X.mg x=none)(hv:bootBuiltins x=some u)(r:RelV v u)(hn:x≠"__name__":=by decide)(hd:(x==("__debug__":Str))=false:=by decide):PE X (.Name x pos) (tC v):=λ_ _ _ H _ I h=>q4G I hg hm hv ⟨v,H,I,r,h⟩ hn hd
variable{a b:Expr}{ta tb:TE}{pos:Pos}
noncomputable def PC(X:Cx)(op:CmpOp)(a b:Expr)(t:TE):Prop:=∀(pins:List (Addr×Obj)) (s:Shared) (σ:St) (H:Hp) (Q:VK),Inv X pins σ H s→t σ H Q→wpAny (model X.prog X.w) X.A (eval a X.env) (λv s₁=>wpAny (model X.prog X.w) X.A (eval b X.env) (λu s₂=>wpAny (model X.prog X.w) X.A (compareOp op v u) (EP X pins σ Q) X.xe s₂) X.xe s₁) X.xe s
noncomputable def tB(t:TE):TT:=λσ H Q=>t σ H λx H1=>∃c,x=.bl c∧Q c H1
theorem qF2{op:CmpOp}{t:TE}(h:PC X op a b t)(h1:behindInMarks op b=false:=by first|exact nobehind _ (by decide) (by decide)|rfl):PE X (.Compare a [op] [b] pos) t:=λpins s σ H Q I hw=>wpAny_Compare1 (h pins s σ H Q I hw) h1
theorem q4H{op:CmpOp}{t:TE}(h:PC X op a b t)(h1:behindInMarks op b=false:=by first|exact nobehind _ (by decide) (by decide)|rfl):PT X (.Compare a [op] [b] pos) (tB t):=by(
intro pins s σ H Q I hw
refine pG (thn (h pins s σ H _ I hw) λv s1 h1=>thn h1 λu s2 h2=>thn h2 λc s3 hZ=>?_) h1
obtain⟨x,H1,I1,r1,q1⟩:=hZ
obtain⟨d,rfl,q⟩:=q1
cases r1
exact gE ⟨H1,I1,q⟩)
theorem jF{e:Expr}{t:TE}(h:PE X e t)(he:∀whole,isTrue e X.env whole=(do let v←whole;standAt e.pos;holding [v] (truthy v)):=by intro _;rfl):PT X e (tB t):=by(
intro pins s σ H Q I hw
refine isTrue_plain (thn (h pins s σ H _ I hw) λv s1 hZ=>?_) (he _)
obtain⟨x,H1,I1,r1,q1⟩:=hZ
obtain⟨d,rfl,q⟩:=q1
cases r1
exact gE ⟨H1,I1,q⟩)
variable{tA tB':TT}{rest:List Expr}
noncomputable def tAnd(t u:TT):TT:=λσ H Q=>t σ H λc H1=>if c=true then u σ H1 Q else Q false H1
noncomputable def tOr(t u:TT):TT:=λσ H Q=>t σ H λc H1=>if c=true then Q true H1 else u σ H1 Q
noncomputable def tNot(t:TT):TT:=λσ H Q=>t σ H λc H1=>Q (!c) H1
theorem q6U(ha:PT X a tA):PW X (.BoolOp .And [a] pos) tA:=by(
intro wh pins s σ H Q I h
refine isTrue_and (thn (ha pins s σ H Q I h) λc s1 e=>?_)
cases c with
|true=>exact isTrue_and_nil e
|false=>exact e)
theorem v3(ha:PT X a tA):PW X (.BoolOp .Or [a] pos) tA:=by(
intro wh pins s σ H Q I h
refine isTrue_or (thn (ha pins s σ H Q I h) λc s1 e=>?_)
cases c with
|false=>exact isTrue_or_nil e
|true=>exact e)
theorem q8V(ha:PT X a tA)(hb:PW X (.BoolOp .And (b::rest) pos) tB'):PW X (.BoolOp .And (a::b::rest) pos) (tAnd tA tB'):=by(
intro wh pins s σ H Q I h
refine isTrue_and (thn (ha pins s σ H _ I h) λc s1 hZ=>?_)
obtain⟨H1,I1,q1⟩:=hZ
cases c with
|true=>exact hb wh pins s1 σ H1 Q I1 q1
|false=>exact⟨H1,I1,q1⟩)
theorem q0C(ha:PT X a tA)(hb:PW X (.BoolOp .Or (b::rest) pos) tB'):PW X (.BoolOp .Or (a::b::rest) pos) (tOr tA tB'):=by(
intro wh pins s σ H Q I h
refine isTrue_or (thn (ha pins s σ H _ I h) λc s1 hZ=>?_)
obtain⟨H1,I1,q1⟩:=hZ
cases c with
|true=>exact⟨H1,I1,q1⟩
|false=>exact hb wh pins s1 σ H1 Q I1 q1)
theorem jO(ha:PT X a tA):PT X (.UnaryOp .Not a pos) (tNot tA):=by intro pins s σ H Q I h;exact isTrue_not (ha pins s σ H (λc H1=>Q (!c) H1) I h)
noncomputable def qGW(ta tb:TE):TE:=λσ H Q=>ta σ H λx H1=>∃c,x=.bl c∧if c=true then tb σ H1 Q else Q (.bl false) H1
noncomputable def tOrV(ta tb:TE):TE:=λσ H Q=>ta σ H λx H1=>∃c,x=.bl c∧if c=true then Q (.bl true) H1 else tb σ H1 Q
noncomputable def qGX(ta:TE):TE:=λσ H Q=>ta σ H λx H1=>∃c,x=.bl c∧Q (.bl (!c)) H1
theorem vF{op}{t:TE}(h:PE X a t):PE X (.BoolOp op [a] pos) t:=λpins s σ H Q I hw=>BoolOp_one (h pins s σ H Q I hw)
theorem zB(ha:PE X a ta)(hb:PE X (.BoolOp .And (b::rest) pos) tb):PE X (.BoolOp .And (a::b::rest) pos) (qGW ta tb):=by(
intro pins s σ H Q I h
refine BoolOp_and (thn (ha pins s σ H _ I h) λv s1 hZ=>?_)
obtain⟨x,H1,I1,r1,q1⟩:=hZ
obtain⟨c,rfl,q1⟩:=q1
cases r1
refine gE ?_
cases c with
|true=>exact hb pins s1 σ H1 Q I1 q1
|false=>exact⟨.bl false,H1,I1,rfl,q1⟩)
theorem qGY(ha:PE X a ta)(hb:PE X (.BoolOp .Or (b::rest) pos) tb):PE X (.BoolOp .Or (a::b::rest) pos) (tOrV ta tb):=by(
intro pins s σ H Q I h
refine BoolOp_or (thn (ha pins s σ H _ I h) λv s1 hZ=>?_)
obtain⟨x,H1,I1,r1,q1⟩:=hZ
obtain⟨c,rfl,q1⟩:=q1
cases r1
refine gE ?_
cases c with
|false=>exact hb pins s1 σ H1 Q I1 q1
|true=>exact⟨.bl true,H1,I1,rfl,q1⟩)
theorem q8W(ha:PE X a ta):PE X (.UnaryOp .Not a pos) (qGX ta):=by(
intro pins s σ H Q I h
refine UnaryOp_ (thn (ha pins s σ H _ I h) λv s1 hZ=>?_)
obtain⟨x,H1,I1,r1,q1⟩:=hZ
obtain⟨c,rfl,q1⟩:=q1
cases r1
exact not_of (gE ⟨.bl (!c),H1,I1,rfl,q1⟩))
noncomputable def tIf(t:TT)(ta tb:TE):TE:=λσ H Q=>t σ H λc H1=>if c=true then ta σ H1 Q else tb σ H1 Q
theorem qB9{c:Expr}(hc:PT X c tA)(ha:PE X a ta)(hb:PE X b tb):PE X (.IfExp c a b pos) (tIf tA ta tb):=by(
intro pins s σ H Q I h
refine wpAny_IfExp (thn (hc pins s σ H _ I h) λd s1 hZ=>?_)
obtain⟨H1,I1,q1⟩:=hZ
cases d with
|true=>exact ha pins s1 σ H1 Q I1 q1
|false=>exact hb pins s1 σ H1 Q I1 q1)
end
noncomputable def SqL(K:PySem.W.Frag)(H:Hp)(a:Addr)(xs:List V):Prop:=Rd H a (.lst xs)∨∃(o:Obj) (its:Array Value) (n:Nat),K.lookup a=some o∧o.cls=.type "list"∧o.dict=none∧o.data=.seq its n∧its.size≤sizeLine∧Vals xs its.toList
noncomputable def SqT(K:PySem.W.Frag)(H:Hp)(a:Addr)(xs:List V):Prop:=Rd H a (.tup xs)∨∃(o:Obj) (its:Array Value) (n:Nat),K.lookup a=some o∧o.cls=.type "tuple"∧o.data=.seq its n∧its.size≤sizeLine∧Vals xs its.toList
noncomputable def absV:Value→Option V
| .none=>some .non
| .bool b=>some (.bl b)
| .int i _=>some (.int i)
| .str x _=>some (.str x)
| .bytes b _=>some (.byt b)
| .float b _=>some (.flt b)
| .ref a=>some (.ref a)
| .type n=>some (.ty n)
|_=>none
theorem RelV.abs{x:V}{u:Value}(r:RelV x u):absV u=some x:=by(
cases x with
|non=>cases r;rfl
|bl _=>cases r;rfl
|int _=>obtain⟨t,rfl⟩:=r;rfl
|str _=>obtain⟨t,rfl⟩:=r;rfl
|byt _=>obtain⟨t,rfl⟩:=r;rfl
|flt _=>obtain⟨t,rfl⟩:=r;rfl
|ref _=>cases r;rfl
|ty _=>cases r;rfl)
theorem RelV.inj{x y:V}{u:Value}(r:RelV x u)(q:RelV y u):x=y:=kP (r.abs.symm.trans q.abs)
theorem Vals.inj{xs ys:List V}{us:List Value}(h:Vals xs us):Vals ys us→xs=ys:=by(
induction h generalizing ys with
|nil=>exact λg=>by cases g;rfl
|cons r t ih=>
 intro g;cases g with
 |cons r' t'=>rw[r.inj r',ih t'])
section
variable{X:Cx}{pins:List (Addr×Obj)}{σ:St}{H:Hp}{s:Shared}{a:Addr}{xs ys:List V}
theorem SqL.of{K:PySem.W.Frag}(h:H a=some (.lst xs)):SqL K H a xs:=.inl (.inl h)
theorem SqT.of{K:PySem.W.Frag}(h:H a=some (.tup xs)):SqT K H a xs:=.inl (.inl h)
theorem Inv.list(I:Inv X pins σ H s)(h:SqL X.K H a xs):∃its:List Value,Vals xs its∧PlainL s.heap a its.toArray∧xs.length≤sizeLine:=by(
rcases h with h|⟨o,its,n,hk,hc,hd,hs,hz,r⟩
·obtain⟨z,its,n,r,e⟩:=h.ok I.hok;exact⟨its,r,⟨_,n,e,rfl,rfl,rfl⟩,z⟩
refine⟨its.toList,r,⟨o,n,I.kIn a o hk,hc,hd,by simpa using hs⟩,?_⟩
have e:=r.length
simp only[gC]at e
lia)
theorem Inv.tuple(I:Inv X pins σ H s)(h:SqT X.K H a xs):∃its:List Value,Vals xs its∧IsTup s.heap a its.toArray∧xs.length≤sizeLine:=by(
rcases h with h|⟨o,its,n,hk,hc,hs,hz,r⟩
·obtain⟨z,its,r,p⟩:=h.ok I.hok;exact⟨its,r,p,z⟩
refine⟨its.toList,r,⟨o,I.kIn a o hk,hc,n,by simpa using hs⟩,?_⟩
have e:=r.length
simp only[gC]at e
lia)
theorem Inv.list_inj(I:Inv X pins σ H s)(h:SqL X.K H a xs)(h':SqL X.K H a ys):xs=ys:=by(
obtain⟨its,r,⟨o,n,e,_,_,d⟩,_⟩:=I.list h
obtain⟨its',r',⟨o',n',e',_,_,d'⟩,_⟩:=I.list h'
rw[e]at e';cases e'
rw[d]at d'
injection d' with d1 _
have:its=its':=by simpa using dS Array.toList d1
subst this
exact r.inj r')
end
noncomputable abbrev Cx.wish(X:Cx)(E:Value→Shared→Prop):Cx:={ X with xe:=E }
noncomputable abbrev Cx.nox(X:Cx):Cx:=X.wish λ_ _=>False
theorem Cx.Ok.wish{X:Cx}(ok:X.Ok)(E:Value→Shared→Prop):(X.wish E).Ok:=⟨ok.mod,ok.kind,ok.glob,ok.blt,ok.above,ok.inj,ok.has,ok.cab,ok.hd,ok.frames,ok.stk,ok.exf,ok.bs,ok.bsz,ok.noex,ok.exfs,ok.funs,ok.frf⟩
theorem Cx.Ok.unwish{X:Cx}{E:Value→Shared→Prop}(ok:(X.wish E).Ok):X.Ok:=⟨ok.mod,ok.kind,ok.glob,ok.blt,ok.above,ok.inj,ok.has,ok.cab,ok.hd,ok.frames,ok.stk,ok.exf,ok.bs,ok.bsz,ok.noex,ok.exfs,ok.funs,ok.frf⟩
section
variable{X:Cx}{pins:List (Addr×Obj)}{σ:St}{H:Hp}{s:Shared}{E:Value→Shared→Prop}
theorem Inv.wish(I:Inv X pins σ H s)(E:Value→Shared→Prop):Inv (X.wish E) pins σ H s:=⟨I.ok.wish E,I.os,I.bare,I.base,I.loc,I.cell,I.free,I.freeC,I.pin,I.hok,I.len⟩
theorem Inv.unwish(I:Inv (X.wish E) pins σ H s):Inv X pins σ H s:=⟨I.ok.unwish,I.os,I.bare,I.base,I.loc,I.cell,I.free,I.freeC,I.pin,I.hok,I.len⟩
theorem SP.unwish{D:Ends}{f:Flow}{s':Shared}(h:SP (X.wish E) pins D f s'):SP X pins D f s':=by(
cases f with
|next=>obtain⟨σ',H',I,q⟩:=h;exact⟨σ',H',I.unwish,q⟩
|brk=>obtain⟨σ',H',I,q⟩:=h;exact⟨σ',H',I.unwish,q⟩
|cont=>obtain⟨σ',H',I,q⟩:=h;exact⟨σ',H',I.unwish,q⟩
|ret u=>obtain⟨v,σ',H',I,r,q⟩:=h;exact⟨v,σ',H',I.unwish,r,q⟩)
theorem PSs.nox{st:List Stmt}{t:TS}(h:PSs X.nox st t):PSs X st t:=λpins s σ H D I hw=>gJ (h pins s σ H D (I.wish _) hw) (λ_ _ q=>q.unwish) λ_ _ z=>False.elim z
end
section
variable{X:Cx}{st:Stmt}{rest:List Stmt}{t u:TS}{e:Expr}{te:TE}{pos:Pos}
noncomputable def qGZ:TS:=λD σ H=>D.nx σ H
noncomputable def tSeq(t u:TS):TS:=λD σ H=>t { D with nx:=u D } σ H
theorem qL:PSs X [] qGZ:=λ_ _ σ H _ I h=>pA ⟨σ,H,I,h⟩
theorem qB(h1:PS X st t)(h2:PSs X rest u):PSs X (st::rest) (tSeq t u):=by(
intro pins s σ H D I h
refine wpAny_execs_cons (thn (h1 pins s σ H { D with nx:=u D } I h) λf s1 q=>?_)
cases f with
|next=>obtain⟨σ',H',I',q⟩:=q;exact h2 pins s1 σ' H' D I' q
|ret v=>exact q
|brk=>exact q
|cont=>exact q)
theorem qD(h1:PS X st t):PSs X [st] t:=by(
intro pins s σ H D I h
refine wpAny_execs_cons (thn (h1 pins s σ H D I h) λf s1 q=>?_)
cases f with
|next=>exact pA q
|ret v=>exact q
|brk=>exact q
|cont=>exact q)
theorem Inv.quiet{pins:List (Addr×Obj)}{σ:St}{H:Hp}{s:Shared}(I:Inv X pins σ H s):interactive X.env=false:=by simp[interactive,I.ok.kind]
noncomputable def qH0(te:TE):TS:=λD σ H=>te σ H λ_ H1=>D.nx σ H1
theorem jA(he:PE X e te)(hs:swapsWith e none pos.line X.env=pure false:=by rfl):PS X (.Expr e pos) (qH0 te):=by intro pins s σ H D I h;exact wpAny_Expr_any (thn (he pins s σ H _ I h) λv s1 ⟨x,H1,I1,r1,q1⟩=>⟨σ,H1,I1,q1⟩) I.quiet hs
noncomputable def tRet(te:TE):TS:=λD σ H=>te σ H D.rt
theorem qO(he:PE X e te):PS X (.Return (some e) pos) (tRet te):=by intro pins s σ H D I h;exact wpAny_Return_some (thn (he pins s σ H _ I h) λv s1 ⟨x,H1,I1,r1,q1⟩=>⟨x,σ,H1,I1,r1,q1⟩)
noncomputable def tIfS(c:TT)(t u:TS):TS:=λD σ H=>c σ H λb H1=>if b=true then t D σ H1 else u D σ H1
theorem j8{c:Expr}{a b:List Stmt}{tc:TT}(hc:PT X c tc)(ha:PSs X a t)(hb:PSs X b u):PS X (.If c a b pos) (tIfS tc t u):=by(
intro pins s σ H D I h
refine wpAny_If (thn (hc pins s σ H _ I h) λd s1 hZ=>?_)
obtain⟨H1,I1,q1⟩:=hZ
cases d with
|true=>exact ha pins s1 σ H1 D I1 q1
|false=>exact hb pins s1 σ H1 D I1 q1)
noncomputable def qF3:TS:=λ_ _ _=>False
theorem qT:PS X st qF3:=λ_ _ _ _ _ _ h=>h.elim
end
noncomputable abbrev TG:=V→St→Hp→(St→Hp→Prop)→Prop
noncomputable abbrev TGs:=List V→St→Hp→(St→Hp→Prop)→Prop
noncomputable def PG(X:Cx)(target:Expr)(t:TG):Prop:=∀(pins:List (Addr×Obj)) (s:Shared) (σ:St) (H:Hp) (v:V) (u:Value) (Q:St→Hp→Prop),Inv X pins σ H s→RelV v u→t v σ H Q→wpAny (model X.prog X.w) X.A (assign target X.env u) (λ_ s'=>∃σ' H',Inv X pins σ' H' s'∧Q σ' H') X.xe s
noncomputable def PGs(X:Cx)(ts:List Expr)(t:TGs):Prop:=∀(pins:List (Addr×Obj)) (s:Shared) (σ:St) (H:Hp) (vs:List V) (us:List Value) (Q:St→Hp→Prop),Inv X pins σ H s→Vals vs us→t vs σ H Q→wpAny (model X.prog X.w) X.A (assignInOrder ((assignEach ts X.env).map (·.2)) us) (λ_ s'=>∃σ' H',Inv X pins σ' H' s'∧Q σ' H') X.xe s
noncomputable abbrev TSet:=V→V→V→Hp→(Hp→Prop)→Prop
noncomputable def PSet(X:Cx)(t:TSet):Prop:=∀(pins:List (Addr×Obj)) (s:Shared) (σ:St) (H:Hp) (o i v:V) (ov iv u:Value) (Q:Hp→Prop),Inv X pins σ H s→RelV o ov→RelV i iv→RelV v u→t o i v H Q→wpAny (model X.prog X.w) X.A (setItem ov iv u) (λ_ s'=>∃H',Inv X pins σ H' s'∧Q H') X.xe s
noncomputable abbrev TIp:=V→V→Hp→VK→Prop
noncomputable def PIp(X:Cx)(op:Operator)(t:TIp):Prop:=∀(pins:List (Addr×Obj)) (s:Shared) (σ:St) (H:Hp) (x y:V) (v u:Value) (Q:VK),Inv X pins σ H s→RelV x v→RelV y u→t x y H Q→wpAny (model X.prog X.w) X.A (inplaceOp op v u) (EP X pins σ Q) X.xe s
section
variable{X:Cx}{pos:Pos}
noncomputable def vT(i:Nat):TG:=λv σ H Q=>Q (σ.set i (some v)) H
theorem qY{i:Nat}{x:Str}(hN:X.N.Nodup)(hi:X.N[i]?=some x)(hx:Loc X.env.scope x)(hf:X.fn x=true∨X.env.scope.names.lookup x=some .local:=by first|exact .inl rfl|exact .inr rfl|assumption):PG X (.Name x pos) (vT i):=by intro pins s σ H v u Q I r h;exact sO (q2A I hN hi hx r (λs' I'=>⟨_,H,I',h⟩) hf)
noncomputable def gNil:TGs:=λvs σ H Q=>vs=[]∧Q σ H
noncomputable def qEN(t:TG)(u:TGs):TGs:=λvs σ H Q=>∃v r,vs=v::r∧t v σ H λσ' H'=>u r σ' H' Q
theorem q15:PGs X [] gNil:=by(
intro pins s σ H vs us Q I r h
obtain⟨e,h⟩:=h
subst e
cases r
exact assignInOrder_nil ⟨σ,H,I,h⟩)
theorem jW{e:Expr}{es:List Expr}{t:TG}{u:TGs}(h1:PG X e t)(h2:PGs X es u)
 (hs:(assignEach (e::es) X.env).map (·.2)=assign e X.env::(assignEach es X.env).map (·.2):=by rfl):PGs X (e::es) (qEN t u):=by(
intro pins s σ H vs us Q I r h
obtain⟨v,vr,e1,h⟩:=h
subst e1
cases r with
|cons r rr=>rw[hs];refine assignInOrder_cons (thn (h1 pins s σ H _ _ _ I r h) λ_ s1 hZ=>?_);obtain⟨σ1,H1,I1,q1⟩:=hZ;exact h2 pins s1 σ1 H1 _ _ Q I1 rr q1)
noncomputable def gTup(K:PySem.W.Frag)(n:Nat)(t:TGs):TG:=λv σ H Q=>∃a xs,v=.ref a∧SqT K H a xs∧xs.length=n∧t xs σ H Q
theorem q2Z{es:List Expr}{k:Nat}{t:TGs}{n:Nat}(hc:X.calm=true)(h:PGs X es t)
 (hn:(assignEach es X.env).length=n:=by rfl) (hst:(assignEach es X.env).findIdx? (·.1)=none:=by rfl):PG X (.Tuple es k pos) (gTup X.K n t):=by(
intro pins s σ H v u Q I r hw
obtain⟨a,xs,e1,hq,hl,hw⟩:=hw
subst e1
cases r
obtain⟨its,rv,ht,hz⟩:=I.tuple hq
refine assign_Tuple_tuple (I.ok.hd hc) ht (by simp[hn,←hl,rv.length]) hst λh' hx=>?_
have I1:Inv X pins σ H { s with heap:=h' }:=I.kept (t':=s.toks) λb o e=>hx b o (mF (kM e)) e
exact h pins _ σ H xs _ Q I1 (by simpa using rv) hw)
noncomputable def gSub(to ti:TE)(t:TSet):TG:=λv σ H Q=>to σ H λo H1=>ti σ H1 λi H2=>t o i v H2 λH3=>Q σ H3
theorem qBA{o i:Expr}{to ti:TE}{t:TSet}(ho:PE X o to)(hi:PE X i ti)(hs:PSet X t)
 (ha:∀v,assign (.Subscript o i pos) X.env v=(do
  let ov←holding [v] (eval o X.env)
  let iv←holding [v,ov] (eval i X.env)
  standAt pos
  holding [v,ov,iv] (setItem ov iv v)
  release [v,ov,iv] []):=by intro _;rfl):PG X (.Subscript o i pos) (gSub to ti t):=by(
intro pins s σ H v u Q I r h
rw[ha]
refine kG (gY (thn (ho pins s σ H _ I h) λov s1 hZ=>?_))
obtain⟨x,H1,I1,r1,q1⟩:=hZ
refine kG (gY (thn (hi pins s1 σ H1 _ I1 q1) λiv s2 hZ=>?_))
obtain⟨y,H2,I2,r2,q2⟩:=hZ
refine kG (cS (kG (gY (thn (hs pins s2 σ H2 x y v ov iv u _ I2 r1 r2 r q2) λ_ s3 hZ=>?_))))
obtain⟨H3,I3,q3⟩:=hZ
exact wpAny_release ⟨σ,H3,I3,q3⟩)
noncomputable def tAsg(te:TE)(g:TG):TS:=λD σ H=>te σ H λx H1=>g x σ H1 D.nx
theorem q8X{tg e:Expr}{te:TE}{g:TG}(he:PE X e te)(hg:PG X tg g)(hs:swapsWithSole [tg] e pos.line X.env=pure false:=by rfl)(hw:swappedStores [tg] e X.env=pure none:=by rfl)
 (h1:(assignEach [tg] X.env).map (·.2)=[assign tg X.env]:=by rfl):PS X (.Assign [tg] e pos) (tAsg te g):=by(
intro pins s σ H D I h
refine wpAny_Assign_stores (thn (he pins s σ H _ I h) λv s1 hZ=>?_) hs hw
obtain⟨x,H1,I1,r1,q1⟩:=hZ
rw[h1]
exact thn (hg pins s1 σ H1 x v _ I1 r1 q1) λ_ s2 q=>q)
theorem qV{i:Nat}{x:Str}{e:Expr}{te:TE}{pos':Pos}(hN:X.N.Nodup)(hi:X.N[i]?=some x)(hx:Loc X.env.scope x)(he:PE X e te)(hs:swapsWith e (some (.Name x pos')) pos.line X.env=pure false:=by rfl)(hf:X.fn x=true∨X.env.scope.names.lookup x=some .local:=by first|exact .inl rfl|exact .inr rfl|assumption):
 PS X (.Assign [.Name x pos'] e pos) (tAsg te (vT i)):=by(
intro pins s σ H D I h
refine wpAny_Assign_Name (thn (he pins s σ H _ I h) λv s1 hZ=>?_) hs
obtain⟨y,H1,I1,r1,q1⟩:=hZ
exact q2A I1 hN hi hx r1 (λs2 I2=>⟨_,H1,I2,q1⟩) hf)
noncomputable def tAug(i:Nat)(te:TE)(ti:TIp):TS:=λD σ H=>∃x,σ[i]?=some (some x)∧te σ H λy H1=>ti x y H1 λz H2=>D.nx (σ.set i (some z)) H2
theorem qF4{i:Nat}{x:Str}{e:Expr}{te:TE}{op:Operator}{ti:TIp}{pos':Pos}(hN:X.N.Nodup)(hi:X.N[i]?=some x)(hx:Loc X.env.scope x)(he:PE X e te)(ho:PIp X op ti)(hf:X.fn x=true∨X.env.scope.names.lookup x=some .local:=by first|exact .inl rfl|exact .inr rfl|assumption):
 PS X (.AugAssign (.Name x pos') op e pos) (tAug i te ti):=by(
intro pins s σ H D I h
obtain⟨v,e1,h⟩:=h
obtain⟨m,hn,hl⟩:=I.loc
have vis:Vis X.env.scope x:=by rcases hx with k|k;exact .inl k;exact .inr (.inl k)
obtain⟨u,r,l⟩:=hl i x v hi e1 vis
refine wpAny_AugAssign_Name ?_
have go:wpAny (model X.prog X.w) X.A (eval e X.env) (λw s₂=>wpAny (model X.prog X.w) X.A (inplaceOp op u w) (λr s₃=>wpAny (model X.prog X.w) X.A (storeName X.env x r) (λ_=>SP X pins D .next) X.xe s₃) X.xe s₂) X.xe s:=by refine thn (he pins s σ H _ I h) λw s1 hZ=>?_;obtain⟨y,H1,I1,r1,q1⟩:=hZ;refine thn (ho pins s1 σ H1 v y u w _ I1 r r1 q1) λz s2 hZ=>?_;obtain⟨zv,H2,I2,r2,q2⟩:=hZ;exact q2A I2 hN hi hx r2 (λs3 I3=>⟨_,H2,I3,q2⟩) hf
rcases l with⟨hk,hm⟩|⟨hk,c,hc,hcell⟩
·exact pL I.ok.kind hk hn hm go
rcases hk with hk|hk
·exact pT I.ok.kind hk hc hcell go
rcases hx with k|k
·have:X.env.scope.names.lookup x=some .free:=hk;rw[k]at this;cases this
have:X.env.scope.names.lookup x=some .free:=hk
rw[k]at this;cases this)
noncomputable def qH1(to ti te:TE)(tget:V→V→Hp→VK→Prop)(tip:TIp)(tset:TSet):TS:=λD σ H=>to σ H λo H1=>ti σ H1 λi H2=>tget o i H2 λx H3=>te σ H3 λy H4=>tip x y H4 λz H5=>tset o i z H5 λH6=>D.nx σ H6
noncomputable def PGet(X:Cx)(t:V→V→Hp→VK→Prop):Prop:=∀(pins:List (Addr×Obj)) (s:Shared) (σ:St) (H:Hp) (o i:V) (ov iv:Value) (Q:VK),Inv X pins σ H s→RelV o ov→RelV i iv→t o i H Q→wpAny (model X.prog X.w) X.A (getItem ov iv) (EP X pins σ Q) X.xe s
theorem q44{o i e:Expr}{to ti te:TE}{tget:V→V→Hp→VK→Prop}{tip:TIp}{tset:TSet}{op:Operator}{tpos:Pos}(ho:PE X o to)(hi:PE X i ti)(hg:PGet X tget)(he:PE X e te)(hp:PIp X op tip)(hs:PSet X tset)
 (ha:∀ov iv new,augStore i ov iv new=(do holding [new,ov,iv] (setItem ov iv new);release [new,ov,iv] [];pure .next):=by intros;rfl):PS X (.AugAssign (.Subscript o i tpos) op e pos) (qH1 to ti te tget tip tset):=by(
intro pins s σ H D I h
refine wS (thn (ho pins s σ H _ I h) λov s1 hZ=>?_) ha
obtain⟨x1,H1,I1,r1,q1⟩:=hZ
refine thn (hi pins s1 σ H1 _ I1 q1) λiv s2 hZ=>?_
obtain⟨x2,H2,I2,r2,q2⟩:=hZ
refine thn (hg pins s2 σ H2 x1 x2 ov iv _ I2 r1 r2 q2) λold s3 hZ=>?_
obtain⟨x3,H3,I3,r3,q3⟩:=hZ
refine thn (he pins s3 σ H3 _ I3 q3) λv s4 hZ=>?_
obtain⟨x4,H4,I4,r4,q4⟩:=hZ
refine thn (hp pins s4 σ H4 x3 x4 old v _ I4 r3 r4 q4) λnew s5 hZ=>?_
obtain⟨x5,H5,I5,r5,q5⟩:=hZ
exact thn (hs pins s5 σ H5 x1 x2 x5 ov iv new _ I5 r1 r2 r5 q5) λ_ s6 ⟨H6,I6,q6⟩=>⟨σ,H6,I6,q6⟩)
noncomputable def ipI(f:Int→Int→Int):TIp:=λx y H Q=>∃i j,x=.int i∧y=.int j∧Q (.int (f i j)) H
theorem q6V:PIp X .Add (ipI λi j=>i+j):=by(
intro pins s σ H x y v u Q I r1 r2 h
obtain⟨i,j,e1,e2,q⟩:=h
subst e1;subst e2
obtain⟨t,rfl⟩:=r1
obtain⟨t',rfl⟩:=r2
exact iadd_int ⟨.int _,H,I.tok _,⟨_,rfl⟩,q⟩)
theorem qF5:PIp X .Sub (ipI λi j=>i-j):=by(
intro pins s σ H x y v u Q I r1 r2 h
obtain⟨i,j,e1,e2,q⟩:=h
subst e1;subst e2
obtain⟨t,rfl⟩:=r1
obtain⟨t',rfl⟩:=r2
exact isub_int ⟨.int _,H,I.tok _,⟨_,rfl⟩,q⟩)
end
structure It where
go:Nat→Hp→Prop
yld:Nat→Hp→V→Hp→Prop
stop:Nat→Hp→Prop
noncomputable def FpOk(X:Cx)(pins:List (Addr×Obj))(H:Hp)(b:Addr):Prop:=H b=none∧b≠X.env.locals∧b∉X.fs∧(b∈X.ex∨X.s₀.heap.objs.size≤b)∧(∀x c,X.env.cells.lookup x=some c→c≠b)∧∀p∈X.pn++pins,p.1≠b
theorem Inv.fpOk{X:Cx}{pins:List (Addr×Obj)}{σ:St}{H H':Hp}{s:Shared}{b:Addr}(I:Inv X pins σ H s)(hb:s.heap.objs.size≤b)(hn:H' b=none):FpOk X pins H' b:=by(
refine⟨hn,d0 (kZ I.lt hb),I.nofs hb,.inr (mI I.sz hb),λx c e z=>?_,λp hp z=>?_⟩
·obtain⟨v,q⟩:=I.cell x c e;exact absurd (kZ q.lt (by rw[z];exact hb)) (gS _)
exact absurd (kZ (kM (I.pin p hp).1) (by rw[z];exact hb)) (gS _))
structure Turn(P:Program)(w:World)(K:PySem.W.Frag)(tg:Expr)(J:It)(fp:List Addr)(it:Addr)(tn:Nat→Heap→Prop):Prop where
mem:it∈fp
obj:∀i h,tn i h→∀b∈fp,∃o,h.get? b=some o∧∀v,o.data≠ .cell v
keep:∀i h h',tn i h→(∀b∈fp,∀o,h.get? b=some o→h'.get? b=some o)→tn i h'
item:∀(X:Cx),X.prog=P→X.w=w→X.K=K→X.calm=true→∀(i:Nat) (pins:List (Addr×Obj)) (s:Shared) (σ:St) (H:Hp) (E:Value→Shared→Prop),Inv X pins σ H s→(∀b∈fp,FpOk X pins H b)→tn i s.heap→J.go i H→wpAny (model P w) X.A (pyNext (.ref it)) (λr s1=>∃u,r=some u∧wpAny (model P w) X.A (letOwnedTupleGo tg (.ref it) u) (λ_ s2=>∃x H',Inv X pins σ H' s2∧RelV x u∧J.yld i H x H'∧tn (i+1) s2.heap∧∀b∈fp,H' b=none) E s1) E s
done:∀(X:Cx),X.prog=P→X.w=w→X.K=K→X.calm=true→∀(i:Nat) (pins:List (Addr×Obj)) (s:Shared) (σ:St) (H:Hp) (E:Value→Shared→Prop),Inv X pins σ H s→(∀b∈fp,FpOk X pins H b)→tn i s.heap→J.stop i H→wpAny (model P w) X.A (pyNext (.ref it)) (λr s1=>r=none∧Inv X pins σ H s1) E s
self:∀(A:Around) (i:Nat) (s:Shared) (Q:Value→Shared→Prop) (E:Value→Shared→Prop),tn i s.heap→Q (.ref it) s→wpAny (model P w) A (pyIter (.ref it)) Q E s
noncomputable abbrev TI:=St→Hp→(It→Hp→Prop)→Prop
noncomputable def PIE(X:Cx)(pins:List (Addr×Obj))(σ:St)(tg:Expr)(R:It→Hp→Prop)(itv:Value)(s2:Shared):Prop:=∃(it:Addr) (fp:List Addr) (tn:Nat→Heap→Prop) (J:It) (H':Hp),itv=.ref it∧Inv X pins σ H' s2∧Turn X.prog X.w X.K tg J fp it tn∧tn 0 s2.heap∧(∀b∈fp,FpOk X pins H' b)∧R J H'
noncomputable def PI(X:Cx)(tg iter:Expr)(wi:TI):Prop:=∀(pins:List (Addr×Obj)) (s:Shared) (σ:St) (H:Hp) (R:It→Hp→Prop),Inv X pins σ H s→wi σ H R→wpAny (model X.prog X.w) X.A (eval iter X.env) (λv s1=>wpAny (model X.prog X.w) X.A (pyIter v) (PIE X pins σ tg R) X.xe s1) X.xe s
theorem q9P{M:Model}{A:Around}{E:Value→Shared→Prop}{s:Shared}{tg:Expr}{it:Addr}{u:Value}{o:Obj}{n:String}{vs:Array Value}{Q:Unit→Shared→Prop}(ho:s.heap.get? it=some o)(hc:o.cls=.type n)(hd:o.data=.fields vs)
 (hn:["enumerate","zip","dict_itemiterator","dict_reverseitemiterator","odict_iterator","itertools.zip_longest","itertools.pairwise"].contains n=false) (hQ:Q () s):wpAny M A (letOwnedTupleGo tg (.ref it) u) Q E s:=by(
unfold letOwnedTupleGo
cases tg<;>first
 |exact kX hQ
 |(cases u<;>first
  |exact kX hQ
  |(refine kG (wpAny_load ho ?_)
    rw[hc,hd];show wpAny M A (if(["enumerate","zip","dict_itemiterator","dict_reverseitemiterator","odict_iterator","itertools.zip_longest","itertools.pairwise"].contains n&&vs[0]?==some (rawInt _))=true then _ else _) Q E s;rw[kI (by intro h;rw[hn,nS]at h;cases h)];exact kX hQ)))
noncomputable def Itl(K:PySem.W.Frag)(a:Addr):It:=⟨λi H=>∃xs x,SqL K H a xs∧xs[i]?=some x,λi H x H'=>H'=H∧∀xs,SqL K H a xs→xs[i]?=some x,λi H=>∃xs,SqL K H a xs∧xs.length≤i⟩
noncomputable def Itr(lo:Int)(n:Nat):It:=⟨λi _=>i<n,λi H x H'=>H'=H∧x=.int (lo+i),λi _=>n≤i⟩
theorem qAI{P:Program}{w:World}{K:PySem.W.Frag}{tg:Expr}(a it:Addr):Turn P w K tg (Itl K a) [it] it (λi h=>h.IsListIter it a i) where
mem:=by simp
obj:=λi h st b hb=>by
 have e:b=it:=by simpa using hb
 subst e;obtain⟨o,e,c,d⟩:=st;exact⟨o,e,λv z=>by rw[d]at z;cases z⟩
keep:=λi h h' st k=>st.at λo e=>k it (by simp) o e
item:=by intro X hP hw hK hc i pins s σ H E I hf st hg;subst hP hw hK;obtain⟨xs,x,hq,hx⟩:=hg;obtain⟨its,rv,p,hz⟩:=I.list hq;obtain⟨u,hu,ru⟩:=rv.get hx;obtain⟨f0,f1,f2,f3,f4,f5⟩:=hf it (by simp);refine wpAny_pyNext_list_item st p.isList (x:=u) (by simpa using hu) λh' st' sb=>?_;have I1:Inv X pins σ H { s with heap:=h' }:=I.turned (t':=s.toks) (λb o hb e=>(sb.2 b hb).trans e) f0 f1 f3 f4 f5;obtain⟨o,e,c,d⟩:=id st';exact⟨u,rfl,q9P (s:={ s with heap:=h' }) e c d (by decide) ⟨x,H,I1,ru,⟨rfl,λys hy=>by rw[I.list_inj hy hq];exact hx⟩,st',λb hb=>(hf b hb).1⟩⟩
done:=by intro X hP hw hK hc i pins s σ H E I hf st hg;subst hP hw hK;obtain⟨xs,hq,hx⟩:=hg;obtain⟨its,rv,p,hz⟩:=I.list hq;obtain⟨f0,f1,f2,f3,f4,f5⟩:=hf it (by simp);have hl:=rv.length;exact wpAny_pyNext_list_end (I.ok.hd hc) st p.isList (by simp;lia) λh' eb=>⟨rfl,I.turned (t':=s.toks) (λb o hb e=>eb b o hb e) f0 f1 f3 f4 f5⟩
self:=λ_ _ _ _ _ st h=>wpAny_pyIter_listiter st h
theorem q8Y{P:Program}{w:World}{K:PySem.W.Frag}{tg:Expr}(it:Addr)(lo:Int)(n:Nat):Turn P w K tg (Itr lo n) [it] it (λi h=>IsRangeIter h it (lo+(i:Nat)*1) ((n:Int)-(i:Nat)) 1) where
mem:=by simp
obj:=λi h st b hb=>by
 have e:b=it:=by simpa using hb
 subst e;exact⟨_,st,λv z=>by have z':Data.fields _=Data.cell v:=z;cases z'⟩
keep:=λi h h' st k=>k it (by simp) _ st
item:=by intro X hP hw hK hc i pins s σ H E I hf st hg;subst hP hw hK;obtain⟨f0,f1,f2,f3,f4,f5⟩:=hf it (by simp);have W:=Walks.range (prog:=X.prog) (w:=X.w) (I.ok.hd hc) it lo 1 n;refine W.item i s _ _ hg st λv h' tk hv st' kk=>?_;obtain⟨t,rfl⟩:=hv;have I1:Inv X pins σ H { s with heap:=h',toks:=tk }:=I.turned (λb o hb e=>kk b o (by simpa using hb) e) f0 f1 f3 f4 f5;refine⟨_,rfl,q9P (s:={ s with heap:=h',toks:=tk }) (n:="range_iterator") st' rfl rfl (by decide) ⟨.int (lo+i),H,I1,⟨t,?_⟩,⟨rfl,rfl⟩,st',λb hb=>(hf b hb).1⟩⟩;rw[Int.mul_one]
done:=by intro X hP hw hK hc i pins s σ H E I hf st hg;subst hP hw hK;obtain⟨f0,f1,f2,f3,f4,f5⟩:=hf it (by simp);exact wpAny_pyNext_range_end (I.ok.hd hc) st (by have:n≤i:=hg;lia) λh' eb=>⟨rfl,I.turned (t':=s.toks) (λb o hb e=>eb b o hb e) f0 f1 f3 f4 f5⟩
self:=λ_ _ _ _ _ st h=>wpAny_pyIter_rangeiter st h
section
variable{X:Cx}{tg:Expr}
noncomputable def qH2(K:PySem.W.Frag)(tl:TE):TI:=λσ H R=>tl σ H λx H1=>∃a,x=.ref a∧(∃xs,SqL K H1 a xs)∧R (Itl K a) H1
theorem yA{l:Expr}{tl:TE}(hl:PE X l tl):PI X tg l (qH2 X.K tl):=by(
intro pins s σ H R I h
refine thn (hl pins s σ H _ I h) λv s1 hZ=>?_
obtain⟨x,H1,I1,r1,q1⟩:=hZ
obtain⟨a,e,⟨xs,hq⟩,q⟩:=q1
subst e
cases r1
obtain⟨its,rv,p,hz⟩:=I1.list hq
refine cL p.isList ?_
refine⟨s1.heap.objs.size,[s1.heap.objs.size],_,_,H1,rfl,I1.kept (t':=s1.toks) λb o e=>hU _ e,qAI a _,⟨_,kY _ rfl,rfl,rfl⟩,λb hb=>?_,q⟩
have e:b=s1.heap.objs.size:=by simpa using hb
subst e
exact I1.fpOk (kH _) (I1.hok.fresh (kH _)))
theorem qBB{pins:List (Addr×Obj)}{σ:St}{H:Hp}{s:Shared}{R:It→Hp→Prop}{E:Value→Shared→Prop}{lo hi:Int}{t u v:Tok}{tk:Nat}(I:Inv X pins σ H s)(h1:-(2 ^ 62)≤lo)(h2:lo<2 ^ 62)(h3:-(2 ^ 62)≤hi)(h4:hi<2 ^ 62)
 (q:R (Itr lo (hi-lo).toNat) H):wpAny (model X.prog X.w) X.A (pyIter (.ref s.heap.objs.size)) (PIE X pins σ tg R) E { s with heap:=s.heap.push { cls:=.type "range",data:=.fields #[.int lo t,.int hi u,.int 1 v] },toks:=tk }:=by(
refine wpAny_pyIter_range (IsRange.new ..) (small_one h1 h2 h3 h4) ?_
have I1:Inv X pins σ H { s with heap:=s.heap.push { cls:=.type "range",data:=.fields #[.int lo t,.int hi u,.int 1 v] },toks:=tk }:=I.kept λb o e=>hU _ e
refine⟨(s.heap.push { cls:=.type "range",data:=.fields #[.int lo t,.int hi u,.int 1 v] }).objs.size,[(s.heap.push { cls:=.type "range",data:=.fields #[.int lo t,.int hi u,.int 1 v] }).objs.size],_,_,H,rfl,I1.kept (t':=tk) λb o e=>hU _ e,q8Y _ lo (hi-lo).toNat,?_,λb hb=>?_,q⟩
·have e1:lo+((0:Nat):Int)*1=lo:=by simp
 have e2:(((hi-lo).toNat:Nat):Int)-((0:Nat):Int)=Builtin.Range.rangeSize lo hi 1:=by rw[rangeSize_one];split<;>lia
 show IsRangeIter _ _ (lo+((0:Nat):Int)*1) ((((hi-lo).toNat:Nat):Int)-((0:Nat):Int)) 1;rw[e1,e2];exact kY _ rfl
have e:b=(s.heap.push { cls:=.type "range",data:=.fields #[.int lo t,.int hi u,.int 1 v] }).objs.size:=by simpa using hb
subst e
exact I1.fpOk (kH _) (I1.hok.fresh (kH _)))
noncomputable def qH3(ta:TA):TI:=λσ H R=>ta σ H λvs H1=>∃j:Int,vs=[.int j]∧-(2 ^ 62)≤j∧j<2 ^ 62∧R (Itr 0 j.toNat) H1
theorem vD{a:Expr}{ta:TA}{p pos:Pos}(hg:Gl X "range")(hm:X.mg "range"=none)(ha:PA X [a] ta)(hs:starEach [a] X.env=[(false,eval a X.env)]:=by rfl):PI X tg (.Call (.Name "range" p) [a] [] pos) (qH3 ta):=by(
intro pins s σ H R I h
refine Call_ (q4G I hg hm boot_range (wZ (thn (ha pos pins s σ H _ I h) λus s1 hZ=>?_) hs rfl))
obtain⟨vs,H1,I1,r1,q1⟩:=hZ
obtain⟨j,e,q1,q2,q⟩:=q1
subst e
cases r1 with
|cons r rr=>cases rr;obtain⟨t,rfl⟩:=r;exact call_range_1 (qBB I1 (by lia) (by lia) q1 q2 (by simpa using q)))
noncomputable def tFor(wi:TI)(g:TG)(tb:TS):TS:=λD σ H=>wi σ H λJ H1=>∃W:Nat→Nat→St→Hp→Prop,(∃m,W 0 m σ H1)∧∀i m σ H,W i m σ H→(J.stop i H∧D.nx σ H)∨(J.go i H∧∃N:St→Hp→Prop,(∀σ' H',N σ' H'→∃m',m'<m∧W (i+1) m' σ' H')∧∀x H',J.yld i H x H'→g x σ H' λσ2 H2=>tb { D with nx:=N,ct:=N,bk:=D.nx } σ2 H2)
noncomputable def q4I(fp:List Addr)(h:Heap):List (Addr×Obj):=fp.filterMap λb=>(h.get? b).map λo=>(b,o)
theorem uJ{fp:List Addr}{h:Heap}{b:Addr}{o:Obj}(hb:b∈fp)(e:h.get? b=some o):(b,o)∈q4I fp h:=rW.mpr ⟨b,hb,by rw[e];rfl⟩
theorem qAJ{fp:List Addr}{h:Heap}{p:Addr×Obj}(hp:p∈q4I fp h):p.1∈fp∧h.get? p.1=some p.2:=by(
obtain⟨b,hb,e⟩:=rW.mp hp
cases q:h.get? b with
|none=>rw[q]at e;cases e
|some o=>rw[q]at e;have e':(b,o)=p:=kP e;subst e';exact⟨hb,q⟩)
theorem Inv.pinned{pins:List (Addr×Obj)}{σ:St}{H:Hp}{s:Shared}{fp:List Addr}(I:Inv X pins σ H s)(hf:∀b∈fp,FpOk X pins H b)(ho:∀b∈fp,∃o,s.heap.get? b=some o∧∀v,o.data≠ .cell v):Inv X (pins++q4I fp s.heap) σ H s:=I.pins_of λp hp=>(mO.mp hp).elim (λz=>I.pin p (kN _ z)) λz=>by  obtain⟨hb,e⟩:=qAJ z;obtain⟨f0,f1,f2,_⟩:=hf p.1 hb;obtain⟨o,e',d⟩:=ho p.1 hb;rw[e]at e';cases e';exact⟨e,f0,f1,f2,d⟩
theorem Inv.unpinned{pins pl:List (Addr×Obj)}{σ:St}{H:Hp}{s:Shared}(I:Inv X (pins++pl) σ H s):Inv X pins σ H s:=I.pins_of λp hp=>I.pin p (kN _ (mD _ hp))
theorem vG{iter:Expr}{body:List Stmt}{wi:TI}{g:TG}{tb:TS}{pos:Pos}(hp:PassesOwn (model X.prog X.w) X.A X.env X.xe)(hc:X.calm=true)(hi:PI X tg iter wi)(hg:PG X tg g)(hb:PSs X body tb)
 (hs:∀x,foldedSetIterable iter X.env x=pure x:=by intro _;rfl):PS X (.For tg iter body [] pos) (tFor wi g tb):=by(
intro pins s σ H D I h
refine wpAny_For (thn (hi pins s σ H _ I h) λv s1 h1=>thn h1 λitv s2 h2=>?_) hs
obtain⟨it,fp,tn,J,H2,e,I2,T,st2,f2,W,⟨m0,w0⟩,turn⟩:=h2
subst e
have stat:∀{H':Hp},(∀b∈fp,H' b=none)→∀b∈fp,FpOk X pins H' b:=λhn b hb=>⟨hn b hb,(f2 b hb).2⟩
refine codeAny_forLoop_any (λn s'=>∃i σ' H',Inv X pins σ' H' s'∧tn i s'.heap∧(∀b∈fp,H' b=none)∧W i n σ' H') ?_ m0 ⟨0,σ,H2,I2,st2,λb hb=>(f2 b hb).1,w0⟩
rintro n s3 ⟨i,σ3,H3,I3,st3,fr3,w3⟩
rcases turn i n σ3 H3 w3 with⟨stop,qn⟩|⟨go,N,hN,step⟩
·refine rV hp (thn (T.done X rfl rfl rfl hc i pins s3 σ3 H3 X.xe I3 (stat fr3) st3 stop) λr s4 hZ=>?_);obtain⟨hr,I4⟩:=hZ;subst hr;exact pA ⟨σ3,H3,I4,qn⟩
refine rV hp (thn (T.item X rfl rfl rfl hc i pins s3 σ3 H3 X.xe I3 (stat fr3) st3 go) λr s4 hZ=>?_)
obtain⟨u,hr,h4⟩:=hZ
subst hr
refine rV hp (thn h4 λ_ s5 hZ=>?_)
obtain⟨x,H5,I5,r5,y5,st5,fr5⟩:=hZ
have I5':=I5.pinned (stat fr5) (T.obj _ _ st5)
refine rV hp (thn (hg _ s5 σ3 H5 x u _ I5' r5 (step x H5 y5)) λ_ s6 hZ=>?_)
obtain⟨σ6,H6,I6,q6⟩:=hZ
refine rV hp (thn (hb _ s6 σ6 H6 _ I6 q6) λf s7 q7=>?_)
have again:∀{σ7:St} {H7:Hp},Inv X (pins++q4I fp s5.heap) σ7 H7 s7→N σ7 H7→∃m,m<n∧∃i σ' H',Inv X pins σ' H' s7∧tn i s7.heap∧(∀b∈fp,H' b=none)∧W i m σ' H':=fun {σ7 H7} I7 n7=>by obtain⟨m',hm,w7⟩:=hN σ7 H7 n7;refine⟨m',hm,i+1,σ7,H7,I7.unpinned,T.keep _ _ _ st5 λb hb o e=>(I7.pin (b,o) (kN _ (kN _ (uJ hb e)))).1,λb hb=>?_,w7⟩;obtain⟨o,e,d⟩:=T.obj _ _ st5 b hb;exact(I7.pin (b,o) (kN _ (kN _ (uJ hb e)))).2.1
cases f with
|next=>obtain⟨σ7,H7,I7,n7⟩:=q7;exact again I7 n7
|cont=>obtain⟨σ7,H7,I7,n7⟩:=q7;exact again I7 n7
|brk=>obtain⟨σ7,H7,I7,q7⟩:=q7;exact⟨σ7,H7,I7.unpinned,q7⟩
|ret v=>obtain⟨x7,σ7,H7,I7,r7,q7⟩:=q7;exact⟨x7,σ7,H7,I7.unpinned,r7,q7⟩)
end
theorem q0D{K:PySem.W.Frag}{a:Addr}{xs:List V}{g:TG}{tb:TS}{D:Ends}{σ:St}{H:Hp}(Pv:Nat→St→Hp→Prop)(h0:Pv 0 σ H)(hl:∀i σ H,i≤xs.length→Pv i σ H→SqL K H a xs)
 (hs:∀i x σ H,xs[i]?=some x→Pv i σ H→g x σ H λσ2 H2=>tb { D with nx:=Pv (i+1),ct:=Pv (i+1),bk:=D.nx } σ2 H2) (hd:∀σ H,Pv xs.length σ H→D.nx σ H):
 ∃W:Nat→Nat→St→Hp→Prop,(∃m,W 0 m σ H)∧∀i m σ H,W i m σ H→((Itl K a).stop i H∧D.nx σ H)∨((Itl K a).go i H∧∃N:St→Hp→Prop,(∀σ' H',N σ' H'→∃m',m'<m∧W (i+1) m' σ' H')∧∀x H',(Itl K a).yld i H x H'→g x σ H' λσ2 H2=>tb { D with nx:=N,ct:=N,bk:=D.nx } σ2 H2):=by(
refine⟨λi m σ H=>m=xs.length-i∧i≤xs.length∧Pv i σ H,⟨xs.length,by simp,mJ _,h0⟩,?_⟩
rintro i m σ H ⟨rfl,hi,p⟩
have q:=hl i σ H hi p
by_cases hlt:i<xs.length
·refine .inr ⟨⟨xs,xs[i],q,by simp[hlt]⟩,Pv (i+1),λσ' H' p'=>⟨xs.length-(i+1),by lia,rfl,hlt,p'⟩,λx H' y=>?_⟩;obtain⟨e,y⟩:=y;subst e;exact hs i x σ _ (y xs q) p
have e:i=xs.length:=by lia
subst e
exact .inl ⟨⟨xs,q,kH _⟩,hd σ H p⟩)
theorem qAK{lo:Int}{n:Nat}{g:TG}{tb:TS}{D:Ends}{σ:St}{H:Hp}(Pv:Nat→St→Hp→Prop)(h0:Pv 0 σ H)
 (hs:∀i σ H,i<n→Pv i σ H→g (.int (lo+i)) σ H λσ2 H2=>tb { D with nx:=Pv (i+1),ct:=Pv (i+1),bk:=D.nx } σ2 H2) (hd:∀σ H,Pv n σ H→D.nx σ H):
 ∃W:Nat→Nat→St→Hp→Prop,(∃m,W 0 m σ H)∧∀i m σ H,W i m σ H→((Itr lo n).stop i H∧D.nx σ H)∨((Itr lo n).go i H∧∃N:St→Hp→Prop,(∀σ' H',N σ' H'→∃m',m'<m∧W (i+1) m' σ' H')∧∀x H',(Itr lo n).yld i H x H'→g x σ H' λσ2 H2=>tb { D with nx:=N,ct:=N,bk:=D.nx } σ2 H2):=by(
refine⟨λi m σ H=>m=n-i∧i≤n∧Pv i σ H,⟨n,by simp,mJ _,h0⟩,?_⟩
rintro i m σ H ⟨rfl,hi,p⟩
by_cases hlt:i<n
·refine .inr ⟨hlt,Pv (i+1),λσ' H' p'=>⟨n-(i+1),by lia,rfl,hlt,p'⟩,λx H' y=>?_⟩;obtain⟨e,y⟩:=y;subst e y;exact hs i σ _ hlt p
have e:i=n:=by lia
subst e
exact .inl ⟨kH _,hd σ H p⟩)
noncomputable abbrev R2:=V→V→Hp→VK→Prop
noncomputable def OpR(X:Cx)(f:Value→Value→Sem Value)(r:R2):Prop:=∀(pins:List (Addr×Obj)) (s:Shared) (σ:St) (H:Hp) (x y:V) (v u:Value) (Q:VK),Inv X pins σ H s→RelV x v→RelV y u→r x y H Q→wpAny (model X.prog X.w) X.A (f v u) (EP X pins σ Q) X.xe s
noncomputable def UnR(X:Cx)(f:Value→Sem Value)(r:V→Hp→VK→Prop):Prop:=∀(pins:List (Addr×Obj)) (s:Shared) (σ:St) (H:Hp) (x:V) (v:Value) (Q:VK),Inv X pins σ H s→RelV x v→r x H Q→wpAny (model X.prog X.w) X.A (f v) (EP X pins σ Q) X.xe s
noncomputable def v8(X:Cx)(f:Value)(r:List V→Hp→VK→Prop):Prop:=∀(pins:List (Addr×Obj)) (s:Shared) (σ:St) (H:Hp) (xs:List V) (us:List Value) (Q:VK),Inv X pins σ H s→Vals xs us→r xs H Q→wpAny (model X.prog X.w) X.A (call f us) (EP X pins σ Q) X.xe s
noncomputable def tOp(r:R2)(ta tb:TE):TE:=λσ H Q=>ta σ H λx H1=>tb σ H1 λy H2=>r x y H2 Q
noncomputable def tUn(r:V→Hp→VK→Prop)(ta:TE):TE:=λσ H Q=>ta σ H λx H1=>r x H1 Q
noncomputable def rI(C:Int→Int→Prop)(g:Int→Int→V):R2:=λx y H Q=>∃i j,x=.int i∧y=.int j∧C i j∧Q (g i j) H
noncomputable def rI0(g:Int→Int→V):R2:=λx y H Q=>∃i j,x=.int i∧y=.int j∧Q (g i j) H
noncomputable def rU(g:Int→V):V→Hp→VK→Prop:=λx H Q=>∃i,x=.int i∧Q (g i) H
section
variable{X:Cx}{a b c:Expr}{ta tb tc:TE}{pos:Pos}
theorem binT(ha:PE X a ta)(hb:PE X b tb){pins:List (Addr×Obj)}{s:Shared}{σ:St}{H:Hp}{R:V→V→Hp→Prop}(I:Inv X pins σ H s)
 (h:ta σ H λx H1=>tb σ H1 λy H2=>R x y H2) {Q:Value→Shared→Prop} {f:Value→Value→Sem Value}
 (hf:∀v u s2 x y H2,Inv X pins σ H2 s2→RelV x v→RelV y u→R x y H2→wpAny (model X.prog X.w) X.A (f v u) Q X.xe s2):
 wpAny (model X.prog X.w) X.A (eval a X.env) (λv s₁=>wpAny (model X.prog X.w) X.A (eval b X.env) (λu s₂=>wpAny (model X.prog X.w) X.A (f v u) Q X.xe s₂) X.xe s₁) X.xe s:=by(
refine thn (ha pins s σ H _ I h) λv s1 hZ=>?_
obtain⟨x,H1,I1,r1,q1⟩:=hZ
refine thn (hb pins s1 σ H1 _ I1 q1) λu s2 hZ=>?_
obtain⟨y,H2,I2,r2,q2⟩:=hZ
exact hf v u s2 x y H2 I2 r1 r2 q2)
theorem qM{op:Operator}{r:R2}(ho:OpR X (binaryOp op) r)(ha:PE X a ta)(hb:PE X b tb):PE X (.BinOp a op b pos) (tOp r ta tb):=by intro pins s σ H Q I h;exact wpAny_BinOp (binT ha hb I h λv u s2 x y H2 I2 rx ry q=>ho pins s2 σ H2 x y v u Q I2 rx ry q)
theorem qH4{op:UnaryOp}{r:V→Hp→VK→Prop}(ho:UnR X (unaryOp op) r)(ha:PE X a ta):PE X (.UnaryOp op a pos) (tUn r ta):=by intro pins s σ H Q I h;exact UnaryOp_ (thn (ha pins s σ H _ I h) λv s1 ⟨x,H1,I1,r1,q1⟩=>ho pins s1 σ H1 x v Q I1 r1 q1)
theorem opI{f:Value→Value→Sem Value}{C:Int→Int→Prop}{g:Int→Int→Int}
 (rule:∀(i j:Int) (t u:Tok) (s:Shared) (Q:Value→Shared→Prop) (E:Value→Shared→Prop),C i j→Q (.int (g i j) s.toks) { s with toks:=s.toks+1 }→wpAny (model X.prog X.w) X.A (f (.int i t) (.int j u)) Q E s):
 OpR X f (rI C λi j=>.int (g i j)):=by(
intro pins s σ H x y v u Q I rx ry h
obtain⟨i,j,rfl,rfl,hc,q⟩:=h
obtain⟨t,rfl⟩:=rx
obtain⟨t',rfl⟩:=ry
exact rule i j t t' s _ _ hc ⟨.int (g i j),H,I.tok _,⟨_,rfl⟩,q⟩)
theorem opI0{f:Value→Value→Sem Value}{g:Int→Int→Int}
 (rule:∀(i j:Int) (t u:Tok) (s:Shared) (Q:Value→Shared→Prop) (E:Value→Shared→Prop),Q (.int (g i j) s.toks) { s with toks:=s.toks+1 }→wpAny (model X.prog X.w) X.A (f (.int i t) (.int j u)) Q E s):
 OpR X f (rI0 λi j=>.int (g i j)):=by(
intro pins s σ H x y v u Q I rx ry h
obtain⟨i,j,rfl,rfl,q⟩:=h
obtain⟨t,rfl⟩:=rx
obtain⟨t',rfl⟩:=ry
exact rule i j t t' s _ _ ⟨.int (g i j),H,I.tok _,⟨_,rfl⟩,q⟩)
theorem opB0{f:Value→Value→Sem Value}{g:Int→Int→Bool}
 (rule:∀(i j:Int) (t u:Tok) (s:Shared) (Q:Value→Shared→Prop) (E:Value→Shared→Prop),Q (.bool (g i j)) s→wpAny (model X.prog X.w) X.A (f (.int i t) (.int j u)) Q E s):
 OpR X f (rI0 λi j=>.bl (g i j)):=by(
intro pins s σ H x y v u Q I rx ry h
obtain⟨i,j,rfl,rfl,q⟩:=h
obtain⟨t,rfl⟩:=rx
obtain⟨t',rfl⟩:=ry
exact rule i j t t' s _ _ ⟨.bl (g i j),H,I,rfl,q⟩)
noncomputable def CDiv(i j:Int):Prop:=0<j∧j<1073741824
noncomputable def CPow(i j:Int):Prop:=0≤j∧j≤1000000∧i.natAbs<2 ^ 64
noncomputable def CMul(i j:Int):Prop:=(-(2 ^ 64)<i∧i<2 ^ 64)∨(-(2 ^ 64)<j∧j<2 ^ 64)
theorem CMul.ok{i j:Int}(h:CMul i j):IntMulOk i j:=by(
rcases h with⟨h1,h2⟩|⟨h1,h2⟩
·exact .of_left (intBits_le_64 h1 h2)
exact .of_right (intBits_le_64 h1 h2))
theorem yG:OpR X (binaryOp .Add) (rI0 λi j=>.int (i+j)):=opI0 λ_ _ _ _ _ _ _ q=>add_int q
theorem yJ:OpR X (binaryOp .Sub) (rI0 λi j=>.int (i-j)):=opI0 λ_ _ _ _ _ _ _ q=>sub_int q
theorem zT:OpR X (binaryOp .Mult) (rI CMul λi j=>.int (i*j)):=opI λ_ _ _ _ _ _ _ hc q=>mul_int q hc.ok
theorem yD:OpR X (binaryOp .FloorDiv) (rI CDiv λi j=>.int (i / j)):=opI λi j _ _ _ _ _ hc q=>by have h1:(0:Int)<j:=hc.1;have h2:j<1073741824:=hc.2;exact floordiv_int (by lia) (by rw[Int.fdiv_eq_ediv_of_nonneg i (by lia)];exact q) (.inl (PyProof.noPylong_small (by lia)))
theorem jZ:OpR X (binaryOp .Mod) (rI (λ_ j=>0<j) λi j=>.int (i%j)):=opI λi j _ _ _ _ _ hc q=>by have h1:(0:Int)<j:=hc;exact mod_int' (by lia) (by rw[Int.fmod_eq_emod_of_nonneg i (by lia)];exact q)
theorem qF6:OpR X (binaryOp .Pow) (rI CPow λi j=>.int (i ^ j.toNat)):=opI λ_ _ _ _ _ _ _ hc q=>pow_int_small hc.1 hc.2.1 hc.2.2 q
theorem unI{f:Value→Sem Value}{g:Int→Int}
 (rule:∀(i:Int) (t:Tok) (s:Shared) (Q:Value→Shared→Prop) (E:Value→Shared→Prop),Q (.int (g i) s.toks) { s with toks:=s.toks+1 }→wpAny (model X.prog X.w) X.A (f (.int i t)) Q E s):
 UnR X f (rU λi=>.int (g i)):=by(
intro pins s σ H x v Q I rx h
obtain⟨i,rfl,q⟩:=h
obtain⟨t,rfl⟩:=rx
exact rule i t s _ _ ⟨.int (g i),H,I.tok _,⟨_,rfl⟩,q⟩)
theorem qF7:UnR X (unaryOp .USub) (rU λi=>.int (-i)):=unI λ_ _ _ _ _ q=>neg_int q
end
noncomputable def scal:V→V→Bool
| .non,.non=>true| .non,.int _=>true| .int _,.non=>true| .non,.bl _=>true| .bl _,.non=>true| .non,.str _=>true| .str _,.non=>true
| .int _,.int _=>true| .bl _,.bl _=>true| .str _,.str _=>true| .byt _,.byt _=>true
| .int _,.str _=>true| .str _,.int _=>true| .bl _,.str _=>true| .str _,.bl _=>true
|_,_=>false
noncomputable def rEq:R2:=λx y H Q=>scal x y=true∧Q (.bl (decide (x=y))) H
noncomputable def rNe:R2:=λx y H Q=>scal x y=true∧Q (.bl (!decide (x=y))) H
theorem q9Q{i j:Int}:decide (V.int i=V.int j)=(i==j):=by rw[rD];simp
theorem qBC{i j:Bool}:decide (V.bl i=V.bl j)=(i==j):=by rw[rD];simp
theorem q9R{i j:Str}:decide (V.str i=V.str j)=(i==j):=by rw[rD];simp
theorem q9S{i j:Array UInt8}:decide (V.byt i=V.byt j)=(i.toList==j.toList):=by(
rw[rD]
cases i
cases j
simp)
section
variable{X:Cx}{a b c:Expr}{ta tb tc:TE}{pos:Pos}
theorem jL{pins:List (Addr×Obj)}{σ:St}{H:Hp}{s:Shared}{Q:VK}{k k':Bool}(I:Inv X pins σ H s)(q:Q (.bl k) H)(e:k=k'):EP X pins σ Q (.bool k') s:=by subst e;exact⟨.bl k,H,I,rfl,q⟩
theorem v9:OpR X (compareOp .Eq) rEq:=by(
intro pins s σ H x y v u Q I rx ry h
obtain⟨hs,q⟩:=h
cases x with
|non=>
 cases rx;cases y with
 |non=>cases ry;exact PySem.EqNone.eq_none_none (jL I q (by simp))
 |bl j=>cases ry;exact PySem.EqNone.eq_none_bool (jL I q (by simp))
 |int j=>obtain⟨t',rfl⟩:=ry;exact PySem.EqNone.eq_none_int (jL I q (by simp))
 |str j=>obtain⟨t',rfl⟩:=ry;exact PySem.EqNone.eq_none_str (jL I q (by simp))
 |_=>exact absurd (show false=true from hs) kL
|bl i=>
 cases rx;cases y with
 |non=>cases ry;exact PySem.EqNone.eq_bool_none (jL I q (by simp))
 |bl j=>cases ry;exact eq_bool (jL I q qBC)
 |str j=>obtain⟨t',rfl⟩:=ry;exact lB (jL I q (by simp))
 |_=>exact absurd (show false=true from hs) kL
|int i=>
 obtain⟨t,rfl⟩:=rx;cases y with
 |non=>cases ry;exact PySem.EqNone.eq_int_none (jL I q (by simp))
 |int j=>obtain⟨t',rfl⟩:=ry;exact eq_int (jL I q q9Q)
 |str j=>obtain⟨t',rfl⟩:=ry;exact lG (jL I q (by simp))
 |_=>exact absurd (show false=true from hs) kL
|str i=>
 obtain⟨t,rfl⟩:=rx;cases y with
 |non=>cases ry;exact PySem.EqNone.eq_str_none (jL I q (by simp))
 |bl j=>cases ry;exact lC (jL I q (by simp))
 |int j=>obtain⟨t',rfl⟩:=ry;exact lI (jL I q (by simp))
 |str j=>obtain⟨t',rfl⟩:=ry;exact eq_str (jL I q q9R)
 |_=>exact absurd (show false=true from hs) kL
|byt i=>
 obtain⟨t,rfl⟩:=rx;cases y with
 |byt j=>obtain⟨t',rfl⟩:=ry;exact PySem.W.eq_bytes (jL I q q9S)
 |_=>exact absurd (show false=true from hs) kL
|_=>cases y<;>exact absurd (show false=true from hs) kL)
theorem q3J:OpR X (compareOp .NotEq) rNe:=by(
intro pins s σ H x y v u Q I rx ry h
obtain⟨hs,q⟩:=h
cases x with
|non=>
 cases rx;cases y with
 |non=>cases ry;exact PySem.EqNone.ne_none_none (jL I q (by simp))
 |bl j=>cases ry;exact PySem.EqNone.ne_none_bool (jL I q (by simp))
 |int j=>obtain⟨t',rfl⟩:=ry;exact PySem.EqNone.ne_none_int (jL I q (by simp))
 |str j=>obtain⟨t',rfl⟩:=ry;exact PySem.EqNone.ne_none_str (jL I q (by simp))
 |_=>exact absurd (show false=true from hs) kL
|bl i=>
 cases rx;cases y with
 |non=>cases ry;exact PySem.EqNone.ne_bool_none (jL I q (by simp))
 |bl j=>cases ry;exact ne_bool (jL I q (dS not qBC))
 |str j=>obtain⟨t',rfl⟩:=ry;exact lE (jL I q (by simp))
 |_=>exact absurd (show false=true from hs) kL
|int i=>
 obtain⟨t,rfl⟩:=rx;cases y with
 |non=>cases ry;exact PySem.EqNone.ne_int_none (jL I q (by simp))
 |int j=>obtain⟨t',rfl⟩:=ry;exact ne_int (jL I q (dS not q9Q))
 |str j=>obtain⟨t',rfl⟩:=ry;exact lJ (jL I q (by simp))
 |_=>exact absurd (show false=true from hs) kL
|str i=>
 obtain⟨t,rfl⟩:=rx;cases y with
 |non=>cases ry;exact PySem.EqNone.ne_str_none (jL I q (by simp))
 |bl j=>cases ry;exact lF (jL I q (by simp))
 |int j=>obtain⟨t',rfl⟩:=ry;exact lK (jL I q (by simp))
 |str j=>obtain⟨t',rfl⟩:=ry;exact ne_str (jL I q (dS not q9R))
 |_=>exact absurd (show false=true from hs) kL
|byt i=>
 obtain⟨t,rfl⟩:=rx;cases y with
 |byt j=>obtain⟨t',rfl⟩:=ry;exact PySem.W.ne_bytes (jL I q (dS not q9S))
 |_=>exact absurd (show false=true from hs) kL
|_=>cases y<;>exact absurd (show false=true from hs) kL)
theorem q1J:OpR X (compareOp .Lt) (rI0 λi j=>.bl (decide (i<j))):=opB0 λ_ _ _ _ _ _ _ q=>lt_int q
theorem q7Z:OpR X (compareOp .LtE) (rI0 λi j=>.bl (decide (i≤j))):=opB0 λ_ _ _ _ _ _ _ q=>le_int q
theorem qBD:OpR X (compareOp .Gt) (rI0 λi j=>.bl (decide (j<i))):=opB0 λ_ _ _ _ _ _ _ q=>gt_int q
theorem q9T:OpR X (compareOp .GtE) (rI0 λi j=>.bl (decide (j≤i))):=opB0 λ_ _ _ _ _ _ _ q=>ge_int q
theorem qBE:OpR X (compareOp .Is) (λx y H Q=>y=.non∧Q (.bl (decide (x=.non))) H):=by(
intro pins s σ H x y v u Q I rx ry h
obtain⟨rfl,q⟩:=h
cases ry
refine is_none_gen (jL I q ?_)
cases x<;>first
 |(cases rx;rfl)
 |(obtain⟨t,rfl⟩:=rx;rfl))
theorem q45:OpR X (compareOp .IsNot) (λx y H Q=>y=.non∧Q (.bl (!decide (x=.non))) H):=by(
intro pins s σ H x y v u Q I rx ry h
obtain⟨rfl,q⟩:=h
cases ry
refine isnot_none_gen (jL I q ?_)
cases x<;>first
 |(cases rx;rfl)
 |(obtain⟨t,rfl⟩:=rx;rfl))
theorem qZ(b:Expr){op:CmpOp}(h:op≠ .In:=by decide)(h2:op≠ .NotIn:=by decide):behindInMarks op b=false:=by(
have e1:(op==CmpOp.In)=false:=by cases op<;>first|rfl|exact absurd rfl h
have e2:(op==CmpOp.NotIn)=false:=by cases op<;>first|rfl|exact absurd rfl h2
cases b<;>simp[behindInMarks,e1,e2])
theorem yM{op:CmpOp}{r:R2}(ho:OpR X (compareOp op) r)(ha:PE X a ta)(hb:PE X b tb)(hm:behindInMarks op b=false):PE X (.Compare a [op] [b] pos) (tOp r ta tb):=by intro pins s σ H Q I h;exact wpAny_Compare1 (binT ha hb I h λv u s2 x y H2 I2 rx ry q=>ho pins s2 σ H2 x y v u Q I2 rx ry q) hm
noncomputable def qEO(t:TE):TT:=λσ H Q=>t σ H λx H'=>∃k,x=.bl k∧Q k H'
theorem j9{op:CmpOp}{r:R2}(ho:OpR X (compareOp op) r)(ha:PE X a ta)(hb:PE X b tb)(hm:behindInMarks op b=false):PT X (.Compare a [op] [b] pos) (qEO (tOp r ta tb)):=by(
intro pins s σ H Q I h
refine pG (thn (ha pins s σ H _ I h) λv s1 ⟨x,H1,I1,r1,q1⟩=>thn (hb pins s1 σ H1 _ I1 q1) λu s2 ⟨y,H2,I2,r2,q2⟩=>thn (ho pins s2 σ H2 x y v u _ I2 r1 r2 q2) λc s3 ⟨z,H3,I3,r3,k,e,q3⟩=>?_) hm
subst e
cases r3
exact gE ⟨H3,I3,q3⟩)
noncomputable def qBF(r r':R2)(ta tb tc:TE):TE:=λσ H Q=>ta σ H λx H1=>tb σ H1 λy H2=>r x y H2 λz H3=>∃k,z=.bl k∧(if k=true then tc σ H3 λw' H4=>r' y w' H4 Q else Q (.bl false) H3)
theorem q80{op op':CmpOp}{r r':R2}(ho:OpR X (compareOp op) r)(ho':OpR X (compareOp op') r')(ha:PE X a ta)(hb:PE X b tb)(hc:PE X c tc)
 (hm:lastMarks [op,op'] [b,c]=false:=by with_unfolding_all rfl):PE X (.Compare a [op,op'] [b,c] pos) (qBF r r' ta tb tc):=by(
intro pins s σ H Q I h
refine Compare_chain (thn (ha pins s σ H _ I h) λv s1 ⟨x,H1,I1,r1,q1⟩=>chain_link (thn (hb pins s1 σ H1 _ I1 q1) λu s2 ⟨y,H2,I2,r2,q2⟩=>thn (ho pins s2 σ H2 x y v u _ I2 r1 r2 q2) λd s3 ⟨z,H3,I3,r3,k,e,q3⟩=>?_)) hm
subst e
cases r3
refine gE ?_
cases k with
|false=>exact ite_ff ⟨.bl false,H3,I3,rfl,q3⟩
|true=>exact ite_tt (chain_last (thn (hc pins s3 σ H3 _ I3 q3) λw' s4 ⟨z',H4,I4,r4,q4⟩=>ho' pins s4 σ H4 y z' u w' Q I4 r2 r4 q4)))
theorem q4J{op op':CmpOp}{r r':R2}(ho:OpR X (compareOp op) r)(ho':OpR X (compareOp op') r')(ha:PE X a ta)(hb:PE X b tb)(hc:PE X c tc)
 (hm:lastMarks [op,op'] [b,c]=false:=by with_unfolding_all rfl):PT X (.Compare a [op,op'] [b,c] pos) (qEO (qBF r r' ta tb tc)):=by(
intro pins s σ H Q I h
refine isTrue_chain (thn (ha pins s σ H _ I h) λv s1 ⟨x,H1,I1,r1,q1⟩=>test_link (thn (hb pins s1 σ H1 _ I1 q1) λu s2 ⟨y,H2,I2,r2,q2⟩=>thn (ho pins s2 σ H2 x y v u _ I2 r1 r2 q2) λd s3 ⟨z,H3,I3,r3,k,e,q3⟩=>?_)) hm
subst e
cases r3
refine gE ?_
cases k with
|false=>obtain⟨k',e',q'⟩:=q3;cases e';exact ite_ff ⟨H3,I3,q'⟩
|true=>refine ite_tt (test_last (thn (hc pins s3 σ H3 _ I3 q3) λw' s4 ⟨z',H4,I4,r4,q4⟩=>thn (ho' pins s4 σ H4 y z' u w' _ I4 r2 r4 q4) λd' s5 hZ=>?_));obtain⟨z2,H5,I5,r5,k2,e2,q5⟩:=hZ;subst e2;cases r5;exact gE ⟨H5,I5,q5⟩)
theorem q1W:(sizeLine:Nat)<2 ^ 63:=by rw[gK];decide
theorem q1X:OpR X (binaryOp .Add) (λx y H Q=>∃i j,x=.str i∧y=.str j∧i.length+j.length≤sizeLine∧Q (.str (i++j)) H):=by(
intro pins s σ H x y v u Q I rx ry h
obtain⟨i,j,rfl,rfl,hz,q⟩:=h
obtain⟨t,rfl⟩:=rx
obtain⟨t',rfl⟩:=ry
exact add_str (λt' tk=>⟨.str (i++j),H,I.tok _,⟨_,rfl⟩,q⟩) hz)
theorem vU{x:V}{us:List Value}(r:Vals [x] us):∃u,us=[u]∧RelV x u:=by
 cases r with
 |cons r1 r2=>cases r2;exact⟨_,rfl,r1⟩
theorem qBG{x y:V}{us:List Value}(r:Vals [x,y] us):∃u w',us=[u,w']∧RelV x u∧RelV y w':=by(
cases r with
|cons r1 r2=>
 cases r2 with
 |cons r3 r4=>cases r4;exact⟨_,_,rfl,r1,r3⟩)
theorem q65(hc:X.calm=true):v8 X (.builtin "max") (λxs H Q=>∃i j,xs=[.int i,.int j]∧Q (.int (if j>i then j else i)) H):=by(
intro pins s σ H xs us Q I r h
obtain⟨i,j,rfl,q⟩:=h
obtain⟨u,w',rfl,⟨t,rfl⟩,⟨t',rfl⟩⟩:=qBG r
refine max_two_ints (I.ok.hd hc) λh' tk k=>⟨_,H,I.kept k,?_,q⟩
by_cases hj:j>i
·rw[kJ hj,kJ hj];exact⟨_,rfl⟩
rw[kI hj,kI hj];exact⟨_,rfl⟩)
theorem qAL(hc:X.calm=true):v8 X (.builtin "min") (λxs H Q=>∃i j,xs=[.int i,.int j]∧Q (.int (if j<i then j else i)) H):=by(
intro pins s σ H xs us Q I r h
obtain⟨i,j,rfl,q⟩:=h
obtain⟨u,w',rfl,⟨t,rfl⟩,⟨t',rfl⟩⟩:=qBG r
refine min_two_ints (I.ok.hd hc) λh' tk k=>⟨_,H,I.kept k,?_,q⟩
by_cases hj:j<i
·rw[kJ hj,kJ hj];exact⟨_,rfl⟩
rw[kI hj,kI hj];exact⟨_,rfl⟩)
theorem qAM:v8 X (.type "int") (λxs H Q=>(∃i,xs=[.int i]∧Q (.int i) H)∨∃k,xs=[.bl k]∧Q (.int (if k then 1 else 0)) H):=by(
intro pins s σ H xs us Q I r h
rcases h with⟨i,rfl,q⟩|⟨k,rfl,q⟩
·obtain⟨u,rfl,t,rfl⟩:=vU r;exact call_int_int ⟨.int i,H,I,⟨_,rfl⟩,q⟩
obtain⟨u,rfl,r1⟩:=vU r
cases r1
exact call_int_bool ⟨.int (if k then 1 else 0),H,I.tok _,⟨_,rfl⟩,q⟩)
end
structure ObjM(h:Heap)(x dx C:Addr)(mA:Str→Option Value):Prop where
obj:h.get? x=some (PySem.W.instObj C dx)
ns:h.Ns1 dx mA
ne:dx≠x
theorem q66{h:Heap}{dx:Addr}{mA:Str→Option Value}(n:h.Ns1 dx mA):∃od,h.get? dx=some od∧∀name,PySem.W.lookIn name od=some (mA name):=by(
obtain⟨o,es,ep,ho,hd,hk,_,hm⟩:=n
refine⟨o,ho,λname=>?_⟩
have e:=hm name
unfold nsFind findBy at e
rw[←Array.find?_toList]at e
unfold PySem.W.lookIn
rw[hd]
dsimp only
split
·rename_i y q;rw[q]at e;exact dS some e
rename_i q
rw[q]at e
have a:es.toList.any (·.refKey)=false:=by rw[List.any_eq_false];intro y hy;obtain⟨z,t,hkey⟩:=hk y (Array.mem_toList_iff.mp hy);simp[DictEntry.refKey,hkey]
have a':¬es.toList.any (·.refKey)=true:=by rw[a];exact kL
rw[kI a']
exact dS some e)
theorem ObjM.look{h:Heap}{x dx C:Addr}{mA:Str→Option Value}(I:ObjM h x dx C mA):∃od,PySem.W.InstAt h x (PySem.W.instObj C dx) C (some od)∧∀name,PySem.W.lookIn name od=some (mA name):=let⟨od,ho,hl⟩:=q66 I.ns
 ⟨od,⟨I.obj,rfl,rfl,ho⟩,hl⟩
section
variable{prog:Program}{w:World}{A:Around}{E:Value→Shared→Prop}{s:Shared}{K:PySem.W.Frag}{x dx C f:Addr}{mA:Str→Option Value}{name:Str}{v:Value}
theorem qD6{expr:Bool}{Q:Value→Shared→Prop}(X:K.In s.heap)(I:ObjM s.heap x dx C mA)(hg:PySem.W.plainGet K C name=true)(hh:PySem.W.hasDictIn K C=true)
 (ha:PySem.W.findIn K (.ref C) name=some none) (hv:mA name=some v) (hv':PySem.W.handedIn v=true) (h:Q v { s with toks:=s.toks+1 }):
 wpAny (model prog w) A (getAttr (.ref x) name expr) Q E s:=by obtain⟨od,J,hl⟩:=I.look;exact PySem.W.get_value X J (wX hg).1 (PySem.W.findObj_own hh ha rfl (by rw[hl,hv])) hv' h
theorem qBH{pl:Sem Bool}{Q:Value×List Value→Shared→Prop}(X:K.In s.heap)(I:ObjM s.heap x dx C mA)(hg:PySem.W.plainGet K C name=true)
 (hf:PySem.W.findIn K (.ref C) name=some (some (.ref f))) (ht:PySem.W.isFn K (.ref f)=true) (hv:mA name=none) (h:Q (.ref f,[.ref x]) s):
 wpAny (model prog w) A (getMethod (.ref x) name pl) Q E s:=by obtain⟨od,J,hl⟩:=I.look;exact PySem.W.method_fn X J (wX hg).1 (wX hg).2 hf (d4.mp ht) (by show(PySem.W.lookIn name od).map (·.isSome)=some false;rw[hl,hv];rfl) h
theorem qD7{ns:List Str}{Q:Unit→Shared→Prop}(X:K.In s.heap)(I:ObjM s.heap x dx C mA)
 (hs:PySem.W.findIn K (.ref C) "__setattr__"=some (some (.builtin "object.__setattr__"))) (hp:PySem.W.plainOver K C=true) (ht:PySem.W.takerIn K C name=some none) (hh:PySem.W.hasDictIn K C=true)
 (hw:PySem.Within mA ns) (hsz:ns.length≤sizeLine)
 (h:∀h',ObjM h' x dx C (λy=>if y=name then some v else mA y)→Heap.SameBut dx s.heap h'→Q () { s with heap:=h',toks:=s.toks+2 }):
 wpAny (model prog w) A (setAttr (.ref x) name v) Q E s:=by(
obtain⟨od,J,hl⟩:=I.look
refine PySem.W.set_plain X J hs (PySem.W.osa_open (s:={ s with toks:=s.toks+1 }) (r:=none) X J hp ht λb=>?_)
obtain⟨cd,hc,hd'⟩:=wJ hh
have hx:s.heap.get? x=some ⟨.ref C,some dx,.plain,#[]⟩:=I.obj
refine kG (kX (kG (kG (wpAny_loadPart hx (kG (lW (s:={ s with toks:=s.toks+1 }) (PySem.W.looks_clsIn X hc) ?_))))))
rw[hd']
refine kX (a:=some dx) (kG (kX (kG ?_)))
refine wpAny_nsSet1 (s:={ s with toks:=s.toks+1 }) I.ns λh' hn2 hs2=>?_
obtain⟨oD,esD,epD,hoD,hdD,hcD⟩:=hn2.count (PySem.Within.cons name v hw)
refine kG (wpAny_lookBehind hoD (by rw[hdD];exact pastItsLine_dict (mI hcD (by rw[mQ];lia))) ?_)
exact kX (h _ ⟨(hs2.2 _ (dD I.ne)).trans I.obj,hn2,I.ne⟩ hs2))
theorem qBI{R:Result→Shared→Prop}{vs:List Value}{kw:List (Str×Value)}(X:K.In s.heap)(hm:PySem.W.makesIn K C=true)
 (hi:PySem.W.findIn K (.ref C) "__init__"=some (some (.ref f))) (hf:PySem.W.typeIn K (.ref f)=some (.type "function"))
 (h:codeAny (model prog w) (A.under (.builtin "type.__call__" ⟨.ref C::vs,kw⟩)) (.call (.ref f) ⟨.ref (s.heap.objs.size+1)::vs,kw⟩) (PySem.W.InitBack (s.heap.objs.size+1) R)
  { s with heap:=(s.heap.push PySem.W.emptyDict).push (PySem.W.instObj C s.heap.objs.size) }):
 codeAny (model prog w) A (.call (.ref C) ⟨vs,kw⟩) R s:=by obtain⟨hh,g,d,t,os⟩:=s;exact PySem.W.make_core (PySem.W.makes_of X hm) (wO X hi) (λself=>PySem.W.bind_fn X self hf) (.inl rfl) h
end
noncomputable def putF(f:Str)(v:V):List (Str×V)→List (Str×V)
| []=>[(f,v)]
|(g,x)::r=>if g=f then(g,v)::r else(g,x)::putF f v r
theorem q3K(f g:Str)(v:V):∀fs:List (Str×V),(putF f v fs).lookup g=if g=f then some v else fs.lookup g
| []=>by
 show List.lookup g [(f,v)]=_;by_cases h:g=f
 ·have hb:(g==f)=true:=d4.mpr h;simp only[List.lookup,hb,kJ h]
 have hb:(g==f)=false:=g9.mpr h;simp only[List.lookup,hb,kI h]
|(k,x)::r=>by
 have ih:=q3K f g v r;rw[show putF f v ((k,x)::r)=(if k=f then(k,v)::r else(k,x)::putF f v r)from rfl];by_cases hk:k=f
 ·rw[kJ hk];by_cases h:g=k
  ·have hb:(g==k)=true:=d4.mpr h;simp only[List.lookup,hb,kJ (h.trans hk)]
  have hb:(g==k)=false:=g9.mpr h;simp only[List.lookup,hb,kI (λe:g=f=>h (e.trans hk.symm))]
 rw[kI hk];by_cases h:g=k
 ·have hb:(g==k)=true:=d4.mpr h;simp only[List.lookup,hb,kI (λe:g=f=>hk (h.symm.trans e))]
 have hb:(g==k)=false:=g9.mpr h;simp only[List.lookup,hb];exact ih
theorem q30(f:Str)(v:V):∀fs:List (Str×V),f∈(putF f v fs).map (·.1)∧∀g,g∈fs.map (·.1)→g∈(putF f v fs).map (·.1)
| []=>⟨by simp[putF],λg h=>by simp at h⟩
|(k,x)::r=>by
 obtain⟨i1,i2⟩:=q30 f v r;rw[show putF f v ((k,x)::r)=(if k=f then(k,v)::r else(k,x)::putF f v r)from rfl];by_cases hk:k=f
 ·rw[kJ hk];subst hk;exact⟨by simp,λg h=>by simpa using h⟩
 rw[kI hk];refine⟨?_,λg h=>?_⟩
 ·rw[mM];exact hZ _ i1
 rw[mM]at h ⊢;rcases kR.mp h with e|e
 ·exact kR.mpr (.inl e)
 exact hZ _ (i2 g e)
theorem q3L(f:Str)(v:V):∀fs:List (Str×V),(putF f v fs).length≤fs.length+1
| []=>by simp[putF]
|(k,x)::r=>by
 have ih:=q3L f v r;rw[show putF f v ((k,x)::r)=(if k=f then(k,v)::r else(k,x)::putF f v r)from rfl];by_cases hk:k=f
 ·rw[kJ hk,mQ,mQ];lia
 rw[kI hk,mQ,mQ];lia
theorem RelO.some_of{v:V}{o:Option Value}(r:RelO (some v) o):∃u,o=some u∧RelV v u:=by(
cases o with
|none=>exact(show False from r).elim
|some u=>exact⟨u,rfl,r⟩)
theorem RelO.none_of{o:Option Value}(r:RelO none o):o=none:=by(
cases o with
|none=>rfl
|some u=>exact(show False from r).elim)
theorem qAN{v:V}{u:Value}(r:RelV v u):PySem.W.handedIn u=true:=by(
cases v with
|non=>cases(show u=Value.none from r);rfl
|bl b=>cases(show u=Value.bool b from r);rfl
|int i=>obtain⟨t,e⟩:=(show ∃t,u=Value.int i t from r);cases e;rfl
|str x=>obtain⟨t,e⟩:=(show ∃t,u=Value.str x t from r);cases e;rfl
|byt b=>obtain⟨t,e⟩:=(show ∃t,u=Value.bytes b t from r);cases e;rfl
|flt b=>obtain⟨t,e⟩:=(show ∃t,u=Value.float b t from r);cases e;rfl
|ref a=>cases(show u=Value.ref a from r);rfl
|ty n=>cases(show u=Value.type n from r);rfl)
section
variable{P:Program}{w:World}{H H':Hp}{h h':Heap}{a C dx:Addr}{fs fs':List (Str×V)}
theorem q46(hok:HOk P w H h)(e:H a=some (.ins C dx fs)):∃mA,ObjM h a dx C mA∧(∀f,RelO (fs.lookup f) (mA f))∧PySem.Within mA (fs.map (·.1))∧fs.length≤1000∧H dx=some (.own a):=by obtain⟨d,z,ne,ob,mA,n,r,q⟩:=(show jP P w H h a (.ins C dx fs)from hok a _ e);exact⟨mA,⟨ob,n,ne⟩,r,q,z,d⟩
end
structure Cls(K:PySem.W.Frag)(C:Addr):Prop where
pg:PySem.W.plainGet K C Str.empty=true
hd:PySem.W.hasDictIn K C=true
po:PySem.W.plainOver K C=true
sa:PySem.W.findIn K (.ref C) "__setattr__"=some (some (.builtin "object.__setattr__"))
theorem Cls.get{K:PySem.W.Frag}{C:Addr}(c:Cls K C)(f:Str):PySem.W.plainGet K C f=true:=c.pg
noncomputable def qN(K:PySem.W.Frag)(C:Addr)(f:Str):Prop:=PySem.W.findIn K (.ref C) f=some none
theorem qN.taker{K:PySem.W.Frag}{C:Addr}{f:Str}(n:qN K C f):PySem.W.takerIn K C f=some none:=by unfold PySem.W.takerIn;rw[show PySem.W.findIn K (.ref C) f=some none from n];rfl
structure Meth(K:PySem.W.Frag)(C:Addr)(m:Str)(f:Addr):Prop where
at_:PySem.W.findIn K (.ref C) m=some (some (.ref f))
fn:PySem.W.isFn K (.ref f)=true
kp:PySem.W.keepIn K (.ref f)=true
section
variable{X:Cx}{pins:List (Addr×Obj)}{σ:St}{H:Hp}{s:Shared}{a C dx:Addr}{fs:List (Str×V)}{f:Str}{v:V}{A:Around}{E:Value→Shared→Prop}
theorem q4K{b:Bool}{Q:Value→Shared→Prop}(I:Inv X pins σ H s)(e:H a=some (.ins C dx fs))(c:Cls X.K C)(n:qN X.K C f)(l:fs.lookup f=some v)
 (h:∀u s',Inv X pins σ H s'→RelV v u→Q u s'):wpAny (model X.prog X.w) A (getAttr (.ref a) f b) Q E s:=by obtain⟨mA,O,r,_,_,_⟩:=q46 I.hok e;obtain⟨u,hu,ru⟩:=RelO.some_of (v:=v) (o:=mA f) (by rw[←l];exact r f);exact qD6 I.kIn O (c.get f) c.hd n hu (qAN ru) (h u _ (I.tok _) ru)
theorem q1Y{m:Str}{g:Addr}{pl:Sem Bool}{Q:Value×List Value→Shared→Prop}(I:Inv X pins σ H s)(e:H a=some (.ins C dx fs))(c:Cls X.K C)(k:Meth X.K C m g)(l:fs.lookup m=none)
 (h:Q (.ref g,[.ref a]) s):wpAny (model X.prog X.w) A (getMethod (.ref a) m pl) Q E s:=by obtain⟨mA,O,r,_,_,_⟩:=q46 I.hok e;have hn:mA m=none:=RelO.none_of (by rw[←l];exact r m);exact qBH I.kIn O (c.get m) k.at_ k.fn hn h
theorem q4L{y:V}{u:Value}{Q:Unit→Shared→Prop}(I:Inv X pins σ H s)(e:H a=some (.ins C dx fs))(c:Cls X.K C)(n:qN X.K C f)(hl:fs.length<1000)(ry:RelV y u)
 (h:∀s',Inv X pins σ (upd H a (.ins C dx (putF f y fs))) s'→Q () s'):wpAny (model X.prog X.w) A (setAttr (.ref a) f u) Q E s:=by(
obtain⟨mA,O,r,wi,_,ho⟩:=q46 I.hok e
have hz:(fs.map (·.1)).length≤sizeLine:=by rw[hV,gK];lia
refine qD7 I.kIn O c.sa c.po n.taker c.hd wi hz λh' O' sb=>h _ ?_
have hd:∃o,h'.get? dx=some o:=let⟨o,_,_,e',_⟩:=O'.ns;⟨o,e'⟩
refine I.write (x:=a) (e:=dx) (by rw[e];exact True.intro) (.inr ho) (λb q hb z=>(sb.2 b hb).trans z) hd ?_
refine⟨by rw[qC O.ne];exact ho,?_,O.ne,O'.obj,_,O'.ns,λg=>?_,λg hg=>?_⟩
·have:=q3L f y fs;lia
·show RelO ((putF f y fs).lookup g) (if g=f then some u else mA g);rw[q3K];by_cases q:g=f
 ·rw[kJ q,kJ q];exact ry
 rw[kI q,kI q];exact r g
by_cases q:g=f
·rw[q];exact(q30 f y fs).1
refine(q30 f y fs).2 g (wi g λz=>hg ?_)
show(if g=f then some u else mA g)=none
rw[kI q];exact z)
theorem Inv.made(I:Inv X pins σ H s):Inv X pins σ (upd (upd H s.heap.objs.size (.own (s.heap.objs.size+1))) (s.heap.objs.size+1) (.ins C s.heap.objs.size []))
 { s with heap:=(s.heap.push PySem.W.emptyDict).push (PySem.W.instObj C s.heap.objs.size) }:=by(
have e1:(s.heap.push PySem.W.emptyDict).get? s.heap.objs.size=some PySem.W.emptyDict:=kY s.heap rfl
have e2:((s.heap.push PySem.W.emptyDict).push (PySem.W.instObj C s.heap.objs.size)).get? (s.heap.objs.size+1)=some (PySem.W.instObj C s.heap.objs.size):=by have:=kY (s.heap.push PySem.W.emptyDict) (o:=PySem.W.instObj C s.heap.objs.size) rfl;rwa [rL]at this
have e3:(s.heap.push PySem.W.emptyDict).Ns s.heap.objs.size (λ_=>none):=⟨PySem.W.emptyDict,#[],_,e1,rfl,(λe he=>absurd he (by simp)),λ_=>rfl⟩
have I1:=I.laid (a:=s.heap.objs.size) (o:=.own (s.heap.objs.size+1)) (h':=s.heap.push PySem.W.emptyDict) (t':=s.toks) (λb u q=>hU _ q) (kH _) ⟨_,e1⟩
refine I1.laid (a:=s.heap.objs.size+1) (o:=.ins C s.heap.objs.size []) (t':=s.toks) (λb u q=>hU _ q) (cA (rL _ _)) ?_
have ne:s.heap.objs.size≠s.heap.objs.size+1:=mF (gO _)
refine⟨by rw[qC ne,qH],mJ _,ne,e2,λ_=>none,(Heap.Ns1.of_empty e3).at λo q=>hU _ q,λ_=>True.intro,λy hy=>absurd rfl hy⟩)
theorem qD8{prog:Program}{w:World}{env:Env}{e:Expr}{f:Str}{pos:Pos}{s:Shared}{Q:Value→Shared→Prop}(hb:attributeBase e f env (eval e env)=eval e env)
 (h:wpAny (model prog w) A (eval e env) (λo s₁=>wpAny (model prog w) A (getAttr o f true) Q E s₁) E s):wpAny (model prog w) A (eval (.Attribute e f pos) env) Q E s:=Attribute_any_ h (by rw[arm_eval_Attribute,hb])
end
noncomputable def tFld(K:PySem.W.Frag)(ta:TE)(f:Str):TE:=λσ H Q=>ta σ H λx H1=>∃a C dx fs v,x=.ref a∧H1 a=some (.ins C dx fs)∧Cls K C∧qN K C f∧fs.lookup f=some v∧Q v H1
noncomputable def sFld(K:PySem.W.Frag)(ta tv:TE)(f:Str):TS:=λD σ H=>tv σ H λy H1=>ta σ H1 λx H2=>∃a C dx fs,x=.ref a∧H2 a=some (.ins C dx fs)∧Cls K C∧qN K C f∧fs.length<1000∧D.nx σ (upd H2 a (.ins C dx (putF f y fs)))
noncomputable def InOp(X:Cx)(op:Operator)(rd:V→V→Hp→VK→Prop):Prop:=∀(pins:List (Addr×Obj)) (s:Shared) (σ:St) (H:Hp) (x y:V) (u v:Value) (Q:VK),Inv X pins σ H s→RelV x u→RelV y v→rd x y H Q→wpAny (model X.prog X.w) X.A (inplaceOp op u v) (EP X pins σ Q) X.xe s
noncomputable def qD9(K:PySem.W.Frag)(ta tv:TE)(rd:V→V→Hp→VK→Prop)(f:Str):TS:=λD σ H=>ta σ H λx H1=>∃a C dx fs v,x=.ref a∧H1 a=some (.ins C dx fs)∧Cls K C∧qN K C f∧fs.lookup f=some v∧tv σ H1 λy H2=>rd v y H2 λz H3=>∃dx' fs',H3 a=some (.ins C dx' fs')∧fs'.length<1000∧D.nx σ (upd H3 a (.ins C dx' (putF f z fs')))
section
variable{X:Cx}{o e value:Expr}{f:Str}{pos pos' tpos:Pos}{ta tv:TE}
theorem qJ(he:PE X e ta)(hb:attributeBase e f X.env (eval e X.env)=eval e X.env):PE X (.Attribute e f pos) (tFld X.K ta f):=by(
intro pins s σ H Q I h
refine qD8 hb (thn (he pins s σ H _ I h) λu s1 hZ=>?_)
obtain⟨x,H1,I1,rx,a,C,dx,fs,v,ex,ea,c,n,l,q⟩:=hZ
subst ex
obtain rfl:u=Value.ref a:=rx
exact q4K I1 ea c n l λu' s2 I2 ru=>⟨v,H1,I2,ru,q⟩)
theorem jN(ha:PE X o ta)(hv:PE X value tv)(hs:swapsWith value (some (.Attribute o f pos')) pos.line X.env=pure false):PS X (.Assign [.Attribute o f pos'] value pos) (sFld X.K ta tv f):=by(
intro pins s σ H D I h
refine plainObj_wpAny_Assign_Attribute (thn (hv pins s σ H _ I h) λu s1 ⟨y,H1,I1,ry,q⟩=>thn (ha pins s1 σ H1 _ I1 q) λov s2 hZ=>?_) hs
obtain⟨x,H2,I2,rx,a,C,dx,fs,ex,ea,c,n,l,q2⟩:=hZ
subst ex
obtain rfl:ov=Value.ref a:=rx
exact q4L I2 ea c n l ry λs3 I3=>⟨σ,_,I3,q2⟩)
theorem qAO{op:Operator}{rd:V→V→Hp→VK→Prop}(ha:PE X o ta)(hv:PE X value tv)(hop:InOp X op rd):PS X (.AugAssign (.Attribute o f tpos) op value pos) (qD9 X.K ta tv rd f):=by(
intro pins s σ H D I h
refine wpAny_AugAssign_AttributeAny (thn (ha pins s σ H _ I h) λov s1 hZ=>?_)
obtain⟨x,H1,I1,rx,a,C,dx,fs,v,ex,ea,c,n,l,q⟩:=hZ
subst ex
obtain rfl:ov=Value.ref a:=rx
refine q4K I1 ea c n l λu s2 I2 ru=>thn (hv pins s2 σ H1 _ I2 q) λw3 s3 ⟨y,H2,I3,ry,q3⟩=>thn (hop pins s3 σ H2 v y u w3 _ I3 ru ry q3) λw4 s4 hZ=>?_
obtain⟨z,H3,I4,rz,dx',fs',ea',l',q4⟩:=hZ
exact q4L I4 ea' c n l' rz λs5 I5=>⟨σ,_,I5,q4⟩)
noncomputable def rAdd:V→V→Hp→VK→Prop:=λx y H Q=>∃i j,x=.int i∧y=.int j∧Q (.int (i+j)) H
noncomputable def rSub:V→V→Hp→VK→Prop:=λx y H Q=>∃i j,x=.int i∧y=.int j∧Q (.int (i-j)) H
theorem qBJ:InOp X .Add rAdd:=by(
rintro pins s σ H x y u v Q I rx ry ⟨i,j,rfl,rfl,q⟩
obtain⟨t,rfl⟩:=(show ∃t,u=Value.int i t from rx)
obtain⟨t',rfl⟩:=(show ∃t',v=Value.int j t' from ry)
exact PyProof.Rows.iadd_int ⟨.int (i+j),H,I.tok _,⟨_,rfl⟩,q⟩)
theorem qF8:InOp X .Sub rSub:=by(
rintro pins s σ H x y u v Q I rx ry ⟨i,j,rfl,rfl,q⟩
obtain⟨t,rfl⟩:=(show ∃t,u=Value.int i t from rx)
obtain⟨t',rfl⟩:=(show ∃t',v=Value.int j t' from ry)
exact PyProof.Rows.isub_int ⟨.int (i-j),H,I.tok _,⟨_,rfl⟩,q⟩)
end
section
variable{X:Cx}{pins:List (Addr×Obj)}{σ:St}{H:Hp}{s:Shared}{A:Around}{E:Value→Shared→Prop}{Q:Value→Shared→Prop}{c:Value}{b:Bool}
inductive TyOf(K:PySem.W.Frag)(H:Hp):V→Value→Prop where
|non:TyOf K H .non (.type "NoneType")
|bl (x:Bool):TyOf K H (.bl x) (.type "bool")
|int (i:Int):TyOf K H (.int i) (.type "int")
|str (x:Str):TyOf K H (.str x) (.type "str")
|flt (x:UInt64):TyOf K H (.flt x) (.type "float")
|lst {a:Addr} {xs:List V} (e:H a=some (.lst xs)):TyOf K H (.ref a) (.type "list")
|frz {a:Addr} {o:Obj} {xs:List V} (e:H a=some (.frz o (.lst xs))):TyOf K H (.ref a) (.type "list")
|tup {a:Addr} {xs:List V} (e:H a=some (.tup xs)):TyOf K H (.ref a) (.type "tuple")
|dK {a:Addr} {kvs:List (Key×V)} (e:H a=some (.dK kvs)):TyOf K H (.ref a) (.type "dict")
|dT {a:Addr} {kvs:List (List Key×V)} (e:H a=some (.dT kvs)):TyOf K H (.ref a) (.type "dict")
|ins {a C dx:Addr} {fs:List (Str×V)} (e:H a=some (.ins C dx fs)) (cl:Cls K C) (ha:PySem.W.findIn K (.ref C) "__class__"=some (some (.builtin "object.__class__")))
 (hn:PySem.W.specialIn K (.builtin "object.__class__") "__get__"=some (some (.builtin "getset_descriptor.__get__"))) (htk:PySem.W.takesIn K (.builtin "object.__class__")=some true)
 (hm:PySem.W.mroIn K C (.type "object")=some true):TyOf K H (.ref a) (.ref C)
theorem qAP{x:V}{u t:Value}(I:Inv X pins σ H s)(rx:RelV x u)(ty:TyOf X.K H x t)(e:PySem.W.kitOne X.K t c=some b)(h:∀tk,Q (.bool b) { s with toks:=tk }):
 wpAny (model X.prog X.w) A (call (.builtin "isinstance") [u,c]) Q E s:=by(
cases ty with
|non=>cases(show u=Value.none from rx);exact mZ PySem.W.kitx_none I.kIn True.intro e (λz=>nomatch z) h
|bl y=>cases(show u=Value.bool y from rx);exact mZ PySem.W.kitx_bool I.kIn True.intro e (λz=>nomatch z) h
|int i=>obtain⟨t,q⟩:=(show ∃t,u=Value.int i t from rx);cases q;exact mZ PySem.W.kitx_int I.kIn True.intro e (λz=>nomatch z) h
|str y=>obtain⟨t,q⟩:=(show ∃t,u=Value.str y t from rx);cases q;exact mZ PySem.W.kitx_str I.kIn True.intro e (λz=>nomatch z) h
|flt y=>obtain⟨t,q⟩:=(show ∃t,u=Value.float y t from rx);cases q;exact mZ PySem.W.kitx_float I.kIn True.intro e (λz=>nomatch z) h
|@lst a xs ea=>cases(show u=Value.ref a from rx);obtain⟨_,_,n,_,h1⟩:=(show jP X.prog X.w H s.heap a (.lst xs)from I.hok a _ ea);exact mZ sQ I.kIn ⟨_,h1,rfl⟩ e (λz=>nomatch z) h
|@frz a ob xs ea=>cases(show u=Value.ref a from rx);obtain⟨_,_,_,n,_,h1⟩:=(show jP X.prog X.w H s.heap a (.frz ob (.lst xs))from I.hok a _ ea);exact mZ sQ I.kIn ⟨_,h1,rfl⟩ e (λz=>nomatch z) h
|@tup a xs ea=>cases(show u=Value.ref a from rx);obtain⟨_,_,_,p⟩:=(show jP X.prog X.w H s.heap a (.tup xs)from I.hok a _ ea);obtain⟨o,h1,h2,_⟩:=p;exact mZ PySem.W.kitx_tuple I.kIn ⟨o,h1,h2⟩ e (λz=>nomatch z) h
|@dK a kvs ea=>cases(show u=Value.ref a from rx);obtain⟨_,_,vs,_,p⟩:=(show jP X.prog X.w H s.heap a (.dK kvs)from I.hok a _ ea);obtain⟨o,es,ep,h1,h2,_⟩:=p;exact mZ sR I.kIn ⟨o,h1,h2.1⟩ e (λz=>nomatch z) h
|@dT a kvs ea=>cases(show u=Value.ref a from rx);obtain⟨_,_,xs,_,o,es,ep,h1,h2,_⟩:=(show jP X.prog X.w H s.heap a (.dT kvs)from I.hok a _ ea);exact mZ sR I.kIn ⟨o,h1,h2.1⟩ e (λz=>nomatch z) h
|@ins a C dx fs ea cl ha hn htk hm=>cases(show u=Value.ref a from rx);obtain⟨mA,O,_⟩:=q46 I.hok ea;obtain⟨od,J,_⟩:=O.look;exact mZ (PySem.W.kitx_own (cl.get _) cl.hd ha hn htk hm) I.kIn J e (λz=>nomatch z) h)
end
structure Room(k:Nat)(A:Around):Prop where
hd:A.handled=none
dp:A.depth+3*k+5<recursionLimit
un:A.units+16*k+200<cLine
theorem Room.mono{j k:Nat}{A:Around}(r:Room k A)(h:j≤k):Room j A:=⟨r.hd,by have:=r.dp;lia,by have:=r.un;lia⟩
theorem Room.deeper{k:Nat}{A:Around}(r:Room (k+1) A)(env:Env):Room k (A.deeper env):=⟨r.hd,by have:=r.dp;show A.depth+1+3*k+5< _;lia,by have:=r.un;show A.units+3+16*k+200< _;lia⟩
theorem Room.in1{k:Nat}{A:Around}(r:Room (k+1) A):Room k A.in1:=⟨r.hd,by have:=r.dp;show A.depth+3*k+5< _;lia,by have:=r.un;show A.units+1+16*k+200< _;lia⟩
theorem q8Z{A:Around}{C:Addr}{us:List Value}{kw:List (Str×Value)}:(A.under (.builtin "type.__call__" ⟨.ref C::us,kw⟩)).depth=A.depth+1:=by first|rfl|simp[Around.under,Code.weight,Code.isCreation,Code.isGuard,Code.isCaller,Code.frames,Code.isFrame,guardIds]
theorem q90{A:Around}{C:Addr}{us:List Value}{kw:List (Str×Value)}:(A.under (.builtin "type.__call__" ⟨.ref C::us,kw⟩)).units=A.units+1:=by first|rfl|simp[Around.under,Code.cUnits,Code.frames,Code.isFrame]
theorem Room.make{k:Nat}{A:Around}(r:Room (k+1) A)(C:Addr)(us:List Value)(kw:List (Str×Value)):Room k (A.under (.builtin "type.__call__" ⟨.ref C::us,kw⟩)):=⟨r.hd,by have:=r.dp;rw[q8Z];lia,by have:=r.un;rw[q90];lia⟩
theorem Room.depth{k:Nat}{A:Around}(r:Room k A):A.depth<recursionLimit:=by have:=r.dp;lia
theorem Room.units{k:Nat}{A:Around}(r:Room k A):A.units+64<cLine:=by have:=r.un;lia
noncomputable def tNil:TA:=λ_ H Q=>Q [] H
noncomputable def qBK(ta:TE)(tr:TA):TA:=λσ H Q=>ta σ H λx H1=>tr σ H1 λxs H2=>Q (x::xs) H2
section
variable{X:Cx}{e:Expr}{es:List Expr}{te:TE}{t:TA}{pos:Pos}
theorem qE:PA X [] tNil:=λ_ _ _ _ H Q I h=>cM ⟨[],H,I,.nil,h⟩
theorem qA(ha:PE X e te)(hr:PA X es t)(hs:starEach (e::es) X.env=(false,eval e X.env)::starEach es X.env:=by rfl):PA X (e::es) (qBK te t):=by(
intro pos pins s σ H Q I h
rw[hs]
show wpAny _ _ (spliced ((false,eval e X.env)::backTo pos (starEach es X.env))) _ _ s
refine cE (thn (ha pins s σ H _ I h) λu s1 hZ=>?_)
obtain⟨x,H1,I1,r1,q1⟩:=hZ
exact thn (hr pos pins s1 σ H1 _ I1 q1) λus s2 ⟨xs,H2,I2,r2,q2⟩=>⟨x::xs,H2,I2,.cons r1 r2,q2⟩)
end
noncomputable abbrev Sp:=List V→Hp→VK→XK→Prop
noncomputable abbrev CXT:=List Env→Hp→Shared→XK→Value→Shared→Prop
structure Env0(P:Program)(w:World)(K:PySem.W.Frag)(mg:Str→Option Value)(base:Heap)(A:Around)(outer:List Env)(s:Shared)(H:Hp):Prop where
frames:A.frames=some outer
mod:Mod K mg base
bs:∀b o,base.get? b=some o→s.heap.get? b=some o∧H b=none
bsz:base.objs.size≤s.heap.objs.size
funs:s.heap.FunFrames base outer
frf:∀b∈frs outer,H b=none
hok:HOk P w H s.heap
bare:AllBare s.gens
noncomputable def CE(outer:List Env)(P:Program)(w:World)(H:Hp)(s:Shared)(Q:VK)(u:Value)(s':Shared):Prop:=∃v H',s'.os=s.os∧AllBare s'.gens∧Un (frs outer) [] H H' s.heap s'.heap∧HOk P w H' s'.heap∧RelV v u∧Q v H'
noncomputable def CR(CX:CXT)(outer:List Env)(P:Program)(w:World)(H:Hp)(s:Shared)(Q:VK)(E:XK)(r:Result)(s':Shared):Prop:=match r with
| .ok (.ret u)=>CE outer P w H s Q u s'
| .ok _=>False
| .error e=>CX outer H s E e s'
structure FnOk(P:Program)(w:World)(K:PySem.W.Frag)(mg:Str→Option Value)(base:Heap)(CX:CXT)(k:Nat)(f:Addr)(fd:FuncData)(ps:List Str)(sp:Sp):Prop where
len:∀vs H Q E,sp vs H Q E→vs.length=ps.length
run:∀(A:Around) (outer:List Env) (s:Shared) (H:Hp) (args:Args) (us:List Value) (vs:List V) (Q:VK) (E:XK),Room k A→Env0 P w K mg base A outer s H→BindsTo s fd args (ps.zip us)→Vals vs us→sp vs H Q E→codeAny (model P w) A (.call (.ref f) args) (CR CX outer P w H s Q E) s
theorem FnOk.mono{P:Program}{w:World}{K:PySem.W.Frag}{mg:Str→Option Value}{base:Heap}{CX:CXT}{j k:Nat}{f:Addr}{fd:FuncData}{ps:List Str}{sp:Sp}(F:FnOk P w K mg base CX j f fd ps sp)(h:j≤k:=by decide):
 FnOk P w K mg base CX k f fd ps sp:=⟨F.len,λA outer s H args us vs Q E hr=>F.run A outer s H args us vs Q E (hr.mono h)⟩
theorem Env0.make{P:Program}{w:World}{K:PySem.W.Frag}{mg:Str→Option Value}{base:Heap}{A:Around}{outer:List Env}{s:Shared}{H:Hp}(e:Env0 P w K mg base A outer s H)(C:Addr)(us:List Value)(kw:List (Str×Value)):
 Env0 P w K mg base (A.under (.builtin "type.__call__" ⟨.ref C::us,kw⟩)) outer s H:=⟨by first|exact e.frames|(simpa[Around.under,Code.envs,Code.isFrame,pushEnvs]using e.frames),e.mod,e.bs,e.bsz,e.funs,e.frf,e.hok,e.bare⟩
section
variable{X:Cx}{pins:List (Addr×Obj)}{σ:St}{H:Hp}{s s':Shared}
theorem Inv.env0(I:Inv X pins σ H s):Env0 X.prog X.w X.K X.mg X.base X.A X.stack s H:=⟨I.ok.frames,I.ok.mod,I.bs,mI I.ok.bsz I.sz,I.stack,I.stkFree,I.hok,I.bare⟩
theorem Inv.after{Q:VK}{u:Value}(I:Inv X pins σ H s)(h:CE X.stack X.prog X.w H s Q u s'):EP X pins σ Q u s':=by(
obtain⟨v,H',os,bare,un,hok,r,q⟩:=h
obtain⟨hh,g,d,t,os'⟩:=s'
obtain rfl:os'=s.os:=os
exact⟨v,H',I.call (h':=hh) (g':=g) (d':=d) (t':=t) (ch:=[]) un hok bare (λb z=>absurd z (by simp)),r,q⟩)
end
noncomputable def qEP(sp:Sp)(dvs:List V)(E:XK)(t:TA):TE:=λσ H Q=>t σ H λvs H1=>sp (vs++dvs) H1 Q E
noncomputable def qEQ(C:Addr)(m:Str)(sp:Sp)(dvs:List V)(E:XK)(ta:TE)(t:TA):TE:=λσ H Q=>ta σ H λx H1=>∃a dx fs,x=.ref a∧H1 a=some (.ins C dx fs)∧fs.lookup m=none∧t σ H1 λvs H2=>sp (x::(vs++dvs)) H2 Q E
noncomputable def qH5(C:Addr)(sp:Sp)(dvs:List V)(E:XK)(t:TA):TE:=λσ H Q=>t σ H λvs H1=>∀x dx,H1 x=none→H1 dx=none→dx≠x→sp (.ref x::(vs++dvs)) (upd (upd H1 dx (.own x)) x (.ins C dx [])) (λv H2=>v=.non∧Q (.ref x) H2) E
noncomputable def yC(K:PySem.W.Frag)(fd:FuncData)(ps:List Str)(ds:List Value):Prop:=∀(s:Shared) (us:List Value),K.In s.heap→(us++ds).length=ps.length→BindsTo s fd ⟨us,[]⟩ (ps.zip (us++ds))
theorem yC.all{K:PySem.W.Frag}{fd:FuncData}{ps:List Str}(h:∀us:List Value,us.length=ps.length→bindArgs fd ⟨us,[]⟩=pure (ps.zip us)):yC K fd ps []:=λs us _ hl=>by rw[nK]at hl ⊢;exact .of_eq (h us hl)
noncomputable def zC(CX:CXT)(X:Cx)(E:XK):Prop:=∀(pins:List (Addr×Obj)) (σ:St) (H:Hp) (s:Shared) (e:Value) (s':Shared),Inv X pins σ H s→CX X.stack H s E e s'→X.xe e s'
section
variable{X:Cx}{CX:CXT}{k:Nat}{f C:Addr}{fd:FuncData}{ps:List Str}{sp:Sp}{dvs:List V}{ds:List Value}{E:XK}{x m:Str}{p pos apos:Pos}{e o:Expr}{es:List Expr}{ta:TE}{t:TA}
theorem q91{pins:List (Addr×Obj)}{σ:St}{H:Hp}{s:Shared}{Q:VK}{us:List Value}{vs:List V}(F:FnOk X.prog X.w X.K X.mg X.base CX k f fd ps sp)(hr:Room k X.A)(hb:yC X.K fd ps ds)(hd:Vals dvs ds)(hx:zC CX X E)
 (I:Inv X pins σ H s) (r:Vals vs us) (h:sp (vs++dvs) H Q E):wpAny (model X.prog X.w) X.A (call (.ref f) us) (EP X pins σ Q) X.xe s:=by(
have r2:Vals (vs++dvs) (us++ds):=r.append hd
have hl:(us++ds).length=ps.length:=by rw[←r2.length];exact F.len _ _ _ _ h
refine rX (dU (F.run X.A X.stack s H ⟨us,[]⟩ (us++ds) (vs++dvs) Q E hr I.env0 (hb s us I.kIn hl) r2 h) λr s' hq=>?_)
cases r with
|error e=>exact hx pins σ H s e s' I hq
|ok fl=>
 cases fl with
 |ret u=>exact I.after hq
 |next=>exact False.elim hq
 |brk=>exact False.elim hq
 |cont=>exact False.elim hq)
theorem qR(F:FnOk X.prog X.w X.K X.mg X.base CX k f fd ps sp)(hr:Room k X.A)(hg:Gl X x)(hm:X.mg x=some (.ref f))(hk:PySem.W.keepIn X.K (.ref f)=true)(hb:yC X.K fd ps ds)(hd:Vals dvs ds)(hx:zC CX X E)
 (ha:PA X (e::es) t) (hdb:(x==("__debug__":Str))=false:=by decide) (he:starEach (e::es) X.env=(false,eval e X.env)::starEach es X.env:=by rfl) (hpl:(backTo pos (starEach es X.env)).any (·.1)=false:=by rfl):
 PE X (.Call (.Name x p) (e::es) [] pos) (qEP sp dvs E t):=by(
intro pins s σ H Q I h
refine dH (q2B I hg hm ?_ hdb)
refine d6 (h₀:=X.base) I.ok.mod.kin hk (thn (ha pos pins s σ H _ I h) λus s1 ⟨vs,H1,I1,r,q⟩=>⟨I1.kIn,?_⟩) he hpl
exact q91 F hr hb hd hx I1 r q)
theorem jB{pl:Sem Bool}(he:PE X o ta)(c:Cls X.K C)(hm:Meth X.K C m f)(F:FnOk X.prog X.w X.K X.mg X.base CX k f fd ps sp)(hr:Room k X.A)(hb:yC X.K fd ps ds)(hd:Vals dvs ds)(hx:zC CX X E)(ha:PA X (e::es) t)
 (hst:starEach (e::es) X.env=(false,eval e X.env)::starEach es X.env:=by rfl) (hpl:(backTo pos (starEach es X.env)).any (·.1)=false:=by rfl)
 (ht:eval (.Call (.Attribute o m apos) (e::es) [] pos) X.env=(do
  let ov←eval o X.env
  standAt apos.atName
  let(f,first)←holding [ov] (getMethod ov m pl)
  callWith pos f first (backTo pos (starEach (e::es) X.env)) (backToKw pos (keywordEach [] X.env))):=by rfl):
 PE X (.Call (.Attribute o m apos) (e::es) [] pos) (qEQ C m sp dvs E ta t):=by(
intro pins s σ H Q I h
refine wG (pl:=pl) (thn (he pins s σ H _ I h) λu s1 hZ=>?_) ht
obtain⟨x,H1,I1,rx,a,dx,fs,ex,ea,l,q⟩:=hZ
subst ex
obtain rfl:u=Value.ref a:=rx
refine q1Y I1 ea c hm l ?_
refine d6 (first:=[.ref a]) (h₀:=X.base) I.ok.mod.kin hm.kp (thn (ha pos pins s1 σ H1 _ I1 q) λus s2 ⟨vs,H2,I2,r,q2⟩=>⟨I2.kIn,?_⟩) hst hpl
exact q91 (us:=.ref a::us) (vs:=.ref a::vs) F hr hb hd hx I2 (.cons rfl r) q2)
theorem jG{pl:Sem Bool}(he:PE X o ta)(c:Cls X.K C)(hm:Meth X.K C m f)(F:FnOk X.prog X.w X.K X.mg X.base CX k f fd ps sp)(hr:Room k X.A)(hb:yC X.K fd ps ds)(hd:Vals dvs ds)(hx:zC CX X E)
 (ht:eval (.Call (.Attribute o m apos) [] [] pos) X.env=(do
  let ov←eval o X.env
  standAt apos.atName
  let(f,first)←holding [ov] (getMethod ov m pl)
  callWith pos f first (backTo pos (starEach [] X.env)) (backToKw pos (keywordEach [] X.env))):=by rfl):
 PE X (.Call (.Attribute o m apos) [] [] pos) (qEQ C m sp dvs E ta tNil):=by(
intro pins s σ H Q I h
refine wG (pl:=pl) (thn (he pins s σ H _ I h) λu s1 hZ=>?_) ht
obtain⟨x,H1,I1,rx,a,dx,fs,ex,ea,l,q⟩:=hZ
subst ex
obtain rfl:u=Value.ref a:=rx
refine q1Y I1 ea c hm l ?_
exact PySem.W.callWith_K0 (first:=[.ref a]) I1.kIn hm.kp (q91 (us:=[.ref a]) (vs:=[.ref a]) F hr hb hd hx I1 (.cons rfl .nil) q))
structure Mk(K:PySem.W.Frag)(C f:Addr):Prop where
makes:PySem.W.makesIn K C=true
init:PySem.W.findIn K (.ref C) "__init__"=some (some (.ref f))
fn:PySem.W.isFn K (.ref f)=true
kp:PySem.W.keepIn K (.ref C)=true
theorem qBL{pins:List (Addr×Obj)}{σ:St}{H:Hp}{s:Shared}{Q:VK}{us:List Value}{vs:List V}(M:Mk X.K C f)(F:FnOk X.prog X.w X.K X.mg X.base CX k f fd ps sp)(hr:Room (k+1) X.A)(hb:yC X.K fd ps ds)(hd:Vals dvs ds)
 (hx:zC CX X E) (I:Inv X pins σ H s) (r:Vals vs us)
 (h:∀x dx,H x=none→H dx=none→dx≠x→sp (.ref x::(vs++dvs)) (upd (upd H dx (.own x)) x (.ins C dx [])) (λv H2=>v=.non∧Q (.ref x) H2) E):
 wpAny (model X.prog X.w) X.A (call (.ref C) us) (EP X pins σ Q) X.xe s:=by(
have hq:=h (s.heap.objs.size+1) s.heap.objs.size (I.hok.fresh (dW _)) (I.hok.fresh (kH _)) (mF (gO _))
have I2:=Inv.made (C:=C) I
have r2:Vals (V.ref (s.heap.objs.size+1)::(vs++dvs)) (Value.ref (s.heap.objs.size+1)::(us++ds)):=.cons rfl (r.append hd)
have hl:(Value.ref (s.heap.objs.size+1)::us++ds).length=ps.length:=by have e:=r2.length;rw[F.len _ _ _ _ hq]at e;exact e.symm
refine rX (qBI (f:=f) I.kIn M.makes M.init (d4.mp M.fn) (dU (F.run _ X.stack _ _ ⟨Value.ref (s.heap.objs.size+1)::us,[]⟩ (Value.ref (s.heap.objs.size+1)::(us++ds)) _ _ E (hr.make C us [])
 (I2.env0.make C us []) (hb _ (Value.ref (s.heap.objs.size+1)::us) I2.kIn hl) r2 hq) λr s' hq'=>?_))
cases r with
|error e=>exact hx pins σ _ _ e s' I2 hq'
|ok fl=>
 cases fl with
 |ret u=>obtain⟨v,H',I3,rv,ev,q3⟩:=I2.after hq';subst ev;exact⟨rv,⟨V.ref (s.heap.objs.size+1),H',I3,rfl,q3⟩⟩
 |next=>exact False.elim hq'
 |brk=>exact False.elim hq'
 |cont=>exact False.elim hq')
theorem q16(M:Mk X.K C f)(F:FnOk X.prog X.w X.K X.mg X.base CX k f fd ps sp)(hr:Room (k+1) X.A)(hg:Gl X x)(hm:X.mg x=some (.ref C))(hb:yC X.K fd ps ds)(hd:Vals dvs ds)(hx:zC CX X E)
 (ha:PA X (e::es) t) (hdb:(x==("__debug__":Str))=false:=by decide) (he:starEach (e::es) X.env=(false,eval e X.env)::starEach es X.env:=by rfl) (hpl:(backTo pos (starEach es X.env)).any (·.1)=false:=by rfl):
 PE X (.Call (.Name x p) (e::es) [] pos) (qH5 C sp dvs E t):=by(
intro pins s σ H Q I h
refine dH (q2B I hg hm ?_ hdb)
refine d6 (h₀:=X.base) I.ok.mod.kin M.kp (thn (ha pos pins s σ H _ I h) λus s1 ⟨vs,H1,I1,r,q⟩=>⟨I1.kIn,?_⟩) he hpl
exact qBL M F hr hb hd hx I1 r q)
end
noncomputable def PK(X:Cx)(kws:List Keyword)(t:TA):Prop:=∀(pos:Pos) (pins:List (Addr×Obj)) (s:Shared) (σ:St) (H:Hp) (Q:List V→Hp→Prop),Inv X pins σ H s→t σ H Q→wpAny (model X.prog X.w) X.A (evalAll ((backToKw pos (keywordEach kws X.env)).map (·.2))) (AP X pins σ Q) X.xe s
section
variable{X:Cx}{CX:CXT}{k:Nat}{f C:Addr}{fd:FuncData}{ps ks:List Str}{sp:Sp}{E:XK}{x m:Str}{p pos apos kpos:Pos}{e o:Expr}{es:List Expr}{kws:List Keyword}{te ta:TE}{t tk:TA}{nm:Option Str}
theorem qF9:PK X [] tNil:=λ_ _ _ _ H Q I h=>wpAny_evalAll_nil ⟨[],H,I,.nil,h⟩
theorem qDA(ha:PE X e te)(hr:PK X kws t):PK X (⟨nm,e,kpos⟩::kws) (qBK te t):=by(
intro pos pins s σ H Q I h
show wpAny _ _ (evalAll ((do let v←eval e X.env;standAt pos;pure v)::(backToKw pos (keywordEach kws X.env)).map (·.2))) _ _ s
refine wpAny_evalAll_cons (kG (thn (ha pins s σ H _ I h) λu s1 ⟨x,H1,I1,r1,q1⟩=>kG (cS (kX ?_))))
exact thn (hr pos pins s1 σ H1 _ I1 q1) λus s2 ⟨xs,H2,I2,r2,q2⟩=>⟨x::xs,H2,I2,.cons r1 r2,q2⟩)
variable{g:List Value→List Value→List Value}{gV:List V→List V→List V}
end
structure FnScope(N P:List Str)(sc:Scope):Prop where
kind:sc.kind=.function
co:sc.isCoroutine=false
gen:sc.isGenerator=false
nd:N.Nodup
pre:N.take P.length=P
par:∀x∈P,sc.names.lookup x=some .local∨sc.names.lookup x=some .cell
nofree:∀y∈sc.names,y.2≠ .free
theorem q67{kindOf:Str→Option NameKind}{x:Str}:∀{binds:List (Str×Value)} {m:Str→Option Value},(∀v,(x,v)∉binds)→bindL kindOf binds m x=m x
| [],_,_=>rfl
|(n,v)::r,m,h=>by
 unfold bindL;rw[q67 λw hw=>h w (hZ _ hw)];split
 ·have:x≠n:=by rintro rfl;exact h v kU
  simp[this]
 rfl
theorem q68{kindOf:Str→Option NameKind}{x:Str}:∀{binds:List (Str×Value)} {m:Str→Option Value},(∀v,(x,v)∉binds)→bindC kindOf binds m x=m x
| [],_,_=>rfl
|(n,v)::r,m,h=>by
 unfold bindC;rw[q68 λw hw=>h w (hZ _ hw)];split
 ·rfl
 have:x≠n:=by rintro rfl;exact h v kU
 simp[this]
theorem q69{kindOf:Str→Option NameKind}{x:Str}{v:Value}:∀{P:List Str} {vs:List Value} {i:Nat} {m:Str→Option Value},P.Nodup→P[i]?=some x→vs[i]?=some v→kindOf x=some .local→bindL kindOf (P.zip vs) m x=some v
| [],_,_,_,_,h,_,_=>by simp at h
|_::_,[],_,_,_,_,h,_=>by simp at h
|p::P,w::vs,0,m,nd,h1,h2,hk=>by simp at h1 h2;subst h1;subst h2;show bindL kindOf ((p,w)::P.zip vs) m p=_;unfold bindL;rw[q67 λv hv=>(m6.mp nd).1 (wT hv).1,kJ hk];simp
|p::P,w::vs,i+1,m,nd,h1,h2,hk=>by show bindL kindOf ((p,w)::P.zip vs) m x=_;unfold bindL;exact q69 (i:=i) (m6.mp nd).2 (by simpa using h1) (by simpa using h2) hk
theorem q6A{kindOf:Str→Option NameKind}{x:Str}{v:Value}:∀{P:List Str} {vs:List Value} {i:Nat} {m:Str→Option Value},P.Nodup→P[i]?=some x→vs[i]?=some v→kindOf x≠some .local→bindC kindOf (P.zip vs) m x=some v
| [],_,_,_,_,h,_,_=>by simp at h
|_::_,[],_,_,_,_,h,_=>by simp at h
|p::P,w::vs,0,m,nd,h1,h2,hk=>by simp at h1 h2;subst h1;subst h2;show bindC kindOf ((p,w)::P.zip vs) m p=_;unfold bindC;rw[q68 λv hv=>(m6.mp nd).1 (wT hv).1,kI hk];simp
|p::P,w::vs,i+1,m,nd,h1,h2,hk=>by show bindC kindOf ((p,w)::P.zip vs) m x=_;unfold bindC;exact q6A (i:=i) (m6.mp nd).2 (by simpa using h1) (by simpa using h2) hk
noncomputable def vH(N:List Str)(vs:List V):St:=vs.map some++List.replicate (N.length-vs.length) none
noncomputable def cxOf(CX:CXT)(P:Program)(w:World)(K:PySem.W.Frag)(mg:Str→Option Value)(base:Heap)(N:List Str)(qual:Str)(scope:Scope)(f:Addr)(cd:Value)(A:Around)(outer:List Env)(s:Shared)(H:Hp)(E:XK):Cx where
prog:=P
w:=w
K:=K
mg:=mg
base:=base
A:=A.deeper (envOfC qual scope s.heap.objs.size f cd)
N:=N
s₀:=s
H₀:=H
env:=envOfC qual scope s.heap.objs.size f cd
outer:=outer
stack:=envOfC qual scope s.heap.objs.size f cd::outer
ex:=[]
calm:=true
fn:=λ_=>true
pn:=[]
xe:=λe s'=>wpAny (model P w) (A.deeper (envOfC qual scope s.heap.objs.size f cd)) (leaving (envOfC qual scope s.heap.objs.size f cd) e) (λ_ s''=>CX outer H s E e s'') (λe' s''=>CX outer H s E e' s'') s'
theorem q81{sc:Scope}{n:Nat}{x:Str}(h:sc.names.lookup x=some .cell):∃c,(cellsFrom n sc.names []).lookup x=some c:=by have q:=wC sc.names n [] (.inl h);exact rS.mp q
theorem q6B{CX:CXT}{P:Program}{w:World}{K:PySem.W.Frag}{mg:Str→Option Value}{base:Heap}{N ps:List Str}{qual:Str}{scope:Scope}{f:Addr}{cd:Value}{A:Around}{outer:List Env}{s s1:Shared}{H:Hp}{E:XK}{us:List Value}{vs:List V}
 (S:FnScope N ps scope) (hd:A.handled=none) (e0:Env0 P w K mg base A outer s H) (hl:vs.length=ps.length) (r:Vals vs us)
 (x:InCallC s s.heap.objs.size (bindL (envOfC qual scope s.heap.objs.size f cd).kindOf (ps.zip us) λ_=>none) (cellsFrom (s.heap.objs.size+1) scope.names []) (bindC (envOfC qual scope s.heap.objs.size f cd).kindOf (ps.zip us) λ_=>none) s1):
 Inv (cxOf CX P w K mg base N qual scope f cd A outer s H E) [] (vH N vs) H s1:=by(
have hpl:ps.length≤N.length:=by have:=dS List.length S.pre;rw[dE]at this;lia
obtain⟨h1,tk,rfl,hk⟩:=x.done
have noA:∀b:Addr,b∉(cxOf CX P w K mg base N qual scope f cd A outer s H E).ex:=λb z=>absurd (show b∈([]:List Addr)from z) (by simp)
refine⟨⟨e0.mod,S.kind,rfl,rfl,kH _,λy z c h1 h2=>?_,λy hy=>?_,λy c _ h=>?_,λ_=>hd,pM e0.frames,.inr ⟨rfl,rfl⟩,λb z=>absurd z (noA b),e0.bs,e0.bsz,λb _ _=>noA b,λb z=>absurd z (noA b),e0.funs,e0.frf⟩,rfl,e0.bare,Un.kept hk,⟨_,x.toInCall.ns,λi y v h1 h2 h3=>?_⟩,λy c h=>⟨_,x.cell y c h⟩,e0.hok.fresh (kH _),λy c h=>?_,λp hp=>absurd (show p∈([]:List (Addr×Obj))from hp) (by simp),e0.hok.kept hk,?_⟩
·exact name_of_addr x.apart (mU h1) (mU h2)
·have hy:scope.names.lookup y=some .cell∨scope.names.lookup y=some .free:=hy;rcases hy with hy|hy
 ·exact q81 hy
 exact absurd rfl (S.nofree _ (mU hy))
·exact wY (x.above y c (mU h))
·have hi:i<vs.length:=by
  unfold vH at h2;by_cases hi:i<vs.length
  ·exact hi
  rw[gT (by simpa using hi)]at h2;rw[g0]at h2;split at h2<;>cases h2
 have ha:vs[i]?=some v:=by
  unfold vH at h2;rw[dP (by simpa using hi),mC]at h2;cases e:vs[i]? with
  |none=>rw[e]at h2;cases h2
  |some a=>rw[e]at h2;cases h2;rfl
 obtain⟨u,hu,rv⟩:=r.get ha;have hp:ps[i]?=some y:=by rw[←S.pre,List.getElem?_take_of_lt (by lia)];exact h1
 have ndP:ps.Nodup:=by rw[←S.pre];exact S.nd.sublist (List.take_sublist _ _)
 refine⟨u,rv,?_⟩;rcases S.par y (gH hp)with k|k
 ·exact .inl ⟨k,q69 ndP hp hu k⟩
 obtain⟨c,e⟩:=q81 (n:=s.heap.objs.size+1) k;refine .inr ⟨.inl k,c,e,?_⟩;have q:=x.cell y c e;rw[q6A ndP hp hu (by show scope.names.lookup y≠_;rw[k];decide)]at q;exact q
·exact e0.hok.fresh (wY (x.above y c (mU h)))
unfold vH
show _=N.length
rw[mP,hV,mT]
lia)
theorem qBM{CX:CXT}{P:Program}{w:World}{K:PySem.W.Frag}{mg:Str→Option Value}{base:Heap}{k:Nat}{f:Addr}{name qual:Str}{params:Arguments}{body:List Stmt}{scope:Scope}{dV kV doc pm cdv ct oc:Value}{an od:Option Addr}
 {osl:Array (Option Value)} {N ps:List Str} {sp:Sp} (lk:K.lookup f=some ⟨oc,od,.func (PySem.W.fnOf name qual params body scope dV kV doc pm an cdv ct),osl⟩) (hcd:PySem.W.codeIn K cdv qual=true) (S:FnScope N ps scope)
 (len:∀vs H Q E,sp vs H Q E→vs.length=ps.length)
 (hbody:∀(A:Around) (outer:List Env) (s:Shared) (H:Hp) (vs:List V) (Q:VK) (E:XK),Room k (A.deeper (envOfC qual scope s.heap.objs.size f cdv))→sp vs H Q E→∃t,PSs (cxOf CX P w K mg base N qual scope f cdv A outer s H E) body t∧t { nx:=λ_ H'=>Q .non H',rt:=Q } (vH N vs) H):
 FnOk P w K mg base CX (k+1) f (PySem.W.fnOf name qual params body scope dV kV doc pm an cdv ct) ps sp:=by(
refine⟨len,λA outer s H args us vs Q E hr e0 hb r hsp=>?_⟩
have hl:=len _ _ _ _ hsp
have KX:K.In s.heap:=e0.mod.kin.keeps λb o e=>(e0.bs b o e).1
have lim:s.heap.NoLimit:=e0.mod.nolimit.keeps λb o e=>(e0.bs b o e).1
have hkind:∀y∈ps.zip us,scope.names.lookup y.1=some .local∨(scope.names.lookup y.1=some .cell∧((cellsFrom (s.heap.objs.size+1) scope.names []).lookup y.1).isSome=true):=λ⟨n,v⟩ hy=>by
 rcases S.par n (wT hy).1 with q|q
 ·exact .inl q
 exact .inr ⟨q,wC _ _ _ (.inl q)⟩
refine pH hr.depth (KX _ _ lk) rfl S.co S.gen rfl (sK KX hcd) (hb _ _ _ _ ?_)
refine cF S.kind hkind λenv he s1 x=>?_
subst he
refine⟨lim.keeps x.toInCall.keep,codeAny_func ?_⟩
obtain⟨t,ht,hq⟩:=hbody A outer s H vs Q E (hr.deeper _) hsp
have I:Inv (cxOf CX P w K mg base N qual scope f cdv A outer s H E) [] (vH N vs) H s1:=q6B S hr.hd e0 hl r x
refine gJ (ht [] s1 (vH N vs) H _ I hq) (λfl s' hs=>?_) λe s' hs=>hs
have fin:∀{σ':St} {H':Hp} {v:V} {u:Value},Inv (cxOf CX P w K mg base N qual scope f cdv A outer s H E) [] σ' H' s'→RelV v u→Q v H'→CE outer P w H s Q u s':=fun {σ' H' v u} J rv q=>⟨v,H',J.os,J.bare,J.base,J.hok,rv,q⟩
cases fl with
|ret u=>obtain⟨v,σ',H',J,rv,q⟩:=hs;exact fin J rv q
|next=>obtain⟨σ',H',J,q⟩:=hs;exact fin (v:=V.non) (u:=Value.none) J rfl q
|brk=>obtain⟨_,_,_,q⟩:=hs;exact False.elim q
|cont=>obtain⟨_,_,_,q⟩:=hs;exact False.elim q)
section
variable{X:Cx}{x:Str}{p pos:Pos}{e:Expr}{es:List Expr}{t:TA}{id T:String}{r:List V→Hp→VK→Prop}
noncomputable def tCB(r:List V→Hp→VK→Prop)(t:TA):TE:=λσ H Q=>t σ H λvs H1=>r vs H1 Q
theorem qP(hc:v8 X (.builtin id) r)(hg:Gl X x)(hm:X.mg x=none)(hv:bootBuiltins x=some (.builtin id))(ha:PA X (e::es) t)(hn:x≠"__name__":=by decide)(hdb:(x==("__debug__":Str))=false:=by decide)
 (he:starEach (e::es) X.env=(false,eval e X.env)::starEach es X.env:=by rfl) (hpl:(backTo pos (starEach es X.env)).any (·.1)=false:=by rfl):PE X (.Call (.Name x p) (e::es) [] pos) (tCB r t):=by intro pins s σ H Q I h;refine dH (q4G I hg hm hv ?_ hn hdb);exact PyProof.Rows.callWith_builtin1 (thn (ha pos pins s σ H _ I h) λus s1 ⟨vs,H1,I1,r1,q1⟩=>hc pins s1 σ H1 vs us Q I1 r1 q1) he hpl
theorem q31(hc:v8 X (.type T) r)(hg:Gl X x)(hm:X.mg x=none)(hv:bootBuiltins x=some (.type T))(ha:PA X (e::es) t)(hn:x≠"__name__":=by decide)(hdb:(x==("__debug__":Str))=false:=by decide)
 (he:starEach (e::es) X.env=(false,eval e X.env)::starEach es X.env:=by rfl) (hpl:(backTo pos (starEach es X.env)).any (·.1)=false:=by rfl):PE X (.Call (.Name x p) (e::es) [] pos) (tCB r t):=by intro pins s σ H Q I h;refine dH (q4G I hg hm hv ?_ hn hdb);exact wZ (thn (ha pos pins s σ H _ I h) λus s1 ⟨vs,H1,I1,r1,q1⟩=>hc pins s1 σ H1 vs us Q I1 r1 q1) he hpl
end
end L2
namespace HT
open PySem PyProof.Rows
section
variable{prog:Program}{w:World}{A:Around}{E:Value→Shared→Prop}{s:Shared}
noncomputable def sIx(n d:Nat):Option Int→Nat
|none=>d
|some v=>if v<0 then(v+(n:Int)).toNat else min v.toNat n
end
end HT
namespace L2
open PySem PySem.Spec PyProof.Rows
noncomputable abbrev TO:=St→Hp→(Option Int→Hp→Prop)→Prop
noncomputable def PO(X:Cx)(e:Option Expr)(t:TO):Prop:=∀(pins:List (Addr×Obj)) (s:Shared) (σ:St) (H:Hp) (Q:Option Int→Hp→Prop),Inv X pins σ H s→t σ H Q→wpAny (model X.prog X.w) X.A (evalPart e X.env) (λu s'=>∃o H',Inv X pins σ H' s'∧IsPart u o∧Q o H') X.xe s
noncomputable def qH6(t:TE):TO:=λσ H Q=>t σ H λx H1=>∃i,x=.int i∧Q (some i) H1
section
variable{X:Cx}{e:Expr}{te:TE}{lo hi:Option Expr}{tl th:TO}{pos p2:Pos}
theorem q9U(h:PE X e te):PO X (some e) (qH6 te):=by(
intro pins s σ H Q I hw
rw[evalPart_some]
refine thn (h pins s σ H _ I hw) λu s1 hZ=>?_
obtain⟨x,H1,I1,r1,q1⟩:=hZ
obtain⟨i,rfl,q⟩:=q1
obtain⟨t,rfl⟩:=r1
exact⟨some i,H1,I1,.int i t,q⟩)
noncomputable def SlR(X:Cx)(r:V→Option Int→Option Int→Hp→VK→Prop):Prop:=∀(pins:List (Addr×Obj)) (s:Shared) (σ:St) (H:Hp) (x:V) (v vl vu:Value) (lo hi:Option Int) (sl:Addr) (Q:VK),Inv X pins σ H s→RelV x v→s.heap.IsSliceOf sl vl vu .none→IsPart vl lo→IsPart vu hi→r x lo hi H Q→∃T id,typeLookup (.type T) "__getitem__"=pure (some (.builtin id))∧s.TypeIs v T∧wpAny (model X.prog X.w) X.A (getItem v (.ref sl)) (EP X pins σ Q) X.xe s
noncomputable def tSl(r:V→Option Int→Option Int→Hp→VK→Prop)(te:TE)(tl th:TO):TE:=λσ H Q=>te σ H λx H1=>tl σ H1 λl H2=>th σ H2 λu H3=>r x l u H3 Q
theorem qBN{r:V→Option Int→Option Int→Hp→VK→Prop}(hr:SlR X r)(he:PE X e te)(hl:PO X lo tl)(hu:PO X hi th):PE X (.Subscript e (.Slice lo hi none p2) pos) (tSl r te tl th):=by(
intro pins s σ H Q I h
refine nU (thn (he pins s σ H _ I h) λv s1 hZ=>?_)
obtain⟨x,H1,I1,r1,q1⟩:=hZ
refine wpAny_Slice (thn (hl pins s1 σ H1 _ I1 q1) λvl s2 ⟨l,H2,I2,pl,q2⟩=>thn (hu pins s2 σ H2 _ I2 q2) λvu s3 hZ=>?_)
obtain⟨u,H3,I3,pu,q3⟩:=hZ
rw[evalPart_none]
refine kX ?_
have I4:Inv X pins σ H3 { s3 with heap:=s3.heap.push { cls:=.type "slice",data:=.fields #[vl,vu,.none] } }:=I3.kept (t':=s3.toks) λb ob q=>hU _ q
obtain⟨T,id,hT,ht,hg⟩:=hr pins { s3 with heap:=s3.heap.push { cls:=.type "slice",data:=.fields #[vl,vu,.none] } } σ H3 x v vl vu l u s3.heap.objs.size Q I4 r1 (lY ..) pl pu q3
show wpAny (model X.prog X.w) X.A (subscriptTail e (.Slice lo hi none p2) v (.ref s3.heap.objs.size)) (EP X pins σ Q) X.xe { s3 with heap:=s3.heap.push { cls:=.type "slice",data:=.fields #[vl,vu,.none] } }
exact tail_any (ops:=[.ref s3.heap.objs.size,v]) ht hT hg (by with_unfolding_all rfl))
noncomputable def cutV(xs:List V)(lo hi:Option Int):List V:=(xs.drop (HT.sIx xs.length 0 lo)).take (HT.sIx xs.length xs.length hi-HT.sIx xs.length 0 lo)
theorem q3M(xs:List V)(lo hi:Option Int):(cutV xs lo hi).length≤xs.length:=by unfold cutV;rw[dE,List.length_drop];lia
end
noncomputable def ixN(n:Nat)(i:Int):Option Nat:=if 0≤i then(if i<n then some i.toNat else none)else if-(n:Int)≤i then some (i+n).toNat else none
noncomputable def atI{α:Type}(xs:List α)(i:Int):Option α:=(ixN xs.length i).bind λj=>xs[j]?
theorem q9V{n:Nat}{i:Int}{j:Nat}(h:ixN n i=some j):seqIndex? i n=some j∧j<n∧-(n:Int)≤i∧i<n:=by(
unfold ixN at h
by_cases h0:0≤i
·rw[kJ h0]at h;by_cases h1:i<n
 ·rw[kJ h1]at h;have e:i.toNat=j:=kP h;exact⟨by rw[pN h0 h1,e],by lia,by lia,h1⟩
 rw[kI h1]at h;cases h
rw[kI h0]at h
by_cases h1:-(n:Int)≤i
·rw[kJ h1]at h;have e:(i+n).toNat=j:=kP h;exact⟨by rw[cZ (by lia) h1,e],by lia,h1,by lia⟩
rw[kI h1]at h;cases h)
theorem q47{α:Type}{xs:List α}{i:Int}{v:α}(h:atI xs i=some v):∃j,seqIndex? i xs.length=some j∧xs[j]?=some v∧j<xs.length∧-(xs.length:Int)≤i∧i<xs.length:=by(
unfold atI at h
cases e:ixN xs.length i with
|none=>rw[e]at h;cases h
|some j=>rw[e]at h;obtain⟨h1,h2,h3,h4⟩:=q9V e;exact⟨j,h1,h,h2,h3,h4⟩)
theorem uE{α:Type}{xs:List α}{j:Nat}{v:α}(h:xs[j]?=some v):atI xs (j:Int)=some v:=by
 have hj:j<xs.length:=(kD.mp h).1;have e:ixN xs.length (j:Int)=some j:=by unfold ixN;rw[kJ (by lia),kJ (by lia)];simp
 unfold atI;rw[e];exact h
noncomputable def qDB(b:Expr):Prop:=∀o i,subscripted b false o i=operate [o,i] (getItem o i)
noncomputable def IxR(X:Cx)(r:R2):Prop:=∀(value slice:Expr) (pins:List (Addr×Obj)) (s:Shared) (σ:St) (H:Hp) (x y:V) (v u:Value) (Q:VK),Inv X pins σ H s→RelV x v→RelV y u→r x y H Q→subscripted slice false v u=operate [v,u] (getItem v u)→wpAny (model X.prog X.w) X.A (subscriptTail value slice v u) (EP X pins σ Q) X.xe s
noncomputable def MtR(X:Cx)(id:String)(r:V→List V→Hp→VK→Prop):Prop:=∀(pins:List (Addr×Obj)) (s:Shared) (σ:St) (H:Hp) (x:V) (xs:List V) (v:Value) (us:List Value) (Q:VK),Inv X pins σ H s→RelV x v→Vals xs us→r x xs H Q→wpAny (model X.prog X.w) X.A (call (.builtin id) (v::us)) (EP X pins σ Q) X.xe s
section
variable{X:Cx}{a b:Expr}{ta tb:TE}{pos:Pos}
theorem jQ{r:R2}(hr:IxR X r)(ha:PE X a ta)(hb:PE X b tb)(hs:qDB b):PE X (.Subscript a b pos) (tOp r ta tb):=by intro pins s σ H Q I h;exact nU (binT ha hb I h λv u s2 x y H2 I2 rx ry q=>hr a b pins s2 σ H2 x y v u Q I2 rx ry q (hs _ _))
noncomputable def rIxL(K:PySem.W.Frag):R2:=λx y H Q=>∃p xs i v,x=.ref p∧y=.int i∧SqL K H p xs∧atI xs i=some v∧Q v H
noncomputable def rIxT(K:PySem.W.Frag):R2:=λx y H Q=>∃p xs i v,x=.ref p∧y=.int i∧SqT K H p xs∧atI xs i=some v∧Q v H
noncomputable def rIxS:R2:=λx y H Q=>∃z i c,x=.str z∧y=.int i∧z.length≤sizeLine∧atI z.cps.toList i=some c∧Q (.str ⟨#[c]⟩) H
theorem jR:IxR X (rIxL X.K):=by(
intro value slice pins s σ H x y v u Q I rx ry h hs
obtain⟨p,xs,i,z,rfl,rfl,hq,he,q⟩:=h
cases rx
obtain⟨t,rfl⟩:=ry
obtain⟨its,r,pl,hz⟩:=I.list hq
obtain⟨j,h1,h2,h3,h4,h5⟩:=q47 he
obtain⟨w,ew,rw'⟩:=r.get h2
have hl:=r.length
have hn:=q1W
have fin:EP X pins σ Q w s:=⟨z,H,I,rw',q⟩
by_cases h0:0≤i
·have hj:i.toNat=j:=by rw[pN h0 h5]at h1;exact kP h1
 exact item_listR pl.isList h0 (by lia) (by rw[hj];simpa using ew) fin hs
have hj:(i+(its.toArray.size:Int)).toNat=j:=by rw[cZ (by lia) h4]at h1;rw[kQ,←hl];exact kP h1
exact c5 (x:=w) pl.isList.typeIs sS.lookup
 (c6 (Q:=λr s'=>r=w∧EP X pins σ Q r s') pl.isList (by lia) (by rw[kQ]<;>lia) (by lia) (by rw[hj];simpa using ew) ⟨rfl,fin⟩) hs)
theorem q4M:IxR X (rIxT X.K):=by(
intro value slice pins s σ H x y v u Q I rx ry h hs
obtain⟨p,xs,i,z,rfl,rfl,hq,he,q⟩:=h
cases rx
obtain⟨t,rfl⟩:=ry
obtain⟨its,r,pl,hz⟩:=I.tuple hq
obtain⟨j,h1,h2,h3,h4,h5⟩:=q47 he
obtain⟨w,ew,rw'⟩:=r.get h2
have hl:=r.length
have hn:=q1W
have fin:EP X pins σ Q w s:=⟨z,H,I,rw',q⟩
exact c5 (x:=w) pl.typeIs slot_tuple_getitem.lookup
 (getItem_tuple (j:=j) (Q:=λr s'=>r=w∧EP X pins σ Q r s') pl (by lia) (by lia) (by rw[kQ,←hl];exact h1) (by simpa using ew) ⟨rfl,fin⟩) hs)
theorem qFA:IxR X rIxS:=by(
intro value slice pins s σ H x y v u Q I rx ry h hs
obtain⟨z,i,c,rfl,rfl,hz,he,q⟩:=h
obtain⟨t,rfl⟩:=rx
obtain⟨t',rfl⟩:=ry
obtain⟨j,h1,h2,h3,h4,h5⟩:=q47 he
have hl:z.cps.toList.length=z.length:=by simp[Str.length]
rw[hl]at h1 h4 h5
have hn:=q1W
exact tail_any (typeIs_str s z t) slot_str_getitem.lookup (getItem_str (c:=c) (by have e1:decide (i < -(2 ^ 63:Int))=false:=hG (by lia);have e2:decide (i≥2 ^ 63)=false:=hG (by lia);rw[e1,e2,lL]) (by rw[h1];simpa using h2) ⟨.str ⟨#[c]⟩,H,I.tok _,⟨_,rfl⟩,q⟩) hs)
theorem q92(its:List Value)(n j:Nat)(u:Value):Obj.mapSeq (·.setIfInBounds j u) { cls:=.type "list",data:=.seq its.toArray n } = { cls:=.type "list",data:=.seq (its.set j u).toArray n }:=by simp[Obj.mapSeq]
theorem Inv.lst{pins:List (Addr×Obj)}{σ:St}{H:Hp}{s:Shared}{p:Addr}{xs:List V}(I:Inv X pins σ H s)(h:H p=some (.lst xs)):
 ∃(its:List Value) (n:Nat),Vals xs its∧s.heap.get? p=some { cls:=.type "list",data:=.seq its.toArray n }∧xs.length≤sizeLine:=by obtain⟨z,its,n,r,e⟩:=I.hok p _ h;exact⟨its,n,r,e,z⟩
theorem Inv.lstUpd{pins:List (Addr×Obj)}{σ:St}{H:Hp}{s:Shared}{p:Addr}{xs ys:List V}{its its':List Value}{n n':Nat}{f:Obj→Obj}(I:Inv X pins σ H s)(h:H p=some (.lst xs))
 (ho:s.heap.get? p=some { cls:=.type "list",data:=.seq its.toArray n }) (hf:f { cls:=.type "list",data:=.seq its.toArray n } = { cls:=.type "list",data:=.seq its'.toArray n' }) (r:Vals ys its') (hz:ys.length≤sizeLine) (t:Nat):
 Inv X pins σ (upd H p (.lst ys)) { s with heap:=s.heap.update p f,toks:=t }:=by
 have e:(s.heap.update p f).get? p=some { cls:=.type "list",data:=.seq its'.toArray n' }:=by rw[rH f ho (by rw[hf]<;>rfl),hf]
 refine I.write (x:=p) (e:=p) (by rw[h];trivial) (.inl rfl) (λb u hb q=>(mG _ _ (dD hb)).trans q) ⟨_,e⟩ ?_;exact⟨hz,its',n',r,e⟩
noncomputable def qH7:V→V→V→Hp→(Hp→Prop)→Prop:=λo i v H Q=>∃p xs k j,o=.ref p∧i=.int k∧H p=some (.lst xs)∧ixN xs.length k=some j∧Q (upd H p (.lst (xs.set j v)))
theorem zQ:PSet X qH7:=by(
intro pins s σ H o i v ov iv u Q I ro ri rv h
obtain⟨p,xs,k,j,rfl,rfl,hp,hj,q⟩:=h
cases ro
obtain⟨t,rfl⟩:=ri
obtain⟨its,n,r,ho,hz⟩:=I.lst hp
obtain⟨h1,h2,h3,h4⟩:=q9V hj
have hl:=r.length
have hn:=q1W
have I':Inv X pins σ (upd H p (.lst (xs.set j v))) { s with heap:=s.heap.update p (Obj.mapSeq (·.setIfInBounds j u)) }:=I.lstUpd hp ho (q92 its n j u) (r.set rv j) (by rw[m7];exact hz) s.toks
by_cases h0:0≤k
·have hk:k.toNat=j:=by rw[pN h0 h4]at h1;exact kP h1
 exact PySem.W.ki_setAt ho h0 (by lia) (by rw[kQ,←hl];exact h4) (by rw[hk];exact⟨_,I',q⟩)
have hk:(k+(its.toArray.size:Int)).toNat=j:=by rw[cZ (by lia) h3]at h1;rw[kQ,←hl];exact kP h1
exact PySem.W.ki_setBack ho (by lia) (by rw[kQ,←hl];exact h3) (by lia) (by rw[hk];exact⟨_,I',q⟩))
theorem q6W(lo hi:Option Int)(n:Nat):(sliceBounds lo hi none n).1=((HT.sIx n 0 lo:Nat):Int)∧(sliceBounds lo hi none n).2.1=((HT.sIx n n hi:Nat):Int)∧(sliceBounds lo hi none n).2.2=1:=by(
refine⟨?_,?_,rfl⟩
·cases lo with
 |none=>simp[sliceBounds,HT.sIx]
 |some i=>
  simp only[sliceBounds,HT.sIx,nB,show(1:Int)>0 by decide,if_true];by_cases h:i<0
  ·simp only[h,if_true]<;>lia
  simp only[h,if_false]<;>lia
cases hi with
|none=>simp[sliceBounds,HT.sIx]
|some i=>
 simp only[sliceBounds,HT.sIx,nB,show(1:Int)>0 by decide,if_true];by_cases h:i<0
 ·simp only[h,if_true]<;>lia
 simp only[h,if_false]<;>lia)
theorem q5J(its:List Value)(lo hi:Option Int):slicePick its.toArray lo hi none=((its.drop (HT.sIx its.length 0 lo)).take (HT.sIx its.length its.length hi-HT.sIx its.length 0 lo)).toArray:=by(
obtain⟨h1,h2,h3⟩:=q6W lo hi its.toArray.size
unfold slicePick
rw[h1,h2,h3]
simp only[sliceRange_one,pick_run,kQ]<;>rfl)
noncomputable def rSlL(K:PySem.W.Frag):V→Option Int→Option Int→Hp→VK→Prop:=λx lo hi H Q=>∃a xs,x=.ref a∧SqL K H a xs∧∀p,H p=none→Q (.ref p) (upd H p (.lst (cutV xs lo hi)))
theorem qDC:SlR X (rSlL X.K):=by(
intro pins s σ H x v vl vu lo hi sl Q I rx hs pl pu h
obtain⟨a,xs,rfl,hx,q⟩:=h
cases rx
obtain⟨its,r,ht,hz⟩:=I.list hx
have hlen:=r.length
refine⟨"list",_,sS.lookup,ht.isList.typeIs,?_⟩
refine wpAny_getItem_list_slice ht.isList hs pl pu .none (by simp) ?_ (by rw[kQ]<;>lia)
rw[q5J,←hlen]
refine⟨.ref s.heap.objs.size,_,I.laid (t':=s.toks) (o:=.lst (cutV xs lo hi)) (λb ob q=>hU _ q) (kH _) ?_,rfl,q _ (I.hok.fresh (kH _))⟩
exact⟨mI (q3M xs lo hi) hz,_,0,(r.drop (HT.sIx xs.length 0 lo)).take (HT.sIx xs.length xs.length hi-HT.sIx xs.length 0 lo),kY _ rfl⟩)
noncomputable def vI:V→Bool
| .non=>true
| .bl _=>true
| .int _=>true
| .str _=>true
|_=>false
noncomputable def eqV:V→V→Bool
| .non,.non=>true
| .bl a,.bl b=>a==b
| .bl a,.int b=>(if a then 1 else 0)==b
| .int a,.bl b=>a==(if b then 1 else 0)
| .int a,.int b=>a==b
| .str a,.str b=>a==b
|_,_=>false
theorem qBO{A:Around}{s:Shared}{y x:V}{u v:Value}(ry:RelV y u)(rx:RelV x v)(fy:vI y=true)(fx:vI x=true):SeqAt.EqAt A s u v (eqV y x):=by(
cases y with
|non=>
 cases ry;cases x with
 |non=>cases rx;exact wU _
 |bl b=>cases rx;exact SeqAt.EqAt.none_bool b
 |int b=>obtain⟨t,rfl⟩:=rx;exact pU b t
 |str b=>obtain⟨t,rfl⟩:=rx;exact pV b t
 |_=>exact absurd (show false=true from fx) kL
|bl a=>
 cases ry;cases x with
 |non=>cases rx;exact SeqAt.EqAt.bool_none a
 |bl b=>cases rx;exact SeqAt.EqAt.bool_bool a b
 |int b=>obtain⟨t,rfl⟩:=rx;exact SeqAt.EqAt.bool_int a b t
 |str b=>obtain⟨t,rfl⟩:=rx;exact SeqAt.EqAt.bool_str a b t
 |_=>exact absurd (show false=true from fx) kL
|int a=>
 obtain⟨t',rfl⟩:=ry;cases x with
 |non=>cases rx;exact pW a t'
 |bl b=>cases rx;exact SeqAt.EqAt.int_bool a t' b
 |int b=>obtain⟨t,rfl⟩:=rx;exact SeqAt.EqAt.int_int a t' b t
 |str b=>obtain⟨t,rfl⟩:=rx;exact sG a t' b t
 |_=>exact absurd (show false=true from fx) kL
|str a=>
 obtain⟨t',rfl⟩:=ry;cases x with
 |non=>cases rx;exact pX a t'
 |bl b=>cases rx;exact SeqAt.EqAt.str_bool a t' b
 |int b=>obtain⟨t,rfl⟩:=rx;exact sI a t' b t
 |str b=>obtain⟨t,rfl⟩:=rx;exact SeqAt.EqAt.str_str a t' b t
 |_=>exact absurd (show false=true from fx) kL
|_=>exact absurd (show false=true from fy) kL)
noncomputable def eqU(x:V)(u:Value):Bool:=match u with
| .none=>eqV .non x
| .bool b=>eqV (.bl b) x
| .int i _=>eqV (.int i) x
| .str z _=>eqV (.str z) x
|_=>false
theorem qBP{x y:V}{u:Value}(r:RelV y u)(f:vI y=true):eqU x u=eqV y x:=by(
cases y with
|non=>cases r;rfl
|bl b=>cases r;rfl
|int i=>obtain⟨t,rfl⟩:=r;rfl
|str z=>obtain⟨t,rfl⟩:=r;rfl
|_=>exact absurd (show false=true from f) kL)
theorem q6X{x:V}:∀{xs:List V} {us:List Value},Vals xs us→xs.all vI=true→us.any (eqU x)=xs.any λy=>eqV y x
|_,_,.nil,_=>rfl
|y::xs,u::us,.cons r t,f=>by rw[lM,mH]at f;rw[rG,rG,qBP r f.1,q6X t f.2]
theorem q4N{A:Around}{s:Shared}{x:V}{v:Value}(rx:RelV x v)(fx:vI x=true):∀{xs:List V} {us:List Value},Vals xs us→xs.all vI=true→∀u∈us,SeqAt.EqAt A s u v (eqU x u)
|_,_,.nil,_=>λu hu=>by cases hu
|y::xs,u::us,.cons r t,f=>λu' hu=>by
 rw[lM,mH]at f;rcases kR.mp hu with rfl|hu
 ·rw[qBP r f.1];exact qBO r rx f.1 fx
 exact q4N rx fx t f.2 u' hu
noncomputable def inV(x:V)(xs:List V):Bool:=xs.any λy=>eqV y x
noncomputable def rIn(K:PySem.W.Frag)(neg:Bool):R2:=λx y H Q=>∃p xs,y=.ref p∧(SqL K H p xs∨SqT K H p xs)∧vI x=true∧xs.all vI=true∧Q (.bl (if neg then !inV x xs else inV x xs)) H
theorem zU:OpR X (compareOp .NotIn) (rIn X.K true):=by(
intro pins s σ H x y v u Q I rx ry h
obtain⟨p,xs,rfl,hq,fx,fs,q⟩:=h
cases ry
rcases hq with hq|hq
·obtain⟨its,r,pl,hz⟩:=I.list hq;refine SeqAt.notIn_listAt (eqU x) pl.isList (λw hw=>q4N rx fx r fs w (by simpa using hw)) ⟨.bl _,H,I,rfl,?_⟩;rw[show its.toArray.any (eqU x)=its.any (eqU x) by simp,q6X r fs];exact q
obtain⟨its,r,pl,hz⟩:=I.tuple hq
refine SeqAt.notIn_tupleAt (eqU x) pl (λw hw=>q4N rx fx r fs w (by simpa using hw)) ⟨.bl _,H,I,rfl,?_⟩
rw[show its.toArray.any (eqU x)=its.any (eqU x) by simp,q6X r fs]
exact q)
theorem jT:v8 X (.builtin "len") (λxs H Q=>∃p ys,xs=[.ref p]∧(SqL X.K H p ys∨SqT X.K H p ys)∧Q (.int ys.length) H):=by(
intro pins s σ H xs us Q I r h
obtain⟨p,ys,rfl,hq,q⟩:=h
obtain⟨u,rfl,rx⟩:=vU r
cases rx
have hn:=q1W
rcases hq with hq|hq
·obtain⟨its,r',pl,hz⟩:=I.list hq;have hlen:=r'.length;exact Calls.call_len_list pl.isList (by simp only[kQ]<;>lia) ⟨.int ys.length,H,I.tok _,⟨s.toks+1,by rw[kQ,hlen]⟩,q⟩
obtain⟨its,r',pl,hz⟩:=I.tuple hq
have hlen:=r'.length
exact len_tuple pl (by simp only[kQ]<;>lia) ⟨.int ys.length,H,I.tok _,⟨s.toks+1,by rw[kQ,hlen]⟩,q⟩)
theorem q6Y:v8 X (.builtin "len") (λxs H Q=>∃z,xs=[.str z]∧z.length≤sizeLine∧Q (.int z.length) H):=by(
intro pins s σ H xs us Q I r h
obtain⟨z,rfl,hz,q⟩:=h
obtain⟨u,rfl,t,rfl⟩:=vU r
have hn:=q1W
exact len_str (by lia) ⟨.int z.length,H,I.tok _,⟨_,rfl⟩,q⟩)
theorem q6Z:v8 X (.type "list") (λxs H Q=>∃p ys,xs=[.ref p]∧(SqL X.K H p ys∨SqT X.K H p ys)∧∀l,H l=none→Q (.ref l) (upd H l (.lst ys))):=by(
intro pins s σ H xs us Q I r h
obtain⟨p,ys,rfl,hq,q⟩:=h
obtain⟨u,rfl,rx⟩:=vU r
cases rx
have fin:∀(its:List Value),Vals ys its→ys.length≤sizeLine→∀(h':Heap) (c':Nat),(∀b o',s.heap.get? b=some o'→h'.get? b=some o')→h'.get? s.heap.objs.size=some { cls:=.type "list",dict:=none,data:=.seq its.toArray c',slots:=#[] }→EP X pins σ Q (.ref s.heap.objs.size) { s with heap:=h' }:=λits r' hz h' c' kp e=>⟨.ref s.heap.objs.size,_,I.laid (t':=s.toks) kp (kH _) (show jP X.prog X.w _ h' _ (.lst ys)from⟨hz,its,c',r',e⟩),rfl,q _ (I.hok.fresh (kH _))⟩
rcases hq with hq|hq
·obtain⟨its,r',pl,hz⟩:=I.list hq;have hlen:=r'.length;obtain⟨o,ho,hc,n,hd⟩:=pl.isList;exact call_list_seq p (.inl rfl) ho hc hd (λh' c' kp e=>fin its r' hz h' c' kp e) (by simp only[kQ]<;>lia)
obtain⟨its,r',pl,hz⟩:=I.tuple hq
have hlen:=r'.length
obtain⟨o,ho,hc,n,hd⟩:=pl
exact call_list_seq p (.inr rfl) ho hc hd (λh' c' kp e=>fin its r' hz h' c' kp e) (by simp only[kQ]<;>lia))
noncomputable def tyV(K:PySem.W.Frag)(T:String)(x:V)(H:Hp):Prop:=match x with
| .str _=>T="str"
| .int _=>T="int"
| .ref p=>(T="list"∧∃xs,SqL K H p xs)∨(T="tuple"∧∃o,K.lookup p=some o∧o.cls=.type "tuple"∧o.dict=none)∨(T="dict"∧((∃kvs,H p=some (.dK kvs))∨∃kvs,H p=some (.dT kvs)))∨(T="set"∧∃S n,H p=some (.set S n))
|_=>False
theorem qBQ{pins:List (Addr×Obj)}{σ:St}{H:Hp}{s:Shared}{T:String}{x:V}{v:Value}(I:Inv X pins σ H s)(r:RelV x v)(ty:tyV X.K T x H):
 s.TypeIs v T∧∀a,v=.ref a→∃ob,s.heap.get? a=some ob∧ob.dict=none:=by(
cases x with
|str z=>obtain⟨t,rfl⟩:=r;cases(show T="str" from ty);exact⟨typeIs_str s z t,λ_ e=>nomatch e⟩
|int i=>obtain⟨t,rfl⟩:=r;cases(show T="int" from ty);exact⟨nV s i t,λ_ e=>nomatch e⟩
|ref p=>
 cases r;rcases ty with⟨rfl,xs,hq⟩|⟨rfl,o,hk,hc,hd⟩|⟨rfl,hk⟩|⟨rfl,S,n,hk⟩
 ·obtain⟨its,_,pl,_⟩:=I.list hq;refine⟨pl.isList.typeIs,λa e=>?_⟩;cases e;obtain⟨o,n,e,c,hd,_⟩:=pl;exact⟨o,e,hd⟩
 ·refine⟨⟨o,I.kIn p o hk,hc⟩,λa e=>?_⟩;cases e;exact⟨o,I.kIn _ o hk,hd⟩
 ·have z:∃o,s.heap.get? p=some o∧o.ExactDict:=by
   rcases hk with⟨kvs,hk⟩|⟨kvs,hk⟩
   ·obtain⟨_,_,_,_,o,_,_,e,ex,_⟩:=I.hok p _ hk;exact⟨o,e,ex⟩
   obtain⟨_,_,_,_,o,_,_,e,ex,_⟩:=I.hok p _ hk;exact⟨o,e,ex⟩
  obtain⟨o,e,ex⟩:=z;refine⟨⟨o,e,ex.1⟩,λa e2=>?_⟩;cases e2;exact⟨o,e,ex.2.1⟩
 obtain⟨o,_,_,_,e,ex,_⟩:=I.hok p _ hk;refine⟨⟨o,e,ex.1⟩,λa e2=>?_⟩;cases e2;exact⟨o,e,ex.2.1⟩
|_=>exact False.elim ty)
noncomputable def tBM0(K:PySem.W.Frag)(T:String)(r:V→List V→Hp→VK→Prop)(to:TE):TE:=λσ H Q=>to σ H λx H1=>tyV K T x H1∧r x [] H1 Q
noncomputable def tBM(K:PySem.W.Frag)(T:String)(r:V→List V→Hp→VK→Prop)(to:TE)(t:TA):TE:=λσ H Q=>to σ H λx H1=>tyV K T x H1∧t σ H1 λxs H2=>r x xs H2 Q
variable{o e:Expr}{es:List Expr}{to:TE}{t:TA}{name:Str}{apos cpos:Pos}{T id:String}{r:V→List V→Hp→VK→Prop}
theorem qFB(pa:PlainAttrs T)(slot:Slot T name id)(hty:typeOf (.builtin id)=pure (.type "method_descriptor"))(hm:MtR X id r)(ho:PE X o to)
 (hbase:attributeBase o name X.env (eval o X.env)=eval o X.env:=by rfl) (hline:(apos.endLine==cpos.line)=true:=by rfl):PE X (.Call (.Attribute o name apos) [] [] cpos) (tBM0 X.K T r to):=by(
intro pins s σ H Q I h
refine wpAny_Call_method0_late hbase hline (thn (ho pins s σ H _ I h) λv s1 hZ=>?_)
obtain⟨x,H1,I1,r1,ty,q1⟩:=hZ
obtain⟨h1,h2⟩:=qBQ I1 r1 ty
exact⟨T,id,pa,slot,hty,h1,h2,d7 rfl (PySem.evalArgs_none (hm pins s1 σ H1 x [] v [] Q I1 r1 .nil q1))⟩)
theorem q4O(pa:PlainAttrs T)(slot:Slot T name id)(hty:typeOf (.builtin id)=pure (.type "method_descriptor"))(hm:MtR X id r)(ho:PE X o to)(ha:PA X (e::es) t)
 (hbase:attributeBase o name X.env (eval o X.env)=eval o X.env:=by rfl)
 (hfew:((backTo cpos (starEach (e::es) X.env)).all (λx=>!x.1)&&(backToKw cpos (keywordEach [] X.env)).all (λx=>x.1.isSome)
  &&decide ((e::es).length+([]:List Keyword).length+(if([]:List Keyword).isEmpty then 0 else 1)<30))=true:=by rfl)
 (hline:(apos.endLine==cpos.line)=true:=by rfl) (hs:starEach (e::es) X.env=(false,eval e X.env)::starEach es X.env:=by rfl) (hplain:(backTo cpos (starEach es X.env)).any (·.1)=false:=by rfl):
 PE X (.Call (.Attribute o name apos) (e::es) [] cpos) (tBM X.K T r to t):=by(
intro pins s σ H Q I h
refine wpAny_Call_method_late hbase hfew hline rfl (thn (ho pins s σ H _ I h) λv s1 hZ=>?_)
obtain⟨x,H1,I1,r1,ty,q1⟩:=hZ
obtain⟨h1,h2⟩:=qBQ I1 r1 ty
refine⟨T,id,pa,slot,hty,h1,h2,?_⟩
have hA:=ha cpos pins s1 σ H1 _ I1 q1
rw[hs]at hA ⊢
refine d7 (by show(false||(backTo cpos (starEach es X.env)).any (·.1))=false;rw[hplain]<;>rfl) (wP ?_)
exact thn hA λus s2 ⟨vs,H2,I2,r2,q2⟩=>hm pins s2 σ H2 x vs v us Q I2 r1 r2 q2)
end
noncomputable def MtM(X:Cx)(id:String)(r:V→List V→Hp→VK→Prop):Prop:=∀(pins:List (Addr×Obj)) (s:Shared) (σ:St) (H:Hp) (x:V) (xs:List V) (v:Value) (us:List Value) (Q:VK),Inv X pins σ H s→RelV x v→Vals xs us→r x xs H Q→wpAny (model X.prog X.w) X.A (call (.builtin id) (v::us)) (EP X pins σ Q) X.xe s
theorem Vals.one{x:V}{us:List Value}(h:Vals [x] us):∃u,us=[u]∧RelV x u:=by
 cases h with
 |cons r t=>cases t;exact⟨_,rfl,r⟩
theorem Vals.zero:∀{us:List Value},Vals [] us→us=[]
|_,.nil=>rfl
theorem Vals.rep{xs:List V}{us:List Value}(h:Vals xs us):∀k:Nat,Vals (List.replicate k xs).flatten (List.replicate k us).flatten
|0=>.nil
|k+1=>by rw[gU,gU,rJ,rJ];exact Vals.append h (Vals.rep h k)
theorem q6C(its:List Value):∀(k:Nat) (acc:List Value),List.foldl (λx1 x2=>x1++x2) acc.toArray (List.replicate k its.toArray)=(acc++(List.replicate k its).flatten).toArray
|0,acc=>by simp
|k+1,acc=>by
 have e:acc.toArray++its.toArray=(acc++its).toArray:=by simp
 have e2:(acc++its)++(List.replicate k its).flatten=acc++(List.replicate (k+1) its).flatten:=by rw[gU,rJ,sT]
 rw[←e2,←q6C its k (acc++its),←e,gU,pB]
section
variable{X:Cx}{pins:List (Addr×Obj)}{σ:St}{H:Hp}{s:Shared}{l b:Addr}{xs ys zs:List V}
theorem Inv.lset{its its':List Value}{n:Nat}{f:Array Value→Array Value}{t':Nat}(I:Inv X pins σ H s)(hH:H l=some (.lst xs))
 (e:s.heap.get? l=some { cls:=.type "list",data:=.seq its.toArray n }) (hf:f its.toArray=its'.toArray) (hv:Vals ys its') (hz:ys.length≤sizeLine):
 Inv X pins σ (upd H l (.lst ys)) { s with heap:=s.heap.update l (Obj.mapSeq f),toks:=t' }:=by(
have q:=PySem.IsL.update e f
rw[hf]at q
refine I.write (x:=l) (e:=l) (by rw[hH];exact trivial) (.inl rfl) (λb' u hb hu=>(mG s.heap (Obj.mapSeq f) (dD hb)).trans hu) ⟨_,q⟩ ?_
exact⟨hz,its',_,hv,q⟩)
theorem Inv.lnew{its:List Value}{t':Nat}(I:Inv X pins σ H s)(hv:Vals ys its)(hz:ys.length≤sizeLine):
 Inv X pins σ (upd H s.heap.objs.size (.lst ys)) { s with heap:=s.heap.push { cls:=.type "list",data:=.seq its.toArray },toks:=t' }:=I.laid (λ_ _ q=>hU _ q) (kH _) ⟨hz,its,0,hv,kY _ rfl⟩
theorem Inv.fresh(I:Inv X pins σ H s):H s.heap.objs.size=none:=I.hok.fresh (kH _)
theorem Inv.lstM(I:Inv X pins σ H s)(hH:H l=some (.lst xs)):xs.length≤sizeLine∧∃(its:List Value) (n:Nat),Vals xs its∧xs.length=its.length∧s.heap.get? l=some { cls:=.type "list",data:=.seq its.toArray n }:=by obtain⟨z,its,n,r,e⟩:=I.hok l _ hH;exact⟨z,its,n,r,r.length,e⟩
theorem qBR{n:Nat}(h:n≤sizeLine):Builtin.List.listTooLong n=false:=by unfold Builtin.List.listTooLong;exact hG (by lia)
end
section
variable{X:Cx}
noncomputable def qDD:V→List V→Hp→VK→Prop:=λx vs H Q=>∃l xs y,x=.ref l∧vs=[y]∧H l=some (.lst xs)∧xs.length<sizeLine∧Q .non (upd H l (.lst (xs++[y])))
theorem u9:MtM X "list.append" qDD:=by(
intro pins s σ H x vs v us Q I rx rv h
obtain⟨l,xs,y,rfl,rfl,hH,hz,q⟩:=h
cases rx
obtain⟨u,rfl,ru⟩:=rv.one
obtain⟨z,its,n,r,hl,e⟩:=I.lstM hH
refine nX F.slot_list_append ⟨_,e,rfl⟩ F.entry_list_append (F.args_list_append_2 _ _) (PySem.list_append l its.toArray n u (by rw[kQ];lia)) ⟨e,?_⟩
refine⟨.non,_,I.lset (its':=its++[u]) hH e (by simp) (r.append (.cons ru .nil)) ?_,rfl,q⟩
rw[mP,wH]
lia)
noncomputable def rRep:R2:=λx y H Q=>∃l k xs,x=.ref l∧y=.int k∧H l=some (.lst xs)∧-(2 ^ 63)≤k∧k<2 ^ 63∧xs.length*k.toNat≤sizeLine∧∀p,H p=none→Q (.ref p) (upd H p (.lst (List.replicate k.toNat xs).flatten))
theorem qDE{α:Type}(xs:List α)(k:Nat):(List.replicate k xs).flatten.length=k*xs.length:=by(
induction k with
|zero=>simp
|succ k ih=>rw[gU,rJ,mP,ih,Nat.succ_mul,Nat.add_comm])
theorem qFC:OpR X (binaryOp .Mult) rRep:=by(
intro pins s σ H x y v u Q I rx ry h
obtain⟨l,k,xs,rfl,rfl,hH,h1,h2,hz,q⟩:=h
cases rx
obtain⟨t,rfl⟩:=ry
obtain⟨z,its,n,r,hl,e⟩:=I.lstM hH
have hlen:its.toArray.size*k.toNat≤sizeLine:=by rw[kQ,←hl];exact hz
have hcap:¬its.toArray.size*k.toNat>(2 ^ 63-1) / 8:=by
 have:(sizeLine:Nat)≤(2 ^ 63-1) / 8:=by decide
 lia
have hfit:¬(!Builtin.List.listFitsIndex k)=true:=by rw[fitsIndex_both h1 h2];exact kL
have hlong:¬Builtin.List.listTooLong (its.toArray.size*k.toNat)=true:=by rw[qBR hlen];exact kL
have hnew:List.foldl (λx1 x2=>x1++x2) #[] (List.replicate (if its.toArray.isEmpty=true then 0 else k.toNat) its.toArray)=(List.replicate k.toNat its).flatten.toArray:=by
 have f0:∀m:Nat,List.foldl (λx1 x2=>x1++x2) #[] (List.replicate m its.toArray)=(List.replicate m its).flatten.toArray:=λm=>by have:=q6C its m [];rw[m8]at this;exact this
 rw[f0];cases its with
 |nil=>simp
 |cons a r'=>rw[kI (by simp)]
refine wpAny_binaryOp_repeat_ref (T:="list") (U:="int") (by decide) ⟨_,e,rfl⟩ (λs'=>nV s' k t) noFill_list_mul F.fills_int_mul nL repeat_list F.slot_int_index.lookup
 (nX nL (nV s k t) F.entry_int_rmul (F.args_int_rmul_2 _ _) (int___rmul___int_list k t l its.toArray n)
  ⟨e,rfl,⟨_,e,rfl⟩,nX F.slot_list_mul ⟨_,e,rfl⟩ F.entry_list_mul (F.args_list_mul_2 _ _) (AutoListH.list___mul___list_int_3 l its.toArray n k t hfit hcap hlong) ⟨e,?_⟩⟩)
rw[hnew]
exact⟨.ref _,_,I.lnew (t':=s.toks) (r.rep k.toNat) (by rw[qDE,wD];exact hz),rfl,q _ I.fresh⟩)
end
section
variable{κ:Type}[DecidableEq κ]
noncomputable def valV(kvs:List (κ×V))(k:κ):Option V:=(kvs.find? λkv=>decide (kv.1=k)).map (·.2)
noncomputable def putK(kvs:List (κ×V))(k:κ)(v:V):List (κ×V):=if(kvs.any λkv=>decide (kv.1=k))=true then kvs.map (λkv=>if kv.1=k then(kv.1,v)else kv)else kvs++[(k,v)]
noncomputable def q4P(kvs:List (κ×V))(k:κ):List (κ×V):=kvs.filter λkv=>decide (kv.1≠k)
theorem uR{p:κ×V}{r:List (κ×V)}{k:κ}(e:p.1=k):valV (p::r) k=some p.2:=by simp[valV,g8,e]
theorem uF{p:κ×V}{r:List (κ×V)}{k:κ}(e:¬p.1=k):valV (p::r) k=valV r k:=by simp[valV,g8,e]
theorem q2C(k:κ):∀kvs:List (κ×V),(kvs.any λkv=>decide (kv.1=k))=(valV kvs k).isSome
| []=>rfl
|p::r=>by
 rw[rG];by_cases e:p.1=k
 ·simp only[uR e,hI e,Bool.true_or,Option.isSome_some]
 rw[uF e,hG e,lN];exact q2C k r
theorem q32(k j:κ)(y:V):∀kvs:List (κ×V),valV kvs k=none→valV (kvs++[(k,y)]) j=if j=k then some y else valV kvs j
| [],_=>by
 by_cases e:k=j
 ·rw[kJ e.symm];exact uR (p:=(k,y)) e
 rw[kI (λz=>e z.symm)];exact uF (p:=(k,y)) e
|p::r,hn=>by
 rw[mV];have hk:¬p.1=k:=λz=>by rw[uR z]at hn;cases hn
 rw[uF hk]at hn;have ih:=q32 k j y r hn;by_cases e:p.1=j
 ·rw[uR e,uR e,kI (λz=>hk (e.trans z))]
 rw[uF e,uF e,ih]
theorem q0E(kvs:List (κ×V))(k:κ)(v:V):(putK kvs k v).length≤kvs.length+1:=by(
unfold putK
split
·rw[hV];lia
rw[mP,mQ,pC];lia)
theorem qBS{kvs:List (κ×V)}{k:κ}(v:V)(h:valV kvs k=none):putK kvs k v=kvs++[(k,v)]:=by unfold putK;rw[q2C,h];exact kI (by decide)
theorem RelO.isSome_eq{o:Option V}{u:Option Value}(r:RelO o u):o.isSome=u.isSome:=by(
cases o with
|none=>cases u with
 |none=>rfl
 |some _=>exact(show False from r).elim
|some _=>cases u with
 |none=>exact(show False from r).elim
 |some _=>rfl)
theorem RelO.getD{o:Option V}{u:Option Value}{d:V}{d':Value}(r:RelO o u)(rd:RelV d d'):RelV (o.getD d) (u.getD d'):=by(
cases o with
|none=>cases u with
 |none=>exact rd
 |some _=>exact(show False from r).elim
|some _=>cases u with
 |none=>exact(show False from r).elim
 |some _=>exact r)
theorem KV.val{kvs:List (κ×V)}{vs:List (κ×Value)}(r:KV kvs vs)(k:κ):RelO (valV kvs k) (valueAt vs k):=by(
unfold KV at r
induction r with
|nil=>exact True.intro
|@cons p q ps qs h t ih=>
 obtain⟨h1,h2⟩:=h;by_cases e:p.1=k
 ·have e':q.1=k:=h1.symm.trans e;have b:valueAt (q::qs) k=some q.2:=by simp[valueAt,g8,e']
  rw[uR e,b];exact h2
 have e':¬q.1=k:=λz=>e (h1.trans z);have b:valueAt (q::qs) k=valueAt qs k:=by simp[valueAt,g8,e']
 rw[uF e,b];exact ih)
theorem KV.any{kvs:List (κ×V)}{vs:List (κ×Value)}(r:KV kvs vs)(k:κ):(kvs.any λkv=>decide (kv.1=k))=vs.any λkv=>decide (kv.1=k):=by(
unfold KV at r
induction r with
|nil=>rfl
|cons h t ih=>rw[rG,rG,ih,h.1])
theorem KV.repl{kvs:List (κ×V)}{vs:List (κ×Value)}(r:KV kvs vs)(k:κ){y:V}{u:Value}(ry:RelV y u):
 KV (kvs.map λkv=>if kv.1=k then(kv.1,y)else kv) (vs.map λkv=>if kv.1=k then(kv.1,u)else kv):=by(
unfold KV at r ⊢
induction r with
|nil=>exact .nil
|@cons p q ps qs h t ih=>
 rw[mM,mM];refine .cons ?_ ih;obtain⟨h1,h2⟩:=h;by_cases e:p.1=k
 ·rw[kJ e,kJ (h1.symm.trans e)];exact⟨h1,ry⟩
 rw[kI e,kI (λz=>e (h1.trans z))];exact⟨h1,h2⟩)
theorem KV.put{kvs:List (κ×V)}{vs:List (κ×Value)}(r:KV kvs vs)(k:κ){y:V}{u:Value}(ry:RelV y u):KV (putK kvs k y) (stored vs k u):=by(
unfold putK stored
rw[r.any k]
by_cases e:(vs.any λkv=>decide (kv.1=k))=true
·rw[kJ e,kJ e];exact r.repl k ry
rw[kI e,kI e];exact Paired.snoc r ⟨rfl,ry⟩)
theorem KV.drop{kvs:List (κ×V)}{vs:List (κ×Value)}(r:KV kvs vs)(k:κ):KV (q4P kvs k) (without vs k):=by(
unfold KV at r ⊢
unfold q4P without
induction r with
|nil=>exact .nil
|@cons p q ps qs h t ih=>
 obtain⟨h1,h2⟩:=h;rw[gW,gW];by_cases e:p.1=k
 ·have a:¬decide (p.1≠k)=true:=by simp[e]
  have b:¬decide (q.1≠k)=true:=by simp[h1.symm.trans e]
  rw[kI a,kI b];exact ih
 have e':¬q.1=k:=λz=>e (h1.trans z);have a:decide (p.1≠k)=true:=by simp[e]
 have b:decide (q.1≠k)=true:=by simp[e']
 rw[kJ a,kJ b];exact .cons ⟨h1,h2⟩ ih)
theorem KV.keys{kvs:List (κ×V)}{vs:List (κ×Value)}(r:KV kvs vs):kvs.map (·.1)=vs.map (·.1):=by(
unfold KV at r
induction r with
|nil=>rfl
|cons h t ih=>rw[mM,mM,ih,h.1])
theorem KV.length{kvs:List (κ×V)}{vs:List (κ×Value)}(r:KV kvs vs):kvs.length=vs.length:=sE r
theorem qBT(kvs:List (κ×V))(k:κ):(q4P kvs k).length≤kvs.length:=gD _ _
end
theorem q3N{P:Program}{w:World}{k:Key}{u:Value}(r:RelV (kV k) u):(qX P w).is k u=true:=by(
cases k with
|inl i=>obtain⟨t,e⟩:=(show ∃t,u=Value.int i t from r);subst e;exact q7X P w i t
|inr x=>obtain⟨t,e⟩:=(show ∃t,u=Value.str x t from r);subst e;exact q7Y P w x t)
theorem q6D{P:Program}{w:World}:∀{ks:List Key} {us:List Value},Vals (ks.map kV) us→ItemsAre (qX P w) ks us
| [],_,r=>by rw[c7]at r;cases r;exact .nil
|k::ks,_,r=>by
 rw[mM]at r;cases r with
 |cons h t=>exact .cons (q3N h) (q6D t)
noncomputable abbrev KT(H:Hp):List (List Key×V)→List (List Key×Addr×Value)→Prop:=Paired λp q=>p.1=q.1∧H q.2.1=some (.tup (p.1.map kV))∧RelV p.2 q.2.2
theorem KT.val{H:Hp}{kvs:List (List Key×V)}{xs:List (List Key×Addr×Value)}(r:KT H kvs xs)(k:List Key):RelO (valV kvs k) ((atKey xs k).map (·.2)):=by(
induction r with
|nil=>exact True.intro
|@cons p q ps qs h t ih=>
 obtain⟨h1,_,h2⟩:=h;by_cases e:p.1=k
 ·have e':q.1=k:=h1.symm.trans e;have b:atKey (q::qs) k=some q.2:=by simp[atKey,g8,e']
  rw[uR e,b];exact h2
 have e':¬q.1=k:=λz=>e (h1.trans z);have b:atKey (q::qs) k=atKey qs k:=by simp[atKey,g8,e']
 rw[uF e,b];exact ih)
theorem KT.repl{H:Hp}{kvs:List (List Key×V)}{xs:List (List Key×Addr×Value)}(r:KT H kvs xs)(k:List Key){y:V}{u:Value}(ry:RelV y u):
 KT H (kvs.map λkv=>if kv.1=k then(kv.1,y)else kv) (xs.map (putAt k u)):=by(
induction r with
|nil=>exact .nil
|@cons p q ps qs h t ih=>
 rw[mM,mM];refine .cons ?_ ih;obtain⟨h1,h2,h3⟩:=h;unfold putAt;by_cases e:p.1=k
 ·rw[kJ e,kJ (h1.symm.trans e)];exact⟨h1,h2,ry⟩
 rw[kI e,kI (λz=>e (h1.trans z))];exact⟨h1,h2,h3⟩)
theorem KT.put{H:Hp}{kvs:List (List Key×V)}{xs:List (List Key×Addr×Value)}(r:KT H kvs xs)(k:List Key){b:Addr}{y:V}{u:Value}(hb:H b=some (.tup (k.map kV)))(ry:RelV y u):
 KT H (putK kvs k y) (storedH xs k b u):=by(
have e:(kvs.any λkv=>decide (kv.1=k))=(atKey xs k).isSome:=by rw[q2C,(r.val k).isSome_eq,cN]
unfold putK storedH
rw[e]
by_cases q:(atKey xs k).isSome=true
·rw[kJ q,kJ q];exact r.repl k ry
rw[kI q,kI q];exact Paired.snoc r ⟨rfl,hb,ry⟩)
theorem KT.keeps{H H':Hp}{kvs:List (List Key×V)}{xs:List (List Key×Addr×Value)}(r:KT H kvs xs)(ht:∀b ys,H b=some (.tup ys)→H' b=some (.tup ys)):KT H' kvs xs:=Paired.mapP r λ_ _ z=>⟨z.1,ht _ _ z.2.1,z.2.2⟩
section
variable{P:Program}{w:World}{H:Hp}{h:Heap}{a:Addr}
theorem qER{u:HO}(ok:HOk P w H h)(e:Rd H a u):jP P w H h a u:=e.ok ok
theorem q2D{kvs:List (Key×V)}(ok:HOk P w H h)(e:Rd H a (.dK kvs)):kvs.length≤sizeLine∧(a==sysModules)=false∧∃vs,KV kvs vs∧h.DictOf (qX P w) a vs:=show jP P w H h a (.dK kvs)from qER ok e
theorem q6E{kvs:List (Key×V)}(ok:HOk P w H h)(e:H a=some (.dK kvs)):kvs.length≤sizeLine∧(a==sysModules)=false∧∃vs,KV kvs vs∧h.DictOf (qX P w) a vs:=q2D ok (.inl e)
theorem q33{ks:List Key}(ok:HOk P w H h)(e:H a=some (.tup (ks.map kV))):(tupleKind (qX P w)).is h ks a:=by obtain⟨_,its,r,o,h1,h2,n,h3⟩:=(show jP P w H h a (.tup (ks.map kV))from ok a _ e);exact⟨o,its.toArray,n,h1,h2,h3,by simpa using q6D r⟩
theorem q4Q{kvs:List (List Key×V)}(ok:HOk P w H h)(e:Rd H a (.dT kvs)):kvs.length≤sizeLine∧(a==sysModules)=false∧∃xs,KT H kvs xs∧h.DictOfH (tupleKind (qX P w)) a xs:=by(
obtain⟨z,y,xs,r,o,es,ep,h1,h2,h3,h4,h5⟩:=(show jP P w H h a (.dT kvs)from qER ok e)
refine⟨z,y,xs,r,o,es,ep,h1,h2,h3,h4,λx hx=>?_,h5⟩
have all:∀{l:List (List Key×V)} {m:List (List Key×Addr×Value)},KT H l m→∀x∈m,(tupleKind (qX P w)).is h x.1 x.2.1:=by
 intro l m q;induction q with
 |nil=>intro x hx;exact nomatch hx
 |@cons p q ps qs hq t ih=>
  intro x hx;rcases kR.mp hx with e|hx
  ·subst e;exact q33 ok (by rw[←hq.1];exact hq.2.1)
  exact ih x hx
exact all r x hx)
theorem qH8{kvs:List (List Key×V)}(ok:HOk P w H h)(e:H a=some (.dT kvs)):kvs.length≤sizeLine∧(a==sysModules)=false∧∃xs,KT H kvs xs∧h.DictOfH (tupleKind (qX P w)) a xs:=q4Q ok (.inl e)
end
noncomputable def DGet(H:Hp)(a:Addr)(y:V)(r:Option V):Prop:=(∃kvs k,Rd H a (.dK kvs)∧y=kV k∧r=valV kvs k)∨∃kvs k b,Rd H a (.dT kvs)∧y=.ref b∧H b=some (.tup (k.map kV))∧r=valV kvs k
noncomputable def DPut(H:Hp)(a:Addr)(y v:V)(H':Hp):Prop:=(∃kvs k,H a=some (.dK kvs)∧y=kV k∧kvs.length<sizeLine∧H'=upd H a (.dK (putK kvs k v)))∨∃kvs k b,H a=some (.dT kvs)∧y=.ref b∧H b=some (.tup (k.map kV))∧kvs.length<sizeLine∧H'=upd H a (.dT (putK kvs k v))
theorem DGet.k{H:Hp}{a:Addr}{kvs:List (Key×V)}{k:Key}(e:H a=some (.dK kvs)):DGet H a (kV k) (valV kvs k):=.inl ⟨kvs,k,.inl e,rfl,rfl⟩
theorem DPut.k{H:Hp}{a:Addr}{kvs:List (Key×V)}{k:Key}{v:V}(e:H a=some (.dK kvs))(hl:kvs.length<sizeLine):DPut H a (kV k) v (upd H a (.dK (putK kvs k v))):=.inl ⟨kvs,k,e,rfl,hl,rfl⟩
section
variable{X:Cx}{pins:List (Addr×Obj)}{σ:St}{H:Hp}{s:Shared}{a:Addr}{y v:V}{u r:Value}{o:Option V}{A:Around}{E:Value→Shared→Prop}
theorem Inv.big(I:Inv X pins σ H s):sysModules<s.heap.objs.size:=by have h:mainGlobals<s.heap.objs.size:=(I.mod.glob.keeps I.bk).lt;exact Nat.lt_trans (by decide) h
theorem q6F{Q:Value→Shared→Prop}(hu:A.units+1<cLine)(I:Inv X pins σ H s)(g:DGet H a y (some v))(ry:RelV y u)(h:∀w' s',Inv X pins σ H s'→RelV v w'→Q w' s'):
 wpAny (model X.prog X.w) A (getItem (.ref a) u) Q E s:=by(
rcases g with⟨kvs,k,e,ey,l⟩|⟨kvs,k,b,e,ey,eb,l⟩
·subst ey;obtain⟨z,hd,vs,rel,dd⟩:=q2D I.hok e;obtain⟨w',hw,rw'⟩:=RelO.some_of (v:=v) (o:=valueAt vs k) (by rw[l];exact rel.val k);exact wpAny_getItem_of (q3N ry) dd.mapOf hw (h w' _ (I.tok _) rw')
subst ey
cases(show u=Value.ref b from ry)
obtain⟨z,hd,xs,rel,dd⟩:=q4Q I.hok e
obtain⟨w',hw,rw'⟩:=RelO.some_of (v:=v) (o:=(atKey xs k).map (·.2)) (by rw[l];exact rel.val k)
obtain⟨p,hp,hp2⟩:=mY.mp hw
refine wpAny_getItem_heap (d8 hu) (q33 I.hok eb) dd hp ?_
rw[hp2]
exact h w' _ (I.tok _) rw')
theorem d_in{Q:Value→Shared→Prop}(hu:A.units+1<cLine)(I:Inv X pins σ H s)(g:DGet H a y o)(ry:RelV y u)(h:∀s',Inv X pins σ H s'→Q (.bool o.isSome) s'):
 wpAny (model X.prog X.w) A (compareOp .In u (.ref a)) Q E s:=by(
rcases g with⟨kvs,k,e,ey,l⟩|⟨kvs,k,b,e,ey,eb,l⟩
·subst ey;obtain⟨z,hd,vs,rel,dd⟩:=q2D I.hok e;refine wpAny_in_of (q3N ry) hd dd.mapOf ?_;rw[←(rel.val k).isSome_eq,←l];exact h _ (I.tok _)
subst ey
cases(show u=Value.ref b from ry)
obtain⟨z,hd,xs,rel,dd⟩:=q4Q I.hok e
refine wpAny_in_heap (d8 hu) (q33 I.hok eb) hd dd ?_
have q:=(rel.val k).isSome_eq
rw[cN]at q
rw[←q,←l]
exact h _ (I.tok _))
theorem q9W{Q:Value→Shared→Prop}(hu:A.units+1<cLine)(I:Inv X pins σ H s)(g:DGet H a y o)(ry:RelV y u)(h:∀s',Inv X pins σ H s'→Q (.bool (!o.isSome)) s'):
 wpAny (model X.prog X.w) A (compareOp .NotIn u (.ref a)) Q E s:=by(
rcases g with⟨kvs,k,e,ey,l⟩|⟨kvs,k,b,e,ey,eb,l⟩
·subst ey;obtain⟨z,hd,vs,rel,dd⟩:=q2D I.hok e;refine wpAny_notIn_of (q3N ry) hd dd.mapOf ?_;rw[←(rel.val k).isSome_eq,←l];exact h _ (I.tok _)
subst ey
cases(show u=Value.ref b from ry)
obtain⟨z,hd,xs,rel,dd⟩:=q4Q I.hok e
refine wpAny_notIn_heap (d8 hu) (q33 I.hok eb) hd dd ?_
have q:=(rel.val k).isSome_eq
rw[cN]at q
rw[←q,←l]
exact h _ (I.tok _))
theorem q48{h':Heap}{t':Nat}{ob:HO}(I:Inv X pins σ H s)(mu:Mut (H a))(hs:Heap.SameBut a s.heap h')(he:∃q,h'.get? a=some q)(new:jP X.prog X.w (upd H a ob) h' a ob):
 Inv X pins σ (upd H a ob) { s with heap:=h',toks:=t' }:=I.write (x:=a) (e:=a) mu (.inl rfl) (λb q hb z=>(hs.2 b hb).trans z) he new
theorem q93{P:Program}{w:World}{H':Hp}{h':Heap}{kvs:List (Key×V)}{vs:List (Key×Value)}(z:kvs.length≤sizeLine)(hd:(a==sysModules)=false)(rel:KV kvs vs)(dd:h'.DictOf (qX P w) a vs):
 jP P w H' h' a (.dK kvs):=⟨z,hd,vs,rel,dd⟩
theorem q6G{H':Hp}{Q:Unit→Shared→Prop}(hu:A.units+1<cLine)(I:Inv X pins σ H s)(g:DPut H a y v H')(ry:RelV y u)(rv:RelV v r)(h:∀s',Inv X pins σ H' s'→Q () s'):
 wpAny (model X.prog X.w) A (setItem (.ref a) u r) Q E s:=by(
rcases g with⟨kvs,k,e,ey,l,eH⟩|⟨kvs,k,b,e,ey,eb,l,eH⟩
·subst ey eH;obtain⟨z,hd,vs,rel,dd⟩:=q6E I.hok e;have hz:vs.length≤sizeLine:=by rw[←rel.length];exact z
 have hl:(putK kvs k v).length≤sizeLine:=by have:=q0E kvs k v;lia
 refine wpAny_setItem_pairs (hsz:=hz) (q3N ry) dd λh' dd' hs=>h _ ?_;have he:∃q,h'.get? a=some q:=let⟨q,_,_,hq,_⟩:=dd';⟨q,hq⟩
 exact q48 I (by rw[e];exact True.intro) hs he (q93 hl hd (rel.put k rv) dd')
subst ey eH
cases(show u=Value.ref b from ry)
obtain⟨z,hd,xs,rel,dd⟩:=qH8 I.hok e
have hz:xs.length≤sizeLine:=by rw[←sE rel];exact z
have hl:(putK kvs k v).length≤sizeLine:=by have:=q0E kvs k v;lia
refine wpAny_setItem_heap (hsz:=hz) (d8 hu) (q33 I.hok eb) dd λh' dd' hs=>h _ ?_
obtain⟨q,es,ep,hq,h2,h3,h4,_,h5⟩:=dd'
refine q48 I (by rw[e];exact True.intro) hs ⟨q,hq⟩ ⟨hl,hd,_,(rel.put k eb rv).keeps λc ys ec=>?_,q,es,ep,hq,h2,h3,h4,h5⟩
rw[qC (jK ec e (λz=>nomatch z))]
exact ec)
end
section
variable{X:Cx}{pins:List (Addr×Obj)}{σ:St}{H:Hp}{s:Shared}{a:Addr}{kvs:List (Key×V)}{k:Key}{u:Value}{A:Around}{E:Value→Shared→Prop}
theorem qH9{v:V}{more:List Value}{Q:Value→Shared→Prop}(I:Inv X pins σ H s)(e:H a=some (.dK kvs))(ry:RelV (kV k) u)(l:valV kvs k=some v)(hm:more=[]∨∃x,more=[x])
 (h:∀w' s',Inv X pins σ (upd H a (.dK (q4P kvs k))) s'→RelV v w'→Q w' s'):wpAny (model X.prog X.w) A (call (.builtin "dict.pop") (.ref a::u::more)) Q E s:=by(
obtain⟨z,hd,vs,rel,dd⟩:=q6E I.hok e
obtain⟨w',hw,rw'⟩:=RelO.some_of (v:=v) (o:=valueAt vs k) (by rw[←l];exact rel.val k)
have hp:(keyPart u).isSome=true:=by
 cases k with
 |inl i=>obtain⟨t,q⟩:=(show ∃t,u=Value.int i t from ry);subst q;rfl
 |inr x=>obtain⟨t,q⟩:=(show ∃t,u=Value.str x t from ry);subst q;rfl
have ha:argsOk "dict.pop" ⟨.ref a::u::more,[]⟩:=by
 rcases hm with q|⟨x,q⟩
 ·subst q;exact PySem.F.args_dict_pop_2 _ _
 subst q;exact PySem.F.args_dict_pop_3 _ _ _
refine c8 pI dd.typeIs PySem.F.entry_dict_pop ha (meets_dict_pop_there (qX X.prog X.w) a (q3N ry) more hm hp)
 ⟨vs,w',dd,by rw[←rel.length];exact z,hw,λh' dd' hs=>h w' _ ?_ rw'⟩
have he:∃q,h'.get? a=some q:=let⟨q,_,_,hq,_⟩:=dd';⟨q,hq⟩
exact q48 I (by rw[e];exact True.intro) hs he (q93 (mI (qBT kvs k) z) hd (rel.drop k) dd'))
theorem qHA{Q:Value→Shared→Prop}(I:Inv X pins σ H s)(e:Rd H a (.dK kvs))(h:∀t s',Inv X pins σ H s'→Q (.int kvs.length t) s'):wpAny (model X.prog X.w) A (call (.builtin "len") [.ref a]) Q E s:=by(
obtain⟨z,hd,vs,rel,dd⟩:=q2D I.hok e
refine call_len_dict hd dd (by rw[←rel.length];rw[gK]at z;lia) ?_
rw[←rel.length]
exact h _ _ (I.tok _))
end
noncomputable def NoSl(i:Expr):Prop:=∀ov iv,subscripted i false ov iv=operate [ov,iv] (getItem ov iv)
theorem qDF{prog:Program}{w:World}{A:Around}{E:Value→Shared→Prop}{s:Shared}{env:Env}{value slice:Expr}{pos:Pos}{T id:String}{Q:Value→Shared→Prop}
 (hl:typeLookup (.type T) "__getitem__"=pure (some (.builtin id))) (hs:NoSl slice)
 (h:wpAny (model prog w) A (eval value env) (λo s₁=>wpAny (model prog w) A (eval slice env) (λi s₂=>s₂.TypeIs o T∧wpAny (model prog w) A (getItem o i) Q E s₂) E s₁) E s):
 wpAny (model prog w) A (eval (.Subscript value slice pos) env) Q E s:=by(
refine nU (gJ h (λo s₁ h₁=>gJ h₁ (λi s₂ h₂=>?_) λ_ _ x=>x) λ_ _ x=>x)
obtain⟨hT,h₂⟩:=h₂
unfold subscriptTail
refine kG ?_
rw[getitemInPython_of_ne hT.not_modules]
refine kG (wpAny_specialOf hT hl ?_)
have fin:wpAny (model prog w) A (subscripted slice false o i) (λr s₃=>wpAny (model prog w) A (letTemporaryGo value o r >>= λ_=>pure r) Q E s₃) E s₂:=by rw[hs o i];exact wpAny_operating (gJ h₂ (λr s₃ h₃=>kG (wpAny_letTemporaryGo (kX h₃))) λ_ _ x=>x)
first
 |exact kX (kG fin)
 |exact kG (kX (kG fin))
 |exact kG fin)
theorem q82{X:Cx}{pins:List (Addr×Obj)}{σ:St}{H:Hp}{s:Shared}{a:Addr}{y:V}{o:Option V}(I:Inv X pins σ H s)(g:DGet H a y o):s.TypeIs (.ref a) "dict":=by(
rcases g with⟨kvs,k,e,_,_⟩|⟨kvs,k,b,e,_,_,_⟩
·obtain⟨_,_,vs,_,dd⟩:=q2D I.hok e;exact dd.typeIs
obtain⟨_,_,xs,_,dd⟩:=q4Q I.hok e
exact dd.typeIs)
noncomputable def qHB(td ty:TE):TE:=λσ H Q=>td σ H λx H1=>ty σ H1 λy H2=>∃a v,x=.ref a∧DGet H2 a y (some v)∧Q v H2
noncomputable def tDIn(ty td:TE):TE:=λσ H Q=>ty σ H λy H1=>td σ H1 λx H2=>∃a o,x=.ref a∧DGet H2 a y o∧Q (.bl o.isSome) H2
noncomputable def qDG(ty td:TE):TE:=λσ H Q=>ty σ H λy H1=>td σ H1 λx H2=>∃a o,x=.ref a∧DGet H2 a y o∧Q (.bl (!o.isSome)) H2
noncomputable def qHC(td ty tv:TE):TS:=λD σ H=>tv σ H λv H1=>td σ H1 λx H2=>ty σ H2 λy H3=>∃a H4,x=.ref a∧DPut H3 a y v H4∧D.nx σ H4
noncomputable def qHD(td ty tv:TE)(rd:V→V→Hp→VK→Prop):TS:=λD σ H=>td σ H λx H1=>ty σ H1 λy H2=>∃a v,x=.ref a∧DGet H2 a y (some v)∧tv σ H2 λy2 H3=>rd v y2 H3 λz H4=>∃H5,DPut H4 a y z H5∧D.nx σ H5
section
variable{X:Cx}{o i e value:Expr}{pos pos' tpos:Pos}{td ty tv:TE}
theorem qW(hu:X.A.units+1<cLine)(ho:PE X o td)(hi:PE X i ty)(hs:NoSl i):PE X (.Subscript o i pos) (qHB td ty):=by(
intro pins s σ H Q I h
refine qDF PySem.F.slot_dict_getitem.lookup hs (thn (ho pins s σ H _ I h) λu s1 ⟨x,H1,I1,rx,q1⟩=>thn (hi pins s1 σ H1 _ I1 q1) λiv s2 hZ=>?_)
obtain⟨y,H2,I2,ry,a,v,ex,g,q2⟩:=hZ
subst ex
obtain rfl:u=Value.ref a:=rx
exact⟨q82 I2 g,q6F hu I2 g ry λw' s3 I3 rw'=>⟨v,H2,I3,rw',q2⟩⟩)
theorem qBU(hu:X.A.units+1<cLine)(hi:PE X i ty)(ho:PE X o td):PC X .In i o (tDIn ty td):=by(
intro pins s σ H Q I h
refine thn (hi pins s σ H _ I h) λiv s1 ⟨y,H1,I1,ry,q1⟩=>thn (ho pins s1 σ H1 _ I1 q1) λu s2 hZ=>?_
obtain⟨x,H2,I2,rx,a,ov,ex,g,q2⟩:=hZ
subst ex
obtain rfl:u=Value.ref a:=rx
exact d_in hu I2 g ry λs3 I3=>⟨.bl ov.isSome,H2,I3,rfl,q2⟩)
theorem q6H(hu:X.A.units+1<cLine)(hi:PE X i ty)(ho:PE X o td):PC X .NotIn i o (qDG ty td):=by(
intro pins s σ H Q I h
refine thn (hi pins s σ H _ I h) λiv s1 ⟨y,H1,I1,ry,q1⟩=>thn (ho pins s1 σ H1 _ I1 q1) λu s2 hZ=>?_
obtain⟨x,H2,I2,rx,a,ov,ex,g,q2⟩:=hZ
subst ex
obtain rfl:u=Value.ref a:=rx
exact q9W hu I2 g ry λs3 I3=>⟨.bl (!ov.isSome),H2,I3,rfl,q2⟩)
theorem uP(hu:X.A.units+1<cLine)(ho:PE X o td)(hi:PE X i ty)(hv:PE X value tv)(hs:swapsWith value (some (.Subscript o i pos')) pos.line X.env=pure false):
 PS X (.Assign [.Subscript o i pos'] value pos) (qHC td ty tv):=by(
intro pins s σ H D I h
refine wpAny_Assign_Subscript (thn (hv pins s σ H _ I h) λr s1 ⟨v,H1,I1,rv,q1⟩=>thn (ho pins s1 σ H1 _ I1 q1) λu s2 ⟨x,H2,I2,rx,q2⟩=>thn (hi pins s2 σ H2 _ I2 q2) λiv s3 hZ=>?_) hs
obtain⟨y,H3,I3,ry,a,H4,ex,g,q3⟩:=hZ
subst ex
obtain rfl:u=Value.ref a:=rx
exact q6G hu I3 g ry rv λs4 I4=>⟨σ,H4,I4,q3⟩)
theorem q9X{op:Operator}{rd:V→V→Hp→VK→Prop}(hu:X.A.units+1<cLine)(ho:PE X o td)(hi:PE X i ty)(hv:PE X value tv)(hop:InOp X op rd)
 (ha:∀ov iv new,augStore i ov iv new=(do holding [new,ov,iv] (setItem ov iv new);release [new,ov,iv] [];pure .next)):PS X (.AugAssign (.Subscript o i tpos) op value pos) (qHD td ty tv rd):=by(
intro pins s σ H D I h
refine wS (thn (ho pins s σ H _ I h) λu s1 ⟨x,H1,I1,rx,q1⟩=>thn (hi pins s1 σ H1 _ I1 q1) λiv s2 hZ=>?_) ha
obtain⟨y,H2,I2,ry,a,v,ex,g,q2⟩:=hZ
subst ex
obtain rfl:u=Value.ref a:=rx
refine q6F hu I2 g ry λw' s3 I3 rw'=>thn (hv pins s3 σ H2 _ I3 q2) λw2 s4 ⟨y2,H3,I4,ry2,q3⟩=>thn (hop pins s4 σ H3 v y2 w' w2 _ I4 rw' ry2 q3) λw3 s5 hZ=>?_
obtain⟨z,H4,I5,rz,H5,g5,q4⟩:=hZ
exact q6G hu I5 g5 ry rz λs6 I6=>⟨σ,H5,I6,q4⟩)
end
theorem q83{P:Program}{w:World}{H:Hp}(h:Heap)(hb:sysModules<h.objs.size):jP P w H (h.push { cls:=.type "dict",data:=.dict #[] }) h.objs.size (.dK []):=⟨mJ _,g9.mpr (dD (mF hb)),[],.nil,Heap.DictOf.new h⟩
noncomputable def qFD:TE:=λ_ H Q=>∀p,H p=none→Q (.ref p) (upd H p (.dK []))
section
variable{X:Cx}{pos:Pos}
theorem uS:PE X (.Dict [] [] pos) qFD:=λpins s σ H Q I h=>wpAny_Dict_empty ⟨.ref s.heap.objs.size,_,I.laid (a:=s.heap.objs.size) (o:=.dK []) (t':=s.toks) (λ_ _ q=>hU _ q) (kH _) (q83 s.heap I.big),rfl,h _ (I.hok.fresh (kH _))⟩
end
noncomputable def q94:List (TE×TE)→St→Hp→(List (V×V)→Hp→Prop)→Prop
| [],_,H,Q=>Q [] H
|(tk,tv)::r,σ,H,Q=>tk σ H λx H1=>tv σ H1 λy H2=>q94 r σ H2 λps H3=>Q ((x,y)::ps) H3
noncomputable abbrev VV:List (V×V)→List (Value×Value)→Prop:=Paired λp q=>RelV p.1 q.1∧RelV p.2 q.2
noncomputable def PPs(X:Cx)(pos:Pos)(keys:List (Option Expr))(values:List Expr)(trs:List (TE×TE)):Prop:=∀(pins:List (Addr×Obj)) (s:Shared) (σ:St) (H:Hp) (Q:List (V×V)→Hp→Prop),Inv X pins σ H s→q94 trs σ H Q→wpAny (model X.prog X.w) X.A (evalPairs (pairTrees keys values X.env pos)) (λvs s'=>∃ps H',Inv X pins σ H' s'∧VV ps vs∧Q ps H') X.xe s
theorem qDH{X:Cx}{pos:Pos}:PPs X pos [] [] []:=λpins s σ H Q I h=>pairTrees_nil_walk ⟨[],H,I,.nil,h⟩
theorem q4R{X:Cx}{pos:Pos}{k v:Expr}{ks:List (Option Expr)}{vs:List Expr}{tk tv:TE}{trs:List (TE×TE)}(hk:PE X k tk)(hv:PE X v tv)(hr:PPs X pos ks vs trs):
 PPs X pos (some k::ks) (v::vs) ((tk,tv)::trs):=λpins s σ H Q I h=>
 pairTrees_cons_walk (thn (hk pins s σ H _ I h) λu s1 ⟨x,H1,I1,rx,q1⟩=>thn (hv pins s1 σ H1 _ I1 q1) λw2 s2 ⟨y,H2,I2,ry,q2⟩=>thn (hr pins s2 σ H2 _ I2 q2) λws s3 ⟨ps,H3,I3,rel,q3⟩=>⟨(x,y)::ps,H3,I3,.cons ⟨rx,ry⟩ rel,q3⟩)
noncomputable def q34(kvs more:List (Key×V)):List (Key×V):=more.foldl (λacc kv=>putK acc kv.1 kv.2) kvs
theorem KV.merge:∀{more:List (Key×V)} {rs:List (Key×Value)} {kvs:List (Key×V)} {vs:List (Key×Value)},KV more rs→KV kvs vs→KV (q34 kvs more) (merged vs rs):=by(
intro more rs kvs vs r
unfold KV at r
induction r generalizing kvs vs with
|nil=>intro q;exact q
|@cons p q ps qs h t ih=>
 intro r0;have e:KV (putK kvs p.1 p.2) (stored vs q.1 q.2):=by have:=r0.put p.1 h.2;rw[←h.1];exact this
 exact ih e)
theorem q1K:∀(more kvs:List (Key×V)),(q34 kvs more).length≤kvs.length+more.length
| [],kvs=>by show kvs.length≤kvs.length+0;lia
|p::r,kvs=>by have h1:=q1K r (putK kvs p.1 p.2);have h2:=q0E kvs p.1 p.2;show(q34 (putK kvs p.1 p.2) r).length≤_;rw[mQ];lia
theorem q4S{P:Program}{w:World}:∀{kvs:List (Key×V)} {ws:List (Value×Value)},VV (kvs.map λkv=>(kV kv.1,kv.2)) ws→∃rs,Carries (qX P w) ws rs∧KV kvs rs
| [],_,r=>by rw[c7]at r;cases r;exact⟨[],True.intro,.nil⟩
|p::kvs,_,r=>by
 rw[mM]at r;cases r with
 |@cons a b as bs h t=>obtain⟨rs,c,q⟩:=q4S (P:=P) (w:=w) t;obtain⟨b1,b2⟩:=b;exact⟨(p.1,b2)::rs,⟨q3N h.1,rfl,c⟩,.cons ⟨rfl,h.2⟩ q⟩
noncomputable def qHE(trs:List (TE×TE)):TE:=λσ H Q=>∀p,H p=none→q94 trs σ (upd H p (.dK [])) λps H2=>H2 p=some (.dK [])∧∃kvs:List (Key×V),ps=kvs.map (λkv=>(kV kv.1,kv.2))∧kvs.length≤15∧Q (.ref p) (upd H2 p (.dK (q34 [] kvs)))
theorem qDI{X:Cx}{pos:Pos}{keys:List (Option Expr)}{values:List Expr}{trs:List (TE×TE)}(h:PPs X pos keys values trs)(hall:keys.all (·.isSome)=true)(hl:keys.length=values.length)(h0:keys≠[])
 (h15:keys.length≤15):PE X (.Dict keys values pos) (qHE trs):=by(
intro pins s σ H Q I q
have hn:=I.hok.fresh (kH s.heap.objs.size)
have I1:=I.laid (a:=s.heap.objs.size) (o:=.dK []) (h':=s.heap.push { cls:=.type "dict",data:=.dict #[] }) (t':=s.toks) (λ_ _ q=>hU _ q) (kH _) (q83 s.heap I.big)
refine wpAny_Dict_walk (knd:=qX X.prog X.w) hall hl h0 h15 (thn (h pins _ σ _ _ I1 (q _ hn)) λws s2 hZ=>?_)
obtain⟨ps,H2,I2,rel,e,kvs,ep,lk,q2⟩:=hZ
subst ep
obtain⟨rs,c,rk⟩:=q4S (P:=X.prog) (w:=X.w) rel
obtain⟨z,hd,vs0,r0,dd⟩:=q6E I2.hok e
cases r0
refine⟨rs,c,dd,λh' dd' hs=>⟨.ref s.heap.objs.size,_,?_,rfl,q2⟩⟩
have hz:(q34 [] kvs).length≤sizeLine:=by have h1:=q1K kvs [];rw[pC]at h1;rw[gK];lia
have he:∃q,h'.get? s.heap.objs.size=some q:=let⟨q,_,_,hq,_⟩:=dd';⟨q,hq⟩
exact q48 I2 (by rw[e];exact True.intro) hs he (q93 hz hd (rk.merge .nil) dd'))
structure M1(X:Cx)(o:Expr)(m:Str)(apos:Pos)(e:Expr)(cpos:Pos):Prop where
base:attributeBase o m X.env (eval o X.env)=eval o X.env
few:((backTo cpos (starEach [e] X.env)).all (λx=>!x.1)&&(backToKw cpos (keywordEach [] X.env)).all (λx=>x.1.isSome)
 &&decide (([e]:List Expr).length+([]:List Keyword).length+(if([]:List Keyword).isEmpty then 0 else 1)<30))=true
line:(apos.endLine==cpos.line)=true
trees:backTo cpos (starEach [e] X.env)=[(false,eval e X.env)]
noncomputable def IsD(H:Hp)(a:Addr):Prop:=(∃kvs,Rd H a (.dK kvs))∨∃kvs,Rd H a (.dT kvs)
theorem qBV{X:Cx}{pins:List (Addr×Obj)}{σ:St}{H:Hp}{s:Shared}{a:Addr}(I:Inv X pins σ H s)(d:IsD H a):
 s.TypeIs (.ref a) "dict"∧(∀b,Value.ref a=.ref b→∃ob,s.heap.get? b=some ob∧ob.dict=none)∧(a==sysModules)=false:=by(
rcases d with⟨kvs,e⟩|⟨kvs,e⟩
·obtain⟨_,hd,vs,_,dd⟩:=q2D I.hok e;refine⟨dd.typeIs,λb q=>?_,hd⟩;cases q;obtain⟨ob,_,_,h1,h2,_⟩:=dd;exact⟨ob,h1,h2.2.1⟩
obtain⟨_,hd,xs,_,dd⟩:=q4Q I.hok e
refine⟨dd.typeIs,λb q=>?_,hd⟩
cases q
obtain⟨ob,_,_,h1,h2,_⟩:=dd
exact⟨ob,h1,h2.2.1⟩)
section
variable{X:Cx}{pins:List (Addr×Obj)}{σ:St}{H:Hp}{s:Shared}{a:Addr}{y d:V}{u r:Value}{o:Option V}{A:Around}{E:Value→Shared→Prop}
theorem qFE{Q:Value→Shared→Prop}(hu:A.units+1<cLine)(I:Inv X pins σ H s)(g:DGet H a y o)(ry:RelV y u)(h:∀w' s',Inv X pins σ H s'→RelV (o.getD .non) w'→Q w' s'):
 wpAny (model X.prog X.w) A (call (.builtin "dict.get") [.ref a,u]) Q E s:=by(
rcases g with⟨kvs,k,e,ey,l⟩|⟨kvs,k,b,e,ey,eb,l⟩
·subst ey;obtain⟨z,hd,vs,rel,dd⟩:=q2D I.hok e;refine c8 wI dd.typeIs c9 (cV _ _) (meets_dict_get (qX X.prog X.w) a (q3N ry) hd) ⟨_,dd.mapOf,h _ _ (I.tok _) ?_⟩;rw[l];exact(rel.val k).getD rfl
subst ey
cases(show u=Value.ref b from ry)
obtain⟨z,hd,xs,rel,dd⟩:=q4Q I.hok e
refine c8 wI dd.typeIs c9 (cV _ _) (meetsH_dict_get (tupleKind (qX X.prog X.w)) a b hd) ⟨d8 hu,k,xs,q33 I.hok eb,dd,h _ _ (I.tok _) ?_⟩
rw[l]
exact(rel.val k).getD rfl)
end
noncomputable def qFF(td ty:TE):TE:=λσ H Q=>td σ H λx H1=>∃a,x=.ref a∧IsD H1 a∧ty σ H1 λy H2=>∃o,DGet H2 a y o∧Q (o.getD .non) H2
noncomputable def qFG(td ty:TE):TE:=λσ H Q=>td σ H λx H1=>∃a,x=.ref a∧IsD H1 a∧ty σ H1 λy H2=>∃kvs k v,H2 a=some (.dK kvs)∧y=kV k∧valV kvs k=some v∧Q v (upd H2 a (.dK (q4P kvs k)))
section
variable{X:Cx}{o e f:Expr}{apos cpos:Pos}{td ty tx:TE}
theorem qBW(hu:X.A.units+1<cLine)(ho:PE X o td)(he:PE X e ty)(m:M1 X o "get" apos e cpos):PE X (.Call (.Attribute o "get" apos) [e] [] cpos) (qFF td ty):=by(
intro pins s σ H Q I h
refine sU m.base m.few m.line r9 wI PySem.F.type_dict_get (thn (ho pins s σ H _ I h) λu s1 hZ=>?_)
obtain⟨x,H1,I1,rx,a,ex,d,q1⟩:=hZ
subst ex
obtain rfl:u=Value.ref a:=rx
obtain⟨t1,t2,_⟩:=qBV I1 d
refine⟨t1,t2,?_⟩
rw[m.trees]
refine d7 rfl (wP (cE (thn (he pins s1 σ H1 _ I1 q1) λiv s2 ⟨y,H2,I2,ry,ov,g,q2⟩=>cM ?_)))
exact qFE hu I2 g ry λw' s3 I3 rw'=>⟨_,H2,I3,rw',q2⟩)
theorem qBX(ho:PE X o td)(he:PE X e ty)(m:M1 X o "pop" apos e cpos):PE X (.Call (.Attribute o "pop" apos) [e] [] cpos) (qFG td ty):=by(
intro pins s σ H Q I h
refine sU m.base m.few m.line r9 pI PySem.F.type_dict_pop (thn (ho pins s σ H _ I h) λu s1 hZ=>?_)
obtain⟨x,H1,I1,rx,a,ex,d,q1⟩:=hZ
subst ex
obtain rfl:u=Value.ref a:=rx
obtain⟨t1,t2,_⟩:=qBV I1 d
refine⟨t1,t2,?_⟩
rw[m.trees]
refine d7 rfl (wP (cE (thn (he pins s1 σ H1 _ I1 q1) λiv s2 ⟨y,H2,I2,ry,kvs,k,v,ea,ey,l,q2⟩=>cM ?_)))
subst ey
exact qH9 I2 ea ry l (.inl rfl) λw' s3 I3 rw'=>⟨v,_,I3,rw',q2⟩)
end
end L2
namespace Att
open PySem PySem.W PySem.Calls PyProof.Rows
theorem q3V{P:Params}{h:Heap}:∀(ns:List Int) (vs:List Value),WellAll P h vs (ns.map WData.int)→IntsAre vs ns:=by(
intro ns
induction ns with
|nil=>intro vs w;rw[c7]at w;cases w;exact .nil
|cons n ns ih=>
 intro vs w;rw[mM]at w;cases w with
 |cons a b=>cases a;exact .cons _ _ (ih _ b))
theorem qAQ{l:OpenLaw}{n:Nat}(hn:l.most=some n){P:Params}{h:Heap}{args:List WData}{vals:List Value}
 (hpre:l.row.toRowW.claim.pre args=true) (hwl:WellAll P h vals args):
 ∃a vs ns,vals=[Value.ref a]∧args=[WData.list (ns.map WData.int)]∧h.get? a=some { cls:=.type "list",data:=.seq vs.toArray }∧IntsAre vs ns∧ns.length≤n:=by(
have hsh:WShape.hasAll [] args [.list .int]=true:=(pre_splitW hpre).1
have hc:l.pre.holds [] { args:=args } =true:=(pre_splitW hpre).2
obtain⟨d,r,rfl,h1,h2⟩:=hasAllW_cons hsh
obtain rfl:=hasAllW_nil h2
obtain⟨xs,rfl,h3⟩:=hasW_list h1
obtain⟨ns,rfl⟩:=items_int h3
have hlen:ns.length≤n:=by
 unfold OpenLaw.pre at hc;have h4:(WTm.not (.lt (.lit (.int (n:Int))) (.len (.arg 0)))).holds [] { args:=[.list (ns.map .int)] } =true:=by have h4:=(holds_andW hc).1;rw[hn]at h4;exact h4
 have h5:=condW_of h4 (w_not (w_lt w_lit (w_len_list (w_arg rfl))));rw[hV]at h5;refine Nat.le_of_not_lt λq=>?_;have q':(n:Int)<((ns.length:Nat):Int):=by lia
 first
  |(rw[hI q']at h5;exact absurd h5 (by decide))
  |(simp at h5;lia)
cases hwl with
|cons w1 w2=>
 cases w2;cases w1 with
 |list ho hall=>exact⟨_,_,ns,rfl,rfl,ho,q3V ns _ hall,hlen⟩)
theorem qAR(l:OpenLaw)(args:List WData):l.row.toRowW.claim.post args (.bool true) args=true:=postW_of (r:=l.row.toRowW) (X:=(true==true))
  (show WShape.has [] (.bool true) .bool=true by first|rfl|decide|simp[WShape.has,WShape.arms,WShape.armsAll])
  (show(WTm.eq .res (.lit (.bool true))).value [] { args:=args,res:=some (.bool true),after:=args } =some (.bool (true==true))from w_eq_bool (w_res rfl) w_lit) rfl
theorem attach_call{l:OpenLaw}{n:Nat}{q:Program}{loose:List Str}{XP:(Str→Option Value)→Heap→Prop}{YP:World→Heap→Prop}{d:DefRec}
 (hn:l.most=some n) (hdf:d.params.defaults=[])
 (call:∀(w:World) (s₀ s₁:Shared) (mg mb:Str→Option Value) (fa:Addr) (o:Obj) (pm cd doc:Value) (a:Addr) (vs:List Value) (ns:List Int),Ground q loose [] XP w s₀ mg mb s₁.heap→YP w s₁.heap→s₁.heap.get? fa=some o→o.data=.func (docDef d.name d.params d.body d.scope pm cd doc)→s₁.heap.CodeRec cd d.name→mg d.name=some (.ref fa)→s₁.heap.get? a=some { cls:=.type "list",data:=.seq vs.toArray }→IntsAre vs ns→ns.length≤n→s₁.gens=#[]→codeAny (model l.prog w) callerA (.call (.ref fa) ⟨[.ref a],[]⟩) (λr s'=>r=.ok (.ret (.bool true))∧OldK s₁.heap s'.heap∧s'.os=s₁.os∧AllBare s'.gens) s₁):
 WalkO q loose XP YP l.row.toRowW d [] (λf vs=>PySem.call f vs):=by(
intro w s₀ s₁ mg mb G Y fa o pm cd doc dV kV ho hd hcd hD hmg hg args vals as hpre hlay hrd hwl hlo
obtain rfl:dV=.none:=Dflts.none hD hdf
obtain rfl:kV=.none:=Dflts.noKw hD
obtain⟨a,vs,ns,rfl,rfl,hobj,hints,hlen⟩:=qAQ hn hpre hwl
refine enter_call (dU (call w s₀ s₁ mg mb fa o pm cd doc a vs ns G Y ho (fd_plain hd) hcd hmg hobj hints hlen hg) λr s' hq=>?_)
obtain⟨rfl,h2,h3,h4⟩:=hq
exact⟨.inl ⟨.bool true,.bool true,[],rfl,λ_=>rfl,.bool true,qAR l _,λ_=>⟨List.Pairwise.nil,λ_ hm=>(nomatch hm)⟩⟩,h2,h3,h4⟩)
end Att
namespace L2
open PySem PySem.Spec PyProof.Rows
theorem q6I:∀{vs:List Value} {ns:List Int},IntsAre vs ns→Vals (ns.map V.int) vs
|_,_,.nil=>.nil
|_,_,.cons n t h=>.cons ⟨t,rfl⟩ (q6I h)
noncomputable def qQ(s:Stmt)(j:Nat):Stmt:=match s with
| .ClassDef _ _ _ body _ _ _ _ _ _ _=>body.getD j (.Pass ⟨0,0,0,0⟩)
|_=>.Pass ⟨0,0,0,0⟩
noncomputable def yH(s:Stmt):Arguments:=match s with
| .FunctionDef _ a _ _ _ _ _ _ _ _=>a
|_=>{ posonlyargs:=[],args:=[],vararg:=none,kwonlyargs:=[],kw_defaults:=[],kwarg:=none,defaults:=[] }
noncomputable def jY(s:Stmt):List Stmt:=match s with
| .FunctionDef _ _ b _ _ _ _ _ _ _=>b
|_=>[]
noncomputable def qG(s:Stmt):Scope:=match s with
| .FunctionDef _ _ _ _ _ _ sc _ _ _=>sc
|_=>{ kind:=.function,names:=[],isGenerator:=false,isCoroutine:=false }
noncomputable abbrev CX0:CXT:=λ_ _ _ _ _ _=>False
noncomputable abbrev E0:XK:=λ_ _ _=>False
theorem qK{X:Cx}:zC CX0 X E0:=λ_ _ _ _ _ _ _ h=>h.elim
theorem uT{A:Around}{k:Nat}(hr:Room k A):A.units+1<cLine:=cG (Nat.add_le_add_left (by decide:1≤64) _) hr.units
section
variable{X:Cx}
theorem pv(i:Nat){x:Str}{pos:Pos}(hN:X.N[i]?=some x:=by rfl)(hv:Vis X.env.scope x:=by first|exact Or.inl rfl|exact Or.inr (Or.inl rfl)|exact Or.inr (Or.inr rfl))(hd:(x==("__debug__":Str))=false:=by decide)
 (hcd:(x==("__classdict__":Str))=false:=by decide):PE X (.Name x pos) (tVar i):=qF1 hN hv hd hcd
end
theorem iteF{A B:Prop}(h:B):if false=true then A else B:=by rw[kI kL];exact h
theorem iteT{A B:Prop}(h:A):if true=true then A else B:=by rw[kJ rfl];exact h
noncomputable def Same(H H':Hp):Prop:=∀b o,H b=some o→H' b=some o
theorem Same.refl(H:Hp):Same H H:=λ_ _ h=>h
theorem Same.trans{H H1 H2:Hp}(a:Same H H1)(b:Same H1 H2):Same H H2:=λc o h=>b c o (a c o h)
theorem Same.free{H H':Hp}(e:Same H H'){l:Addr}(h:H' l=Option.none):H l=Option.none:=by(
cases q:H l with
|none=>rfl
|some o=>rw[e l o q]at h;cases h)
theorem Same.seq{K:PySem.W.Frag}{H H':Hp}{a:Addr}{xs:List V}(e:Same H H')(h:SqL K H a xs):SqL K H' a xs:=by(
rcases h with(h|⟨o,h⟩)|h
·exact .inl (.inl (e _ _ h))
·exact .inl (.inr ⟨o,e _ _ h⟩)
exact .inr h)
section
variable{X:Cx}
theorem q35:v8 X (.builtin "len") (λxs H Q=>∃a kvs,xs=[V.ref a]∧H a=some (.dK kvs)∧Q (.int kvs.length) H):=by(
intro pins s σ H xs us Q I r h
obtain⟨a,kvs,rfl,ha,q⟩:=h
obtain⟨u,rfl,ru⟩:=vU r
cases ru
exact qHA I (.inl ha) λt s' I'=>⟨.int kvs.length,H,I',⟨t,rfl⟩,q⟩)
end
section
variable{X:Cx}
theorem q2E:PGet X (rIxL X.K):=by(
intro pins s σ H o i ov iv Q I ro ri h
obtain⟨p,xs,k,z,rfl,rfl,hq,he,q⟩:=h
cases ro
obtain⟨t,rfl⟩:=ri
obtain⟨its,r,pl,hz⟩:=I.list hq
obtain⟨j,h1,h2,h3,h4,h5⟩:=q47 he
obtain⟨w,ew,rw'⟩:=r.get h2
have hl:=r.length
have hn:=q1W
have fin:EP X pins σ Q w s:=⟨z,H,I,rw',q⟩
by_cases h0:0≤k
·have hj:k.toNat=j:=by rw[pN h0 h5]at h1;exact kP h1
 exact wpAny_getItem_list pl.isList h0 (by lia) (by rw[hj];simpa using ew) fin
have hj:(k+(its.toArray.size:Int)).toNat=j:=by rw[cZ (by lia) h4]at h1;rw[kQ,←hl];exact kP h1
exact c6 pl.isList (by lia) (by rw[kQ]<;>lia) (by lia) (by rw[hj];simpa using ew) fin)
end
noncomputable def isW:V→Bool
| .int _=>true
|_=>false
noncomputable def isI:V→Bool
| .int _=>true
| .bl _=>true
|_=>false
noncomputable def isB:V→Bool
| .bl _=>true
|_=>false
noncomputable def isS:V→Bool
| .str _=>true
|_=>false
inductive Knd(H:Hp):V→Prop where
|non:Knd H .non
|bl (b:Bool):Knd H (.bl b)
|int (i:Int):Knd H (.int i)
|str (x:Str):Knd H (.str x)
|lst {a:Addr} {xs:List V} (e:H a=some (.lst xs)):Knd H (.ref a)
|tup {a:Addr} {xs:List V} (e:H a=some (.tup xs)):Knd H (.ref a)
theorem Knd.same{H H':Hp}{x:V}(k:Knd H x)(s:Same H H'):Knd H' x:=by(
cases k with
|non=>exact .non
|bl b=>exact .bl b
|int i=>exact .int i
|str x=>exact .str x
|lst e=>exact .lst (s _ _ e)
|tup e=>exact .tup (s _ _ e))
section
variable{K:PySem.W.Frag}{H:Hp}{x:V}
theorem qFH:PySem.W.kitOne K (.type "NoneType") (.type "int")=some false:=by kernel_rfl
theorem qFI:PySem.W.kitOne K (.type "bool") (.type "int")=some true:=by kernel_rfl
theorem qFJ:PySem.W.kitOne K (.type "int") (.type "int")=some true:=by kernel_rfl
theorem qFK:PySem.W.kitOne K (.type "str") (.type "int")=some false:=by kernel_rfl
theorem qFL:PySem.W.kitOne K (.type "list") (.type "int")=some false:=by kernel_rfl
theorem qFM:PySem.W.kitOne K (.type "tuple") (.type "int")=some false:=by kernel_rfl
theorem qFN:PySem.W.kitOne K (.type "NoneType") (.type "bool")=some false:=by kernel_rfl
theorem qFO:PySem.W.kitOne K (.type "bool") (.type "bool")=some true:=by kernel_rfl
theorem qFP:PySem.W.kitOne K (.type "int") (.type "bool")=some false:=by kernel_rfl
theorem qFQ:PySem.W.kitOne K (.type "str") (.type "bool")=some false:=by kernel_rfl
theorem qFR:PySem.W.kitOne K (.type "list") (.type "bool")=some false:=by kernel_rfl
theorem qFS:PySem.W.kitOne K (.type "tuple") (.type "bool")=some false:=by kernel_rfl
theorem qFT:PySem.W.kitOne K (.type "NoneType") (.type "str")=some false:=by kernel_rfl
theorem qFU:PySem.W.kitOne K (.type "bool") (.type "str")=some false:=by kernel_rfl
theorem qFV:PySem.W.kitOne K (.type "int") (.type "str")=some false:=by kernel_rfl
theorem qFW:PySem.W.kitOne K (.type "str") (.type "str")=some true:=by kernel_rfl
theorem qFX:PySem.W.kitOne K (.type "list") (.type "str")=some false:=by kernel_rfl
theorem qFY:PySem.W.kitOne K (.type "tuple") (.type "str")=some false:=by kernel_rfl
theorem qFZ:PySem.W.kitOne K (.type "tuple") (.type "tuple")=some true:=by kernel_rfl
theorem qBY:PySem.W.kitOne K (.type "list") (.type "list")=some true:=by kernel_rfl
theorem Knd.ty(k:Knd H x):∃t,TyOf K H x t∧PySem.W.kitOne K t (.type "int")=some (isI x)∧PySem.W.kitOne K t (.type "bool")=some (isB x)∧PySem.W.kitOne K t (.type "str")=some (isS x):=by(
cases k with
|non=>exact⟨_,.non,qFH,qFN,qFT⟩
|bl b=>exact⟨_,.bl b,qFI,qFO,qFU⟩
|int i=>exact⟨_,.int i,qFJ,qFP,qFV⟩
|str y=>exact⟨_,.str y,qFK,qFQ,qFW⟩
|lst e=>exact⟨_,.lst e,qFL,qFR,qFX⟩
|tup e=>exact⟨_,.tup e,qFM,qFS,qFY⟩)
theorem qBZ(x:V):(if isI x=true then !isB x else false)=isW x:=by cases x<;>rfl
end
noncomputable def yK(ns:List Int)(k:Int):Int:=ns.getD k.toNat 0
theorem qAS{ns:List Int}{k:Int}(h0:0≤k)(h:k<ns.length):atI (ns.map V.int) k=some (.int (yK ns k)):=by(
obtain⟨j,rfl⟩:=gP h0
refine uE ?_
have hj:j<ns.length:=by lia
unfold yK
simp[hj])
theorem q95{ns:List Int}{k:Int}(h0:0≤k)(h:¬k<ns.length):yK ns k=0:=by unfold yK;rw[kO,dL (by lia)];rfl
theorem Same.upd{H:Hp}{p:Addr}{o:HO}(h:H p=none):Same H (upd H p o):=λb u e=>by rw[qC (qF e h)];exact e
noncomputable abbrev NewO(H:Hp)(o:HO)(Q:VK):Prop:=∀p H',H p=none→Same H H'→H' p=some o→Q (.ref p) H'
theorem NewO.at{H:Hp}{o:HO}{Q:VK}(q:NewO H o Q)(p:Addr)(n:H p=none):Q (.ref p) (upd H p o):=q p _ n (Same.upd n) qH
section
variable{X:Cx}{e:Expr}{es:List Expr}{t:TA}{pos:Pos}
noncomputable def qHF(t:TA):TE:=λσ H Q=>t σ H λxs H1=>xs.length≤sizeLine∧NewO H1 (.tup xs) Q
noncomputable def qHG(t:TA):TE:=λσ H Q=>t σ H λxs H1=>xs.length≤sizeLine∧NewO H1 (.lst xs) Q
theorem vV{x1}(h:PA X es t):PE X (.Tuple es x1 pos) (qHF t):=by(
intro pins s σ H Q I hq
refine wpAny_Tuple_spliced (thn (h pos pins s σ H _ I hq) λus s1 ⟨xs,H1,I1,r,z,q⟩=>⟨by rw[←r.length];exact z,?_⟩)
have hf:H1 s1.heap.objs.size=none:=I1.hok.fresh (kH _)
refine⟨.ref s1.heap.objs.size,upd H1 s1.heap.objs.size (.tup xs),I1.laid (t':=s1.toks) (λb u e=>hU _ e) (kH _) ?_,rfl,q.at _ hf⟩
exact⟨z,us,r,⟨_,kY _ rfl,rfl,_,rfl⟩⟩)
theorem yB(h:PA X es t):PE X (.List es pos) (qHG t):=by(
intro pins s σ H Q I hq
refine wpAny_List_spliced (thn (h pos pins s σ H _ I hq) λus s1 ⟨xs,H1,I1,r,z,q⟩=>⟨by rw[←r.length];exact z,?_⟩)
have hf:H1 s1.heap.objs.size=none:=I1.hok.fresh (kH _)
refine⟨.ref s1.heap.objs.size,upd H1 s1.heap.objs.size (.lst xs),I1.laid (t':=s1.toks) (λb u e=>hU _ e) (kH _) ?_,rfl,q.at _ hf⟩
exact⟨z,us,0,r,kY _ rfl⟩)
noncomputable def qHH:R2:=λx y H Q=>∃l k v,x=.ref l∧y=.int k∧H l=some (.lst [v])∧0≤k∧k≤100000∧NewO H (.lst (List.replicate k.toNat v)) Q
theorem q84{α:Type}(v:α):∀k:Nat,(List.replicate k [v]).flatten=List.replicate k v
|0=>rfl
|k+1=>by rw[gU,rJ,q84 v k,gU];rfl
theorem zV:OpR X (binaryOp .Mult) qHH:=by(
intro pins s σ H x y v u Q I rx ry hZ
obtain⟨l,k,z,e1,e2,h1,h2,h3,q⟩:=hZ
refine qFC pins s σ H x y v u Q I rx ry ⟨l,k,[z],e1,e2,h1,by lia,by lia,?_,?_⟩
·rw[gK,wH];lia
rw[q84]
exact q.at)
theorem q5K:v8 X (.type "list") (λxs H Q=>∃p ys,xs=[.ref p]∧(SqL X.K H p ys∨SqT X.K H p ys)∧NewO H (.lst ys) Q):=by intro pins s σ H xs us Q I r hZ;obtain⟨p,ys,e,h,q⟩:=hZ;exact q6Z pins s σ H xs us Q I r ⟨p,ys,e,h,q.at⟩
end
noncomputable def q9Y:Sp:=λvs H Q _=>∃x,vs=[x]∧Knd H x∧Q (.bl (isW x)) H
noncomputable def inB(x:V)(lo hi:Int):Bool:=match x with
| .int i=>decide (lo≤i)&&decide (i≤hi)
|_=>false
noncomputable def qC0:Sp:=λvs H Q _=>∃x lo hi,vs=[x,.int lo,.int hi]∧Knd H x∧Q (.bl (inB x lo hi)) H
noncomputable def qG0(K:PySem.W.Frag):Sp:=λvs H Q _=>∃a ns k,vs=[.ref a,.int k]∧SqL K H a (ns.map V.int)∧0≤k∧Q (.int (yK ns k)) H
end L2
namespace L2
open PySem
theorem lt2{vs:Array Value}{v:Value}(h:vs[2]?=some v):1<vs.size:=Nat.lt_of_succ_lt (rM.mp h).1
noncomputable def ExO(h:Heap)(e:Addr)(C:Value)(od:Option Addr)(vs:Array Value):Prop:=∃oe,h.get? e=some oe∧oe.cls=C∧oe.dict=od∧oe.data=.fields vs∧vs[2]?=some .none
noncomputable def TrO(h:Heap)(e T:Addr)(vs:Array Value)(f:Value):Prop:=vs[1]?=some (.ref T)∧T≠e∧∃oT ts,h.get? T=some oT∧oT.data=.fields ts∧ts[3]?=some f
noncomputable def Air(L:Addr)(h:Heap)(e:Addr)(C:Value)(od:Option Addr):Option Addr→Prop
|none=>∃vs,ExO h e C od vs∧vs[1]?=some .none
|some T=>∃vs f,ExO h e C od vs∧TrO h e T vs f∧(f=.none∨f=rawInt L)
noncomputable def Held(f:Value)(h:Heap)(e T:Addr)(C:Value)(od:Option Addr):Prop:=∃vs,ExO h e C od vs∧TrO h e T vs f
structure Chg(fr rs:List Addr)(h h':Heap):Prop where
keep:∀b o,b∉fr→b∉rs→h.get? b=some o→h'.get? b=some o
slot:∀b o,b∉rs→h.get? b=some o→∃sl,h'.get? b=some { o with slots:=sl }
there:∀b o,h.get? b=some o→∃o',h'.get? b=some o'
theorem Chg.refl{fr rs:List Addr}{h:Heap}:Chg fr rs h h:=⟨λ_ _ _ _ e=>e,λ_ o _ e=>⟨o.slots,e⟩,λ_ o e=>⟨o,e⟩⟩
theorem Chg.trans{fr rs:List Addr}{h h1 h2:Heap}(x:Chg fr rs h h1)(y:Chg fr rs h1 h2):Chg fr rs h h2:=⟨λb o f r e=>y.keep b o f r (x.keep b o f r e),λb o r e=>let⟨_,e1⟩:=x.slot b o r e;let⟨sl,e2⟩:=y.slot b _ r e1;⟨sl,e2⟩,λb o e=>let⟨_,e1⟩:=x.there b o e;y.there b _ e1⟩
theorem Chg.fresh{fr rs rs':List Addr}{h h1 h2:Heap}(x:Chg fr rs h h1)(y:Chg fr rs' h1 h2)(n:∀b∈rs',b∈rs∨h.get? b=none):Chg fr rs h h2:=by
 have m:∀b o,b∉rs→h.get? b=some o→b∉rs':=λb o r e z=>(n b z).elim r λq=>by rw[q]at e;cases e
 exact⟨λb o f r e=>y.keep b o f (m b o r e) (x.keep b o f r e),λb o r e=>let⟨_,e1⟩:=x.slot b o r e;let⟨sl,e2⟩:=y.slot b _ (m b o r e) e1;⟨sl,e2⟩,λb o e=>let⟨_,e1⟩:=x.there b o e;y.there b _ e1⟩
theorem Chg.slots{fr rs:List Addr}{h h':Heap}(x:Heap.SlotsOnly fr h h'):Chg fr rs h h':=⟨λb o f _ e=>(x.2.1 b f).trans e,λb o _ e=>x.2.2 b o e,λb o e=>let⟨sl,q⟩:=x.2.2 b o e;⟨_,q⟩⟩
theorem Chg.upd{fr rs:List Addr}{h:Heap}{a:Addr}{f:Obj→Obj}(ha:a∈rs)(hf:∀o,h.get? a=some o→(f o).isFreed=false):Chg fr rs h (h.update a f):=by(
have k:∀b o,b∉rs→h.get? b=some o→(h.update a f).get? b=some o:=λb o r e=>by exact(mG h f (λ(q:a=b)=>r (q▸ha))).trans e
refine⟨λb o _ r e=>k b o r e,λb o r e=>⟨o.slots,k b o r e⟩,λb o e=>?_⟩
by_cases q:b=a
·subst q;exact⟨_,rH f e (hf o e)⟩
exact⟨o,by rw[mG h f (dD q)];exact e⟩)
theorem Chg.push{fr rs:List Addr}{h:Heap}{o:Obj}:Chg fr rs h (h.push o):=⟨λb u _ _ e=>hU _ e,λb u _ e=>⟨u.slots,hU _ e⟩,λb u e=>⟨u,hU _ e⟩⟩
theorem qAT(o:Obj)(f:Array Value→Array Value):(o.mapFields f).dict=o.dict:=by obtain⟨c,d,dt,sl⟩:=o;cases dt<;>rfl
theorem ExO.set{h:Heap}{e:Addr}{C:Value}{od:Option Addr}{vs:Array Value}(x:ExO h e C od vs)(i:Nat)(v:Value)(hi:i≠2:=by decide):ExO (h.update e (Obj.mapFields (·.setIfInBounds i v))) e C od (vs.setIfInBounds i v):=by obtain⟨oe,h1,h2,h3,h4,h5⟩:=x;have hd:=rY h4 (·.setIfInBounds i v);exact⟨_,rH _ h1 (dO hd),(Obj.cls_mapFields _ _).trans h2,(qAT _ _).trans h3,hd,(Array.getElem?_setIfInBounds_ne hi).trans h5⟩
theorem ExO.of{h h':Heap}{e:Addr}{C:Value}{od:Option Addr}{vs:Array Value}(x:ExO h e C od vs)(k:∀o,h.get? e=some o→h'.get? e=some o):ExO h' e C od vs:=let⟨oe,h1,r⟩:=x;⟨oe,k _ h1,r⟩
section
variable{M:Model}{A:Around}{E:Value→Shared→Prop}{s:Shared}{env:Env}{outer:List Env}{L e T:Addr}{C:Value}{od:Option Addr}{base:Heap}
theorem ExO.nofr{h:Heap}{l:List Env}{vs:Array Value}(x:ExO h e C od vs)(hl:h.FunFrames base l):e∉l.filterMap (·.frame):=λhm=>by(
obtain⟨_,o,ho,hn⟩:=hl.mem hm
obtain⟨oe,h1,_,_,h4,_⟩:=x
rw[h1]at ho
cases ho
exact hn _ h4)
theorem q85{head:Value}{hn:Bool}{vs:Array Value}{Q:Unit→Shared→Prop}(hfr:A.frames=some (env::outer))(hl:s.heap.FunFrames base (env::outer))(hf:env.frame=some L)(x:ExO s.heap e C od vs)
 (q:∀h' T,Chg ((env::outer).filterMap (·.frame)) [e] s.heap h'→Held (rawInt L) h' e T C od→s.heap.objs.size≤T→Q () { s with heap:=h' }):
 wpAny M A (do let a←frameOf env;let pl←entryPlaceOf L hn;let b←EntryCells.newEntry head a .none (rawInt L) .none pl;setField (.ref e) 1 b) Q E s:=by(
have ne:=x.nofr hl
refine kG (wpAny_frameOf_fun hfr hl hf λh1 so=>kG (wpAny_entryPlaceOf λpl hp=>?_))
unfold EntryCells.newEntry newFields
refine kG (sV ?_ (hp.sizeOk5 _ _ _ _ _))
have x1:ExO h1 e C od vs:=x.of λo z=>(so.2.1 e ne).trans z
have x2:=x1.of (h':=h1.push _) λo z=>hU { cls:=.type "traceback",dict:=none,data:=.fields ([head,.ref L,.none,rawInt L,.none]++(if pl.isEmpty then List.replicate 6 Value.none else pl)).toArray } z
obtain⟨oe,a1,a2,a3,a4,a5⟩:=id x2
refine pO a1 a4 (lt2 a5) ?_
have hlt:e<h1.objs.size:=let⟨_,z,_⟩:=x1;kM z
have fresh:s.heap.objs.size≤h1.objs.size:=cA so.1.symm
refine q _ h1.objs.size (((Chg.slots so).trans Chg.push).trans (Chg.upd (kC.mpr rfl) λo z=>?_)) ⟨_,x2.set 1 _,?_,d0 hlt,{ cls:=.type "traceback",dict:=none,data:=.fields ([head,.ref L,.none,rawInt L,.none]++(if pl.isEmpty then List.replicate 6 Value.none else pl)).toArray },_,?_,rfl,?_⟩ fresh
·rw[a1]at z;cases z;exact dO (rY a4 _)
·simp[lt2 a5]
·rw[mG _ _ (mF hlt)];exact kY h1 rfl
first|(simp;done)|(rcases hp with rfl|⟨_,_,_,_,_,_,_,rfl⟩<;>simp))
theorem q9Z{tr:Option Addr}{Q:Unit→Shared→Prop}(hfr:A.frames=some (env::outer))(hl:s.heap.FunFrames base (env::outer))(hf:env.frame=some L)(x:Air L s.heap e C od tr)
 (q:∀h' T,Chg ((env::outer).filterMap (·.frame)) (e::tr.toList) s.heap h'→Held (rawInt L) h' e T C od→(T∈tr∨s.heap.objs.size≤T)→Q () { s with heap:=h' }):
 wpAny M A (noteFrame (.ref e) env) Q E s:=by(
unfold noteFrame
simp only[hf]
cases tr with
|none=>obtain⟨vs,x,h1⟩:=x;obtain⟨oe,a1,a2,a3,a4,a5⟩:=id x;refine kG (cO a1 a4 h1 ?_);rw[kI (by decide)];exact q85 hfr hl hf x λh' T c hd n=>q h' T c hd (.inr n)
|some T=>
 obtain⟨vs,f,x,⟨t1,t2,oT,ts,t3,t4,t5⟩,hfl⟩:=x;obtain⟨oe,a1,a2,a3,a4,a5⟩:=id x;refine kG (cO a1 a4 t1 ?_);rw[kJ (by simp)];refine kG (cO t3 t4 t5 ?_);rcases hfl with rfl|rfl
 ·rw[kI (by simp[rawInt])];refine kG (pO t3 t4 (rM.mp t5).1 ?_);have k:∀b o,b≠T→s.heap.get? b=some o→(s.heap.update T (Obj.mapFields (·.setIfInBounds 3 Value.none))).get? b=some o:=λb o n z=>(mG _ _ (dD n)).trans z;have hl2:(s.heap.update T (Obj.mapFields (·.setIfInBounds 3 Value.none))).FunFrames base (env::outer):=hl.of_keeps λb o z nf=>⟨o,k b o (λw=>by subst w;rw[t3]at z;cases z;exact nf _ t4) z,rfl⟩;refine q85 (s:={ s with heap:=s.heap.update T (Obj.mapFields (·.setIfInBounds 3 Value.none)) }) hfr hl2 hf (x.of λo z=>k e o (dD t2) z) λh' T' c hd n=>q h' T' ?_ hd ?_
  ·refine(Chg.upd (a:=T) (by simp) λo z=>?_).fresh c λb hb=>.inl ?_
   ·rw[t3]at z;cases z;exact dO (rY t4 _)
   rw[kC.mp hb];exact kU
  exact .inr (mI (cA (Heap.size_after_update ..).symm) n)
 rw[kJ (by simp)];exact kX (q _ T .refl ⟨vs,x,t1,t2,oT,ts,t3,t4,t5⟩ (.inl rfl)))
theorem zR{f:Value}{fr:Option Addr}{Q:Unit→Shared→Prop}(x:Held f s.heap e T C od)
 (q:∀h',Chg [] [T] s.heap h'→Held (fr.elim .none λf=>rawInt f) h' e T C od→Q () { s with heap:=h' }):wpAny M A (setFlight (.ref e) fr) Q E s:=by(
obtain⟨vs,x,t1,t2,oT,ts,t3,t4,t5⟩:=x
obtain⟨oe,a1,a2,a3,a4,a5⟩:=id x
have hz:=(rM.mp t5).1
unfold setFlight
refine kG (cO a1 a4 t1 ?_)
rw[kJ (by simp)]
have hd:=rY t4 (·.setIfInBounds 3 (fr.elim .none λf=>rawInt f))
refine pO t3 t4 hz (q _ (Chg.upd (by simp) λo z=>?_) ⟨vs,x.of λo z=>?_,t1,t2,_,_,rH _ t3 (dO hd),hd,by simp[hz]⟩)
·rw[t3]at z;cases z;exact dO hd
exact(mG _ _ t2).trans z)
theorem Held.air{f:Value}{h:Heap}(x:Held f h e T C od)(hf:f=.none∨f=rawInt L):Air L h e C od (some T):=let⟨vs,a,b⟩:=x;⟨vs,f,a,b,hf⟩
theorem qC1{tr:Option Addr}{Q:Unit→Shared→Prop}(hfr:A.frames=some (env::outer))(hl:s.heap.FunFrames base (env::outer))(hf:env.frame=some L)(x:Air L s.heap e C od tr)
 (q:∀h' T,Chg ((env::outer).filterMap (·.frame)) (e::tr.toList) s.heap h'→Held .none h' e T C od→(T∈tr∨s.heap.objs.size≤T)→Q () { s with heap:=h' }):wpAny M A (leaving env (.ref e)) Q E s:=by(
unfold leaving
refine kG (q9Z hfr hl hf x λh' T c hd n=>zR hd λh2 c2 hd2=>q h2 T ?_ hd2 n)
refine c.fresh (rs':=[T]) ⟨λb o _ r z=>c2.keep b o (by simp) r z,c2.slot,c2.there⟩ λb hb=>?_
rw[kC.mp hb]
exact n.imp (λz=>hZ _ (by cases tr with|none=>cases z|some t=>cases z;exact kC.mpr rfl)) wN)
end
end L2
namespace L2
open PySem PySem.Spec PyProof.Rows
section
variable{P:Program}{w:World}{H:Hp}{h h':Heap}{a:Addr}{o:HO}
theorem jP.there(x:jP P w H h a o):∃ob,h.get? a=some ob:=by(
cases o with
|lst xs=>obtain⟨_,_,_,_,e⟩:=x;exact⟨_,e⟩
|tup xs=>obtain⟨_,_,_,_,e,_⟩:=x;exact⟨_,e⟩
|dK kvs=>obtain⟨_,_,_,_,o,_,_,e,_⟩:=x;exact⟨_,e⟩
|dT kvs=>obtain⟨_,_,_,_,o,_,_,e,_⟩:=x;exact⟨_,e⟩
|set S n=>obtain⟨o,_,_,_,e,_⟩:=x;exact⟨_,e⟩
|ins C dx fs=>obtain⟨_,_,_,e,_⟩:=x;exact⟨_,e⟩
|own y=>exact x
|xd fs=>obtain⟨_,⟨_,_,_,e,_⟩,_⟩:=x;exact⟨_,e⟩
|rng lo hi=>obtain⟨_,_,_,e⟩:=x;exact⟨_,e⟩
|frz ob u=>exact⟨_,x.1⟩
|tbl ps=>exact⟨_,show h.get? a=some _ from x⟩
|met f y=>exact⟨_,show h.get? a=some _ from x⟩
|ext φ=>exact x.2.1)
theorem HOk.free(x:HOk P w H h)(e:h.get? a=none):H a=none:=by(
cases q:H a with
|none=>rfl
|some o=>obtain⟨_,z⟩:=(x a o q).there;rw[e]at z;cases z)
theorem HOk.chg{fr rs:List Addr}(x:HOk P w H h)(c:Chg fr rs h h')(hf:∀b∈fr,H b=none)(hr:∀b∈rs,H b=none):HOk P w H h':=by(
intro a o e
refine(x a o e).stay (λb u hb z=>?_) (λ_ q=>q) λ_ _ q=>q
have n:H b≠none:=by
 rcases hb with rfl|q
 ·rw[e];intro y;cases y
 rw[q];intro y;cases y
exact c.keep b u (λm=>n (hf b m)) (λm=>n (hr b m)) z)
end
noncomputable def Recs(h:Heap)(rs:List Addr):Prop:=∀b∈rs,∃o vs,h.get? b=some o∧o.data=.fields vs
theorem Air.recs{L e:Addr}{h:Heap}{C:Value}{od tr:Option Addr}(x:Air L h e C od tr):Recs h (e::tr.toList):=by(
intro b hb
cases tr with
|none=>
 obtain⟨vs,⟨oe,a1,_,_,a4,_⟩,_⟩:=x;have e':b=e:=by simpa using hb
 subst e';exact⟨_,_,a1,a4⟩
|some T=>
 obtain⟨vs,f,⟨oe,a1,_,_,a4,_⟩,⟨_,_,oT,ts,t3,t4,_⟩,_⟩:=x;have e':b=e∨b=T:=by simpa using hb
 rcases e' with rfl|rfl
 ·exact⟨_,_,a1,a4⟩
 exact⟨_,_,t3,t4⟩)
noncomputable def Ours(X:Cx)(pins:List (Addr×Obj))(H:Hp)(rs:List Addr):Prop:=∀b∈rs,(X.s₀.heap.get? b=none∨b∈X.ex)∧H b=none∧∀p∈X.pn++pins,p.1≠b
section
variable{X:Cx}{pins:List (Addr×Obj)}{σ:St}{H:Hp}{s:Shared}{h':Heap}{rs:List Addr}
theorem Inv.chg{t':Nat}(I:Inv X pins σ H s)(c:Chg (frs X.stack) rs s.heap h')(o:Ours X pins H rs)(rc:Recs s.heap rs):Inv X pins σ H { s with heap:=h',toks:=t' }:=by(
obtain⟨m,hn,hv⟩:=I.loc
have nl:X.env.locals∉rs:=λz=>by obtain⟨ob,vs,e,d⟩:=rc _ z;obtain⟨o',es,ep,ho,hd,_⟩:=hn;rw[e]at ho;cases ho;rw[d]at hd;cases hd
have nc:∀c v,s.heap.IsCell c v→c∉rs:=λc v q z=>by obtain⟨ob,vs,e,d⟩:=rc _ z;obtain⟨o',ho,hd⟩:=q;rw[e]at ho;cases ho;rw[d]at hd;cases hd
have cellk:∀c v,s.heap.IsCell c v→h'.IsCell c v:=λa v q=>by have n:=nc a v q;obtain⟨o',ho,hd⟩:=q;obtain⟨sl,z⟩:=c.slot a o' n ho;exact⟨_,z,hd⟩
have old:∀b ob,X.s₀.heap.get? b=some ob→b∉X.ex→b∉rs:=λb ob q ne z=>by
 rcases(o b z).1 with y|y
 ·rw[q]at y;cases y
 exact ne y
have ns':h'.Ns X.env.locals m:=by obtain⟨o',es,ep,ho,r⟩:=hn;obtain⟨sl,z⟩:=c.slot _ o' nl ho;exact⟨_,es,ep,z,r⟩
refine⟨I.ok,I.os,I.bare,⟨λb ob q n nf ne=>?_,λb ob q n hf ne=>?_,I.base.free,λb ob q ne=>?_,I.base.tups,I.base.frzs,I.base.tbls⟩,⟨m,ns',λi x v e1 e2 e3=>?_⟩,λx a e=>?_,I.free,I.freeC,λp hp=>?_,I.hok.chg c I.stkFree λb hb=>(o b hb).2.1,I.len⟩
·refine c.keep b ob (λz=>?_) (old b ob q ne) (I.base.keep b ob q n nf ne);rcases kR.mp (I.stkSub b z)with rfl|y
 ·exact absurd (kM q) (cH.mpr I.ok.above)
 exact nf y
·obtain⟨sl,z⟩:=I.base.slot b ob q n hf ne;obtain⟨sl',z'⟩:=c.slot b _ (old b ob q ne) z;exact⟨sl',z'⟩
·obtain⟨o',z⟩:=I.base.there b ob q ne;exact c.there b o' z
·obtain⟨u,r,lk⟩:=hv i x v e1 e2 e3;refine⟨u,r,lk.imp id λ⟨k,cc,l,q⟩=>⟨k,cc,l,cellk _ _ q⟩⟩
·obtain⟨v,q⟩:=I.cell x a e;exact⟨v,cellk _ _ q⟩
obtain⟨p1,p2,p3,p4,p5⟩:=I.pin p hp
refine⟨c.keep _ _ (λz=>?_) (λz=>(o _ z).2.2 p hp rfl) p1,p2,p3,p4,p5⟩
rcases kR.mp (I.stkSub _ z)with y|y
·exact p3 y
exact p4 y)
end
noncomputable def CXe(P:Program)(w:World):CXT:=λouter H s E e s'=>∃ea T C od H',e=.ref ea∧s'.os=s.os∧AllBare s'.gens∧Un (frs outer) [] H H' s.heap s'.heap∧HOk P w H' s'.heap∧Held .none s'.heap ea T C od∧(s.heap.get? ea=none∧s.heap.get? T=none)∧(H' ea=none∧H' T=none)∧E C od H'
noncomputable def q2F(X:Cx)(ES:St→XK):Prop:=∀(pins:List (Addr×Obj)) (σ:St) (H:Hp) (s:Shared) (ea:Addr) (tr:Option Addr) (C:Value) (od:Option Addr),Inv X pins σ H s→Air X.env.locals s.heap ea C od tr→Ours X pins H (ea::tr.toList)→ES σ C od H→X.xe (.ref ea) s
noncomputable def qDJ(CX:CXT)(X:Cx)(ES:St→XK):Prop:=∀(pins:List (Addr×Obj)) (σ:St) (H:Hp) (s:Shared) (e:Value) (s':Shared),Inv X pins σ H s→CX X.stack H s (ES σ) e s'→X.xe e s'
theorem q2F.passes{X:Cx}{ES:St→XK}(t:q2F X ES):qDJ (CXe X.prog X.w) X ES:=by(
intro pins σ H s e s' I hZ
obtain⟨ea,T,C,od,H',e1,ho,hg,u,hok,hd,⟨f1,f2⟩,⟨g1,g2⟩,q⟩:=hZ
subst e1
refine t pins σ H' s' ea (some T) C od (I.call' ho u hok hg λb hb=>by cases hb) (hd.air (.inl rfl)) (λb hb=>?_) q
have key:∀b,s.heap.get? b=none→H' b=none→(X.s₀.heap.get? b=none∨b∈X.ex)∧H' b=none∧∀p∈X.pn++pins,p.1≠b:=λb f g=>by
 refine⟨?_,g,λp hp z=>?_⟩
 ·by_cases y:b∈X.ex
  ·exact .inr y
  refine .inl ?_;cases z:X.s₀.heap.get? b with
  |none=>rfl
  |some ob=>obtain⟨o',z'⟩:=I.base.there b ob z y;rw[f]at z';cases z'
 have y:=(I.pin p hp).1;rw[z,f]at y;cases y
have e':b=ea∨b=T:=by simpa using hb
rcases e' with rfl|rfl
·exact key _ f1 g1
exact key _ f2 g2)
theorem zS{P:Program}{w:World}{K:PySem.W.Frag}{mg:Str→Option Value}{base:Heap}{N:List Str}{qual:Str}{scope:Scope}{f:Addr}{cd:Value}{A:Around}{outer:List Env}{s:Shared}{H:Hp}{E:XK}:
 q2F (cxOf (CXe P w) P w K mg base N qual scope f cd A outer s H E) (λ_=>E):=by(
intro pins σ H' s' ea tr C od I air ours q
refine qC1 (base:=base) I.ok.frames I.stack rfl air λh' T c hd n=>?_
have I2:=I.chg (t':=s'.toks) c ours air.recs
have out:∀b,s'.heap.objs.size≤b→s.heap.get? b=none:=λb z=>by
 cases y:s.heap.get? b with
 |none=>rfl
 |some ob=>obtain⟨o',y'⟩:=I.base.there b ob y (by intro m;cases m);exact absurd (kM y') (cH.mpr z)
have own:∀b,b∈ea::tr.toList→s.heap.get? b=none∧H' b=none:=λb hb=>⟨(ours b hb).1.elim id (λz=>by cases z),(ours b hb).2.1⟩
have hT:s.heap.get? T=none∧H' T=none:=by
 rcases n with z|z
 ·exact own T (hZ _ (by cases tr with|none=>cases z|some t=>cases z;exact kC.mpr rfl))
 exact⟨out T z,I.hok.fresh z⟩
exact⟨ea,T,C,od,H',rfl,I.os,I.bare,I2.base,I2.hok,hd,⟨(own ea (kU)).1,hT.1⟩,⟨(own ea (kU)).2,hT.2⟩,q⟩)
noncomputable def qG1(C:Addr)(m:Str)(sp:Sp)(dvs:List V)(ES:St→XK)(ta:TE)(t:TA):TE:=λσ H Q=>ta σ H λx H1=>∃a dx fs,x=.ref a∧H1 a=some (.ins C dx fs)∧fs.lookup m=none∧t σ H1 λvs H2=>sp (x::(vs++dvs)) H2 Q (ES σ)
theorem uU{X:Cx}:q2F X (λ_ _ _ _=>False):=λ_ _ _ _ _ _ _ _ _ _ _ h=>h.elim
section
variable{X:Cx}{k:Nat}{f C:Addr}{fd:FuncData}{ps:List Str}{sp:Sp}{dvs:List V}{ds:List Value}{E:XK}{ES:St→XK}{x m:Str}{p pos apos:Pos}{e o:Expr}{es:List Expr}{ta:TE}{t:TA}
theorem qDK{pins:List (Addr×Obj)}{σ:St}{H:Hp}{s:Shared}{Q:VK}{us:List Value}{vs:List V}(F:FnOk X.prog X.w X.K X.mg X.base (CXe X.prog X.w) k f fd ps sp)(hr:Room k X.A)(hb:yC X.K fd ps ds)(hd:Vals dvs ds)(tk:q2F X ES)
 (I:Inv X pins σ H s) (r:Vals vs us) (h:sp (vs++dvs) H Q (ES σ)):wpAny (model X.prog X.w) X.A (call (.ref f) us) (EP X pins σ Q) X.xe s:=by(
have r2:Vals (vs++dvs) (us++ds):=r.append hd
have hl:(us++ds).length=ps.length:=by rw[←r2.length];exact F.len _ _ _ _ h
refine rX (dU (F.run X.A X.stack s H ⟨us,[]⟩ (us++ds) (vs++dvs) Q (ES σ) hr I.env0 (hb s us I.kIn hl) r2 h) λr s' hq=>?_)
cases r with
|error e=>exact tk.passes pins σ H s e s' I hq
|ok fl=>
 cases fl with
 |ret u=>exact I.after hq
 |next=>exact False.elim hq
 |brk=>exact False.elim hq
 |cont=>exact False.elim hq)
theorem vJ{pl:Sem Bool}(tk:q2F X ES)(he:PE X o ta)(c:Cls X.K C)(hm:Meth X.K C m f)(F:FnOk X.prog X.w X.K X.mg X.base (CXe X.prog X.w) k f fd ps sp)(hr:Room k X.A)(hb:yC X.K fd ps ds)(hd:Vals dvs ds)(ha:PA X (e::es) t)
 (hst:starEach (e::es) X.env=(false,eval e X.env)::starEach es X.env:=by rfl) (hpl:(backTo pos (starEach es X.env)).any (·.1)=false:=by rfl)
 (ht:eval (.Call (.Attribute o m apos) (e::es) [] pos) X.env=(do
  let ov←eval o X.env
  standAt apos.atName
  let(f,first)←holding [ov] (getMethod ov m pl)
  callWith pos f first (backTo pos (starEach (e::es) X.env)) (backToKw pos (keywordEach [] X.env))):=by rfl):
 PE X (.Call (.Attribute o m apos) (e::es) [] pos) (qG1 C m sp dvs ES ta t):=by(
intro pins s σ H Q I h
refine wG (pl:=pl) (thn (he pins s σ H _ I h) λu s1 hZ=>?_) ht
obtain⟨x,H1,I1,rx,a,dx,fs,ex,ea,l,q⟩:=hZ
subst ex
obtain rfl:u=Value.ref a:=rx
refine q1Y I1 ea c hm l ?_
refine d6 (first:=[.ref a]) (h₀:=X.base) I.ok.mod.kin hm.kp (thn (ha pos pins s1 σ H1 _ I1 q) λus s2 ⟨vs,H2,I2,r,q2⟩=>⟨I2.kIn,?_⟩) hst hpl
exact qDK (us:=.ref a::us) (vs:=.ref a::vs) F hr hb hd tk I2 (.cons rfl r) q2)
end
structure FunD(K:PySem.W.Frag)(x qual:Str)(st:Stmt)(dV:Value)(f:Addr)(fd:FuncData):Prop where
ex:∃(oc:Value) (od:Option Addr) (kV doc pm:Value) (an:Option Addr) (cdv ct:Value) (osl:Array (Option Value)),fd=PySem.W.fnOf x qual (yH st) (jY st) (qG st) dV kV doc pm an cdv ct∧K.lookup f=some ⟨oc,od,.func fd,osl⟩∧PySem.W.codeIn K cdv qual=true
section
variable{P:Program}{w:World}{K:PySem.W.Frag}{mg:Str→Option Value}{base:Heap}{dV:Value}
theorem FunD.mk'{x qual:Str}{st:Stmt}{f:Addr}{oc:Value}{od an:Option Addr}{osl:Array (Option Value)}{kV doc pm cdv ct:Value}(l:K.lookup f=some ⟨oc,od,.func (PySem.W.fnOf x qual (yH st) (jY st) (qG st) dV kV doc pm an cdv ct),osl⟩)
 (c:PySem.W.codeIn K cdv qual=true):FunD K x qual st dV f (PySem.W.fnOf x qual (yH st) (jY st) (qG st) dV kV doc pm an cdv ct):=⟨⟨oc,od,kV,doc,pm,an,cdv,ct,osl,rfl,l,c⟩⟩
theorem FunD.okE{x qual:Str}{st:Stmt}{f:Addr}{fd:FuncData}{N ps:List Str}{k:Nat}{sp:Sp}(F:FunD K x qual st dV f fd)(S:FnScope N ps (qG st))(len:∀vs H Q E,sp vs H Q E→vs.length=ps.length)
 (hbody:∀(cdv:Value) (A:Around) (outer:List Env) (s:Shared) (H:Hp) (vs:List V) (Q:VK) (E:XK),Room k (A.deeper (envOfC qual (qG st) s.heap.objs.size f cdv))→sp vs H Q E→∃t,PSs (cxOf (CXe P w) P w K mg base N qual (qG st) f cdv A outer s H E) (jY st) t∧t { nx:=λ_ H'=>Q .non H',rt:=Q } (vH N vs) H):FnOk P w K mg base (CXe P w) (k+1) f fd ps sp:=by obtain⟨oc,od,kV,doc,pm,an,cdv,ct,osl,rfl,lk,hcd⟩:=F.ex;exact qBM lk hcd S len λA outer s H vs Q E hr hsp=>hbody cdv A outer s H vs Q E hr hsp
theorem FunD.ok0{x qual:Str}{st:Stmt}{f:Addr}{fd:FuncData}{N ps:List Str}{k:Nat}{sp:Sp}(F:FunD K x qual st dV f fd)(S:FnScope N ps (qG st))
 (hbody:∀(cdv:Value) (A:Around) (outer:List Env) (s:Shared) (H:Hp) (vs:List V) (Q:VK) (E:XK),Room k (A.deeper (envOfC qual (qG st) s.heap.objs.size f cdv))→sp vs H Q E→∃t,PSs (cxOf CX0 P w K mg base N qual (qG st) f cdv A outer s H E).nox (jY st) t∧t { nx:=λ_ H'=>Q .non H',rt:=Q } (vH N vs) H)(len:∀vs H Q E,sp vs H Q E→vs.length=ps.length:=by intro _ _ _ _ h;first|(cases h;subst_vars;rfl)|((repeat obtain⟨_,h⟩:=h);all_goals subst_vars;rfl)):FnOk P w K mg base CX0 (k+1) f fd ps sp:=by(
obtain⟨oc,od,kV,doc,pm,an,cdv,ct,osl,rfl,lk,hcd⟩:=F.ex
refine qBM lk hcd S len λA outer s H vs Q E hr hsp=>?_
obtain⟨t,h,q⟩:=hbody cdv A outer s H vs Q E hr hsp
exact⟨t,h.nox,q⟩)
end
noncomputable abbrev bmVE:List Value:=[.type "ValueError",.type "Exception",.type "BaseException",.type "object"]
noncomputable abbrev XCls(K:PySem.W.Frag)(C:Addr):Prop:=PySem.W.excIn K C bmVE "ValueError.__new__"=true
theorem qDL{K:PySem.W.Frag}{C:Addr}(q:XCls K C):∃bm N nm qn bs hd sn sub ab col dd k0 k1 k2 k3 k5,K.lookup C=some (excClassObj nm qn C N bs bm hd sn sub ab col dd k0 k1 k2 k3 k5 "ValueError.__new__")∧PySem.W.tailIn K bmVE bm=true∧PySem.W.nsOkIn K N=true∧PySem.W.nsIn K N "__init__"=some none:=by(
unfold XCls PySem.W.excIn at q
split at q
·rename_i dd cd sl ho;split at q
 ·rename_i C' bm k0 k1 k2 k3 n k5 hm hs;obtain⟨nm,bs,mro,ns,qn,hd,sn,sub,ab,col,del⟩:=cd;obtain⟨l⟩:=sl;simp only[mH,d4,wE]at q hm hs;obtain⟨⟨⟨⟨⟨e1,e2⟩,e3⟩,e4⟩,e5⟩,e6⟩:=q;subst e1 e2 e3 hm hs;exact⟨bm,ns,nm,qn,bs,hd,sn,sub,ab,col,dd,k0,k1,k2,k3,k5,ho,e4,e5,e6⟩
 cases q
cases q)
noncomputable def qG2(ES:St→XK)(C:Addr)(t:TA):TS:=λ_ σ H=>t σ H λvs H1=>vs.length≤sizeLine∧ES σ (.ref C) none H1
section
variable{X:Cx}{ES:St→XK}{C:Addr}{x:Str}{np cpos pos:Pos}{e:Expr}{es:List Expr}{t:TA}
theorem qC2{pins:List (Addr×Obj)}{σ:St}{H:Hp}{s:Shared}{h':Heap}{ea:Addr}{C:Value}{vs:List Value}(I:Inv X pins σ H s)(m:Heap.MadeExcOf s.heap h' ea C vs):
 Air X.env.locals h' ea C none none∧Ours X pins H [ea]:=by(
obtain⟨t,m1,m2,m3⟩:=m.there
refine⟨⟨_,⟨_,m1,rfl,rfl,rfl,by simp⟩,rfl⟩,λb hb=>?_⟩
rw[kC.mp hb]
refine⟨?_,I.hok.free m.new,λp hp z=>?_⟩
·by_cases y:ea∈X.ex
 ·exact .inr y
 refine .inl ?_;cases z:X.s₀.heap.get? ea with
 |none=>rfl
 |some ob=>obtain⟨o',z'⟩:=I.base.there ea ob z y;rw[m.new]at z';cases z'
have y:=(I.pin p hp).1
rw[z,m.new]at y
cases y)
theorem q2G(tk:q2F X ES)(hc:X.calm=true)(hg:Gl X x)(hm:X.mg x=some (.ref C))(hx:XCls X.K C)(ha:PA X (e::es) t)(hdb:(x==("__debug__":Str))=false:=by decide)
 (he:starEach (e::es) X.env=(false,eval e X.env)::starEach es X.env:=by rfl) (hpl:(backTo cpos (starEach es X.env)).any (·.1)=false:=by rfl):
 PS X (.Raise (some (.Call (.Name x np) (e::es) [] cpos)) none pos) (qG2 ES C t):=by(
intro pins s σ H D I hq
obtain⟨bm,N,nm,qn,bs,hd,sn,sub,ab,col,dd,k0,k1,k2,k3,k5,lk,tl,ok,ni⟩:=qDL hx
have kb:=I.mod.kin
have T0:=PySem.W.tail_of_in kb tl
have hN:X.base.Ns N (X.base.nsMap N):=.of_isNs (PySem.W.isNs_of_in kb ok)
have hni:=PySem.W.nsMap_none_of_in kb ok ni
have hplain:(backTo cpos (starEach (e::es) X.env)).any (·.1)=false:=by rw[he];show(false||(backTo cpos (starEach es X.env)).any (·.1))=false;rw[hpl];rfl
refine wpAny_Raise_call_subT (C:=C) (nm:=nm) (q:=qn) (N:=N) (bs:=bs) (bm:=bm) (hdct:=hd) (sn:=sn) (sub:=sub) (ab:=ab) (col:=col) (dd:=dd) (k0:=k0) (k1:=k1) (k2:=k2) (k3:=k3) (k5:=k5) (mN:=X.base.nsMap N)
 PySem.F.excBase_ValueError (T0.hasType (by decide)) (I.ok.hd hc) hplain hni (q2B I hg hm ⟨rfl,?_⟩ hdb)
have h0:=ha cpos pins s σ H _ I hq
rw[he]at h0 ⊢
refine PySem.Calls.evalArgs_plain (gJ h0 (λus s1 h1=>?_) λ_ _ y=>y)
obtain⟨vs,H1,I1,r,hz,hE⟩:=h1
refine⟨rfl,by rw[←r.length];exact hz,I1.bk _ _ (kb _ _ lk),?_,T0.keeps I1.bk,λh' ea m=>?_⟩
·obtain⟨o',es',ep',z,rr⟩:=hN;exact⟨o',es',ep',I1.bk _ _ z,rr⟩
obtain⟨air,ours⟩:=qC2 I1 m
refine tk pins σ H1 { s1 with heap:=h' } ea none (.ref C) none (I1.kept (t':=s1.toks) m.keeps) air ours hE)
end
noncomputable abbrev Cx.tr(X:Cx)(pins:List (Addr×Obj))(XE:Value→Shared→Prop):Cx:={ X with pn:=X.pn++pins,xe:=XE }
noncomputable abbrev Cx.sui(X:Cx)(e:Addr):Cx:={ X with A:=X.A.mark (some (.ref e)),calm:=false,xe:=λ_ _=>False }
theorem Chg.mono{fr fr' rs rs':List Addr}{h h':Heap}(c:Chg fr rs h h')(f:∀b∈fr,b∈fr')(r:∀b∈rs,b∈rs'):Chg fr' rs' h h':=⟨λb o a z e=>c.keep b o (λy=>a (f b y)) (λy=>z (r b y)) e,λb o z e=>c.slot b o (λy=>z (r b y)) e,c.there⟩
theorem Held.recs{f:Value}{e T:Addr}{h:Heap}{C:Value}{od:Option Addr}(x:Held f h e T C od):Recs h [e,T]:=by(
obtain⟨vs,⟨oe,a1,_,_,a4,_⟩,_,_,oT,ts,t3,t4,_⟩:=x
intro b hb
have e':b=e∨b=T:=by simpa using hb
rcases e' with rfl|rfl
·exact⟨_,_,a1,a4⟩
exact⟨_,_,t3,t4⟩)
section
variable{X:Cx}{pins:List (Addr×Obj)}{σ:St}{H:Hp}{s:Shared}{XE:Value→Shared→Prop}
theorem Inv.tr(I:Inv X pins σ H s)(XE:Value→Shared→Prop):Inv (X.tr pins XE) [] σ H s:=have ok:=I.ok
 ⟨⟨ok.mod,ok.kind,ok.glob,ok.blt,ok.above,ok.inj,ok.has,ok.cab,ok.hd,ok.frames,ok.stk,ok.exf,ok.bs,ok.bsz,ok.noex,ok.exfs,ok.funs,ok.frf⟩,I.os,I.bare,I.base,I.loc,I.cell,I.free,I.freeC,λp hp=>I.pin p (by simpa using hp),I.hok,I.len⟩
theorem Inv.untr{ps:List (Addr×Obj)}(I:Inv (X.tr pins XE) ps σ H s):Inv X pins σ H s:=have ok:=I.ok
 ⟨⟨ok.mod,ok.kind,ok.glob,ok.blt,ok.above,ok.inj,ok.has,ok.cab,ok.hd,ok.frames,ok.stk,ok.exf,ok.bs,ok.bsz,ok.noex,ok.exfs,ok.funs,ok.frf⟩,I.os,I.bare,I.base,I.loc,I.cell,I.free,I.freeC,λp hp=>I.pin p (mD _ hp),I.hok,I.len⟩
theorem Inv.sui(I:Inv X pins σ H s)(e:Addr):Inv (X.sui e) pins σ H s:=have ok:=I.ok
 ⟨⟨ok.mod,ok.kind,ok.glob,ok.blt,ok.above,ok.inj,ok.has,ok.cab,(λz=>by cases z),ok.frames,ok.stk,ok.exf,ok.bs,ok.bsz,ok.noex,ok.exfs,ok.funs,ok.frf⟩,I.os,I.bare,I.base,I.loc,I.cell,I.free,I.freeC,I.pin,I.hok,I.len⟩
theorem Inv.unsui{e:Addr}(hc:X.calm=true→X.A.handled=none)(I:Inv (X.sui e) pins σ H s):Inv X pins σ H s:=have ok:=I.ok
 ⟨⟨ok.mod,ok.kind,ok.glob,ok.blt,ok.above,ok.inj,ok.has,ok.cab,hc,ok.frames,ok.stk,ok.exf,ok.bs,ok.bsz,ok.noex,ok.exfs,ok.funs,ok.frf⟩,I.os,I.bare,I.base,I.loc,I.cell,I.free,I.freeC,I.pin,I.hok,I.len⟩
theorem SP.untr{D:Ends}{f:Flow}{s':Shared}(h:SP (X.tr pins XE) [] D f s'):SP X pins D f s':=by(
cases f with
|next=>obtain⟨σ',H',I,q⟩:=h;exact⟨σ',H',I.untr,q⟩
|brk=>obtain⟨σ',H',I,q⟩:=h;exact⟨σ',H',I.untr,q⟩
|cont=>obtain⟨σ',H',I,q⟩:=h;exact⟨σ',H',I.untr,q⟩
|ret u=>obtain⟨v,σ',H',I,r,q⟩:=h;exact⟨v,σ',H',I.untr,r,q⟩)
theorem SP.unsui{e:Addr}{D:Ends}{f:Flow}{s':Shared}(hc:X.calm=true→X.A.handled=none)(h:SP (X.sui e) pins D f s'):SP X pins D f s':=by(
cases f with
|next=>obtain⟨σ',H',I,q⟩:=h;exact⟨σ',H',I.unsui hc,q⟩
|brk=>obtain⟨σ',H',I,q⟩:=h;exact⟨σ',H',I.unsui hc,q⟩
|cont=>obtain⟨σ',H',I,q⟩:=h;exact⟨σ',H',I.unsui hc,q⟩
|ret u=>obtain⟨v,σ',H',I,r,q⟩:=h;exact⟨v,σ',H',I.unsui hc,r,q⟩)
end
noncomputable def qHI(ea:Addr)(C:Value)(od:Option Addr):Heap→Prop:=λh=>∃o vs,h.get? ea=some o∧o.cls=C∧o.dict=od∧o.data=.fields vs
noncomputable abbrev XO(ea:Addr)(C:Value)(od:Option Addr):HO:=.ext (qHI ea C od)
noncomputable abbrev TH:=Ends→St→Hp→Addr→Value→Option Addr→Prop
noncomputable def PHs(X:Cx)(hs:List ExceptHandler)(t:TH):Prop:=∀(pins:List (Addr×Obj)) (s:Shared) (σ:St) (H:Hp) (D:Ends) (ea T:Addr) (C:Value) (od:Option Addr),Inv X pins σ H s→Held .none s.heap ea T C od→Ours X pins H [ea,T]→t D σ H ea C od→wpAny (model X.prog X.w) X.A (handleBy (.ref ea) X.env hs) (SP X pins D) X.xe s
section
variable{X:Cx}{ES:St→XK}
theorem qC3(tk:q2F X ES)(hf:X.env.frame=some X.env.locals:=by rfl):PHs X [] (λ_ σ H _ C od=>ES σ C od H):=by(
intro pins s σ H D ea T C od I hd ours q
refine wpAny_handleBy_nil ?_
unfold PySem.passOn
have rc:=hd.recs
obtain⟨vs,x,t1,t2,oT,ts,t3,t4,t5⟩:=id hd
obtain⟨oe,a1,a2,a3,a4,a5⟩:=id x
refine kG (cO a1 a4 t1 ?_)
rw[kI (by simp)]
refine kG (zR hd λh' c hd2=>wpAny_throw ?_)
rw[hf]at hd2
exact tk pins σ H { s with heap:=h' } ea (some T) C od (I.chg (t':=s.toks) (rs:=[ea,T]) (c.mono (by simp) (by simp)) ours rc) (hd2.air (.inr rfl)) ours q)
theorem Inv.pinX{pins:List (Addr×Obj)}{σ:St}{H:Hp}{s:Shared}{ea T:Addr}{C:Value}{od:Option Addr}{f:Value}(I:Inv X pins σ H s)(hd:Held f s.heap ea T C od)(ours:Ours X pins H [ea,T]):
 ∃oe oT,Inv X (pins++[(ea,oe),(T,oT)]) σ H s∧∀h':Heap,h'.get? ea=some oe→h'.get? T=some oT→Held f h' ea T C od:=by(
have rc:=hd.recs
obtain⟨vs,⟨oe,a1,a2,a3,a4,a5⟩,t1,t2,oT,ts,t3,t4,t5⟩:=hd
refine⟨oe,oT,I.pins_of λp hp=>?_,λh' z1 z2=>⟨vs,⟨oe,z1,a2,a3,a4,a5⟩,t1,t2,oT,ts,z2,t4,t5⟩⟩
have nl:∀b o ws,s.heap.get? b=some o→o.data=.fields ws→b≠X.env.locals∧b∉X.fs:=λb o ws e d=>by
 refine⟨λz=>?_,λz=>?_⟩
 ·obtain⟨m,⟨o',es,ep,ho,hd',_⟩,_⟩:=I.loc;rw[←z,e]at ho;cases ho;rw[d]at hd';cases hd'
 obtain⟨_,o',ho,hn⟩:=I.funs.mem z;rw[e]at ho;cases ho;exact hn _ d
rcases mO.mp hp with z|z
·exact I.pin p (kN _ z)
have z:p=(ea,oe)∨p=(T,oT):=by simpa using z
rcases z with rfl|rfl
·exact⟨a1,(ours ea (by simp)).2.1,(nl _ _ _ a1 a4).1,(nl _ _ _ a1 a4).2,λv q=>by rw[a4]at q;cases q⟩
exact⟨t3,(ours T (by simp)).2.1,(nl _ _ _ t3 t4).1,(nl _ _ _ t3 t4).2,λv q=>by rw[t4]at q;cases q⟩)
theorem q3O{ty:Expr}{c:V}{cv:Value}{pins:List (Addr×Obj)}{s:Shared}{σ:St}{H:Hp}{ea T:Addr}{C:Value}{od:Option Addr}{b:Bool}{R:Result→Shared→Prop}{pos:Pos}(hc:PE (X.sui ea) ty (tC c))(rc:RelV c cv)
 (I:Inv X pins σ H s) (hh:X.calm=true→X.A.handled=none) (hd:Held .none s.heap ea T C od) (ours:Ours X pins H [ea,T]) (hx:PySem.W.exmOne X.K C cv=some b) (q:∀s',Inv X pins σ H s'→Held .none s'.heap ea T C od→R (.ok (if b then .brk else .next)) s'):
 codeAny (model X.prog X.w) (X.A.mark (some (.ref ea))) (.handlers (.ref ea) [.ExceptHandler (some ty) none [] pos] X.env) R s:=by(
obtain⟨oe,oT,I1,back⟩:=I.pinX hd ours
refine codeAny_handlers_test (gJ (hc _ s σ H (λv H'=>v=c∧H'=H) (I1.sui ea) ⟨rfl,rfl⟩) (λu s1 h1=>?_) λ_ _ z=>z.elim)
obtain⟨v,H',I2,r,e1,e2⟩:=h1
subst e1 e2
have e3:u=cv:=by
 cases v with
 |non=>exact r.trans rc.symm
 |bl b=>exact r.trans rc.symm
 |ref a=>exact r.trans rc.symm
 |ty n=>exact r.trans rc.symm
 |int i=>obtain⟨t,e⟩:=r;obtain⟨t',e'⟩:=rc;subst e';unfold PySem.W.exmOne at hx;split at hx<;>cases hx
 |str i=>obtain⟨t,e⟩:=r;obtain⟨t',e'⟩:=rc;subst e';unfold PySem.W.exmOne at hx;split at hx<;>cases hx
 |byt i=>obtain⟨t,e⟩:=r;obtain⟨t',e'⟩:=rc;subst e';unfold PySem.W.exmOne at hx;split at hx<;>cases hx
 |flt i=>obtain⟨t,e⟩:=r;obtain⟨t',e'⟩:=rc;subst e';unfold PySem.W.exmOne at hx;split at hx<;>cases hx
subst e3
have p1:=(I2.pin (ea,oe) (by simp)).1
have p2:=(I2.pin (T,oT) (by simp)).1
have hd1:=back _ p1 p2
obtain⟨vs,⟨oe',z1,z2,_⟩,_⟩:=id hd1
have LT:PySem.W.Looks (model X.prog X.w) s1.heap (typeOf (.ref ea)) C:=by rw[←z2];exact(lZ z1).andThen .now
have I3:Inv X pins σ H' s1:=(Inv.unsui hh I2).unpinned
exact(PySem.W.exm_one I2.kIn LT hx).here (q s1 I3 hd1))
theorem qDM{ty:Expr}{c:V}{cv:Value}{b₀:Stmt}{suite:List Stmt}{pos:Pos}{rest:List ExceptHandler}{ts:TS}{tr:TH}(hc:∀ea,PE (X.sui ea) ty (tC c))(rc:RelV c cv)(hs:∀ea,PSs (X.sui ea) (b₀::suite) ts)(hr:PHs X rest tr):
 PHs X (.ExceptHandler (some ty) none (b₀::suite) pos::rest) (λD σ H ea C od=>∃b,PySem.W.exmOne X.K C cv=some b∧if b=true then ts D σ H else tr D σ H ea C od):=by(
intro pins s σ H D ea T C od I hd ours hZ
obtain⟨b,hx,q⟩:=hZ
refine pZ (q3O (hc ea) rc I I.ok.hd hd ours hx λs' I' hd'=>?_) (by intro z;cases z)
cases b with
|false=>rw[kI (by simp)]at q;exact hr pins s' σ H D ea T C od I' hd' ours q
|true=>rw[kJ rfl]at q;refine codeAny_handlers_suite (zR hd' λh' c hd2=>?_);have I2:=I'.chg (t':=s'.toks) (rs:=[ea,T]) (c.mono (by simp) (by simp)) ours hd'.recs;exact gJ (hs ea pins { s' with heap:=h' } σ H D (I2.sui ea) q) (λf s2 z=>z.unsui I.ok.hd) λ_ _ z=>z.elim)
theorem Inv.track{pins:List (Addr×Obj)}{σ:St}{H:Hp}{s:Shared}{ea:Addr}{C:Value}{od:Option Addr}{o:Obj}{vs:Array Value}(I:Inv X pins σ H s)(e:s.heap.get? ea=some o)(e1:o.cls=C)(e2:o.dict=od)(e3:o.data=.fields vs)
 (ours:Ours X pins H [ea]):Inv X pins σ (upd H ea (XO ea C od)) s:=by(
have w:=ours ea (by simp)
have ne:∀b o',X.s₀.heap.get? b=some o'→b∉X.ex→b≠ea:=λb o' z n y=>by
 subst y;rcases w.1 with q|q
 ·rw[z]at q;cases q
 exact n q
have nt:∀b u,H b=some u→b≠ea:=λb u z y=>by rw[y,w.2.1]at z;cases z
have nl:ea≠X.env.locals:=λz=>by obtain⟨m,⟨o',es,ep,ho,hd',_⟩,_⟩:=I.loc;rw[←z,e]at ho;cases ho;rw[e3]at hd';cases hd'
refine⟨I.ok,I.os,I.bare,⟨I.base.keep,I.base.slot,λb o' z n x=>?_,I.base.there,λb xs z=>?_,λb o' u z=>?_,λb ps z=>?_⟩,I.loc,I.cell,?_,λx c z=>?_,λp hp=>?_,λa u z=>?_,I.len⟩
·rw[qC (ne b o' z x)];exact I.base.free b o' z n x
·have:=I.base.tups b xs z;rw[qC (nt _ _ this)];exact this
·have:=I.base.frzs b o' u z;rw[qC (nt _ _ this)];exact this
·obtain⟨more,this⟩:=I.base.tbls b ps z;exact⟨more,by rw[qC (nt _ _ this)];exact this⟩
·rw[qC (dD nl)];exact I.free
·have nc:c≠ea:=λy=>by obtain⟨v,o',ho,hd⟩:=I.cell x c z;rw[y,e]at ho;cases ho;rw[e3]at hd;cases hd
 rw[qC nc];exact I.freeC x c z
·obtain⟨p1,p2,p3,p4,p5⟩:=I.pin p hp;exact⟨p1,by rw[qC (w.2.2 p hp)];exact p2,p3,p4,p5⟩
by_cases y:a=ea
·subst y;rw[qH]at z;cases z;exact⟨⟨o,vs,e,e1,e2,e3⟩,⟨o,e⟩,λh1 h2 ⟨o1,ws,f1,f2⟩ k=>⟨o1,ws,k _ f1,f2⟩⟩
rw[qC y]at z
refine(I.hok a u z).stay (λ_ _ _ g=>g) (λb g=>?_) λb xs g=>?_
·rw[qC (nt _ _ g)];exact g
rw[qC (nt _ _ g)];exact g)
theorem Inv.goes{M:Model}{A:Around}{E:Value→Shared→Prop}{pins:List (Addr×Obj)}{σ:St}{H:Hp}{s:Shared}{i:Nat}{n:Str}{pos:Pos}{Q:Unit→Shared→Prop}(I:Inv X pins σ H s)(hN:X.N.Nodup)(hi:X.N[i]?=some n)
 (hk:X.env.kindOf n=some .local) (q:∀s',Inv X pins (σ.set i none) H s'→Q () s'):wpAny M A (do bindName X.env n .none;unbindBehindTheSuite X.env n pos) Q E s:=by(
obtain⟨m,hn,hv⟩:=I.loc
refine wpAny_nameGoes_keeps hk hn (by rw[I.ok.kind];rfl) λh' v hn' sb=>q _ ?_
have k:∀b o,b≠X.env.locals→s.heap.get? b=some o→h'.get? b=some o:=λb o z e=>(sb.2 b z).trans e
have cl:∀x c,X.env.cells.lookup x=some c→∀w,s.heap.IsCell c w→h'.IsCell c w:=λx c z w ⟨o,ho,hd⟩=>⟨o,k c o (I.cne x c z) ho,hd⟩
have below:∀b o,X.s₀.heap.get? b=some o→b≠X.env.locals:=λb o z y=>absurd (kM z) (cH.mpr (y▸I.ok.above))
refine⟨I.ok,I.os,I.bare,⟨λb o z a f x=>k b o (below b o z) (I.base.keep b o z a f x),λb o z a f x=>?_,I.base.free,λb o z x=>?_,I.base.tups,I.base.frzs,I.base.tbls⟩,⟨_,hn',λj x v' e1 e2 e3=>?_⟩,λx c z=>?_,I.free,I.freeC,λp hp=>?_,λa u z=>?_,by rw[m7];exact I.len⟩
·obtain⟨sl,y⟩:=I.base.slot b o z a f x;exact⟨sl,k b _ (below b o z) y⟩
·obtain⟨o',y⟩:=I.base.there b o z x;exact⟨o',k b _ (below b o z) y⟩
·have ne:j≠i:=λy=>by
  subst y;rw[List.getElem?_set_self']at e2;cases y:σ[j]? with
  |none=>rw[y]at e2;cases e2
  |some u=>rw[y]at e2;cases e2
 rw[dR (dD ne)]at e2;have nx:x≠n:=λy=>by subst y;exact ne (q4F hN e1 hi)
 obtain⟨u,r,lk⟩:=hv j x v' e1 e2 e3;refine⟨u,r,?_⟩;rcases lk with⟨z1,z2⟩|⟨z1,c,z2,z3⟩
 ·refine .inl ⟨z1,?_⟩;show(if x=n then v else m x)=some u;rw[kI nx];exact z2
 exact .inr ⟨z1,c,z2,cl x c z2 _ z3⟩
·obtain⟨w,y⟩:=I.cell x c z;exact⟨w,cl x c z _ y⟩
·obtain⟨p1,p2,p3,p4,p5⟩:=I.pin p hp;exact⟨k _ _ p3 p1,p2,p3,p4,p5⟩
refine(I.hok a u z).stay (λb u' hb g=>k b u' (λy=>?_) g) (λ_ g=>g) λ_ _ g=>g
have f:=I.free
rw[←y]at f
rcases hb with rfl|w
·rw[z]at f;cases f
rw[w]at f;cases f)
theorem qHJ{ty:Expr}{c:V}{cv:Value}{n:Str}{i:Nat}{b₀:Stmt}{suite:List Stmt}{pos:Pos}{rest:List ExceptHandler}{ts:TS}{tr:TH}(hN:X.N.Nodup)(hi:X.N[i]?=some n)(hk:X.env.kindOf n=some .local)(hl:X.env.scope.names.lookup n=some .local)
 (hc:∀ea,PE (X.sui ea) ty (tC c)) (rc:RelV c cv) (hs:∀ea,PSs (X.sui ea) (b₀::suite) ts) (hr:PHs X rest tr):
 PHs X (.ExceptHandler (some ty) (some n) (b₀::suite) pos::rest) (λD σ H ea C od=>∃b,PySem.W.exmOne X.K C cv=some b∧if b=true then
  ts { nx:=λσ' H'=>D.nx (σ'.set i none) H',rt:=D.rt,bk:=λσ' H'=>D.bk (σ'.set i none) H',ct:=λσ' H'=>D.ct (σ'.set i none) H' } (σ.set i (some (.ref ea))) (upd H ea (XO ea C od))else tr D σ H ea C od):=by(
intro pins s σ H D ea T C od I hd ours hZ
obtain⟨b,hx,q⟩:=hZ
refine pZ (q3O (hc ea) rc I I.ok.hd hd ours hx λs' I' hd'=>?_) (by intro z;cases z)
cases b with
|false=>rw[kI (by simp)]at q;exact hr pins s' σ H D ea T C od I' hd' ours q
|true=>
 rw[kJ rfl]at q;refine codeAny_handlers_suite_as (zR hd' λh' c hd2=>?_);have I2:=I'.chg (t':=s'.toks) (rs:=[ea,T]) (c.mono (by simp) (by simp)) ours hd'.recs;obtain⟨vs,⟨oe,a1,a2,a3,a4,_⟩,_⟩:=hd2;have I3:=I2.track a1 a2 a3 a4 λb hb=>ours b (by rw[kC.mp hb];simp);refine q2A (X:=X.sui ea) (v:=.ref ea) (I3.sui ea) hN hi (.inl hl) rfl (λs2 I4=>?_) (.inr hl);refine gJ (hs ea pins s2 _ _ _ I4 q) (λf s3 z=>?_) λ_ _ z=>z.elim;have z:=z.unsui I.ok.hd;show wpAny _ _ _ _ _ _;cases f with
 |next=>obtain⟨σ',H',J,y⟩:=z;exact J.goes hN hi hk λs4 J'=>⟨_,H',J',y⟩
 |brk=>obtain⟨σ',H',J,y⟩:=z;exact J.goes hN hi hk λs4 J'=>⟨_,H',J',y⟩
 |cont=>obtain⟨σ',H',J,y⟩:=z;exact J.goes hN hi hk λs4 J'=>⟨_,H',J',y⟩
 |ret u=>obtain⟨v,σ',H',J,r,y⟩:=z;exact J.goes hN hi hk λs4 J'=>⟨v,_,H',J',r,y⟩)
noncomputable def tTry(tb:(St→XK)→TS)(th:TH):TS:=λD σ H=>tb (λσ' C od H'=>∀ea,H' ea=none→th D σ' H' ea C od) D σ H
theorem qC4{body:List Stmt}{h₀:ExceptHandler}{hs:List ExceptHandler}{pos:Pos}{tb:(St→XK)→TS}{th:TH}
 (hb:∀(pins:List (Addr×Obj)) (XE:Value→Shared→Prop) (ES:St→XK),q2F (X.tr pins XE) ES→PassesOwn (model X.prog X.w) X.A X.env XE→PSs (X.tr pins XE) body (tb ES)) (hh:PHs X (h₀::hs) th)
 (hfs:∃fr,X.stack=X.env::fr:=by exact⟨_,rfl⟩) (hf:X.env.frame=some X.env.locals:=by rfl):PS X (.Try body (h₀::hs) [] [] pos) (tTry tb th):=by(
intro pins s σ H D I q
refine wpAny_Try_except (gJ (hb pins (λe s1=>wpAny (model X.prog X.w) X.A (noteFrame e X.env) (λ_ s2=>wpAny (model X.prog X.w) X.A (setFlight e none) (λ_ s3=>wpAny (model X.prog X.w) X.A (handleBy e X.env (h₀::hs)) (SP X pins D) X.xe s3) X.xe s2) X.xe s1)
 (λσ' C od H'=>∀ea,H' ea=none→th D σ' H' ea C od) ?_ PassesOwn.looking [] s σ H D (I.tr _) q) (λf s1 z=>?_) λe s1 z=>z)
·intro pins' σ' H' s' ea tr C od I' air ours y;obtain⟨fr,ek⟩:=hfs;have frames:X.A.frames=some (X.env::fr):=by rw[I.ok.frames,ek]
 have ff:s'.heap.FunFrames X.base (X.env::fr):=by rw[←ek];exact I'.stack
 refine q9Z frames ff hf air λh' T c hd n=>?_;have en:frs X.stack=(X.env::fr).filterMap (·.frame):=by rw[ek];rfl
 have I2:Inv (X.tr pins _) pins' σ' H' { s' with heap:=h' }:=I'.chg (t':=s'.toks) (by show Chg (frs X.stack) _ _ _;rw[en];exact c) ours air.recs;have oT:Ours (X.tr pins λe s1=>wpAny (model X.prog X.w) X.A (noteFrame e X.env) (λ_ s2=>wpAny (model X.prog X.w) X.A (setFlight e none) (λ_ s3=>wpAny (model X.prog X.w) X.A (handleBy e X.env (h₀::hs)) (SP X pins D) X.xe s3) X.xe s2) X.xe s1) pins' H' [ea,T]:=by
  intro b hb;have hb:b=ea∨b=T:=by simpa using hb
  rcases hb with rfl|rfl
  ·exact ours b (by simp)
  rcases n with z|z
  ·exact ours b (hZ _ (by cases tr with|none=>cases z|some t=>cases z;exact kC.mpr rfl))
  refine⟨?_,I'.hok.fresh z,λp hp w=>?_⟩
  ·by_cases y:b∈X.ex
   ·exact .inr y
   refine .inl ?_;cases w:X.s₀.heap.get? b with
   |none=>rfl
   |some ob=>obtain⟨o',w'⟩:=I'.base.there b ob w y;exact absurd (kM w') (cH.mpr z)
  have w':=(I'.pin p hp).1;rw[w]at w';exact absurd (kM w') (cH.mpr z)
 refine zR hd λh2 c2 hd2=>?_;have I3:=I2.chg (t':=s'.toks) (rs:=[ea,T]) (c2.mono (by simp) (by simp)) oT hd.recs;exact hh pins _ σ' H' D ea T C od I3.untr hd2 (λb hb=>⟨(oT b hb).1,(oT b hb).2.1,λp hp=>(oT b hb).2.2 p (mD _ hp)⟩) (y ea (ours ea (by simp)).2.1)
have z:=z.untr
cases f with
|next=>obtain⟨σ',H',I',y⟩:=z;exact qL pins s1 σ' H' D I' y
|_=>exact z)
end
noncomputable def NewX(ea:Addr)(C:Value)(od:Option Addr):Heap→Prop:=λh=>∃vs sl,h.get? ea=some ⟨C,od,.fields vs,sl⟩∧vs[2]?=some .none∧vs[1]?=some .none
noncomputable abbrev XN(ea:Addr)(C:Value)(od:Option Addr):HO:=.ext (NewX ea C od)
noncomputable def qES(X:Cx)(pins:List (Addr×Obj))(a:Addr):Prop:=(X.s₀.heap.get? a=none∨a∈X.ex)∧∀p∈X.pn++pins,p.1≠a
section
variable{X:Cx}{pins:List (Addr×Obj)}{σ:St}{H:Hp}{s:Shared}{a:Addr}
theorem Inv.young(I:Inv X pins σ H s)(e:s.heap.get? a=none):qES X pins a:=by(
refine⟨?_,λp hp z=>?_⟩
·by_cases y:a∈X.ex
 ·exact .inr y
 refine .inl ?_;cases z:X.s₀.heap.get? a with
 |none=>rfl
 |some ob=>obtain⟨o',z'⟩:=I.base.there a ob z y;rw[e]at z';cases z'
have y:=(I.pin p hp).1
rw[z,e]at y
cases y)
theorem Inv.trackG{o:HO}(I:Inv X pins σ H s)(n:H a=none)(y:qES X pins a)(nl:a≠X.env.locals)(nc:∀x c,X.env.cells.lookup x=some c→c≠a)(new:jP X.prog X.w (upd H a o) s.heap a o):Inv X pins σ (upd H a o) s:=by(
have ne:∀b o',X.s₀.heap.get? b=some o'→b∉X.ex→b≠a:=λb o' z x q=>by
 subst q;rcases y.1 with w|w
 ·rw[z]at w;cases w
 exact x w
have nt:∀b u,H b=some u→b≠a:=λb u z q=>by rw[q,n]at z;cases z
refine⟨I.ok,I.os,I.bare,⟨I.base.keep,I.base.slot,λb o' z m x=>?_,I.base.there,λb xs z=>?_,λb o' u z=>?_,λb ps z=>?_⟩,I.loc,I.cell,?_,λx c z=>?_,λp hp=>?_,λb u z=>?_,I.len⟩
·rw[qC (ne b o' z x)];exact I.base.free b o' z m x
·have w:=I.base.tups b xs z;rw[qC (nt _ _ w)];exact w
·have w:=I.base.frzs b o' u z;rw[qC (nt _ _ w)];exact w
·obtain⟨more,w⟩:=I.base.tbls b ps z;exact⟨more,by rw[qC (nt _ _ w)];exact w⟩
·rw[qC (dD nl)];exact I.free
·rw[qC (nc x c z)];exact I.freeC x c z
·obtain⟨p1,p2,p3,p4,p5⟩:=I.pin p hp;exact⟨p1,by rw[qC (y.2 p hp)];exact p2,p3,p4,p5⟩
by_cases q:b=a
·subst q;rw[qH]at z;cases z;exact new
rw[qC q]at z
refine(I.hok b u z).stay (λ_ _ _ g=>g) (λc g=>?_) λc xs g=>?_
·rw[qC (nt _ _ g)];exact g
rw[qC (nt _ _ g)];exact g)
end
noncomputable def qC5:List Value→Bool
| .ref _::r=>qC5 r
|l=>l==bmVE
noncomputable def veIn(K:PySem.W.Frag)(C:Addr):Bool:=(PySem.W.clsIn K C).any (λcd=>qC5 cd.mro)
structure XAt(K:PySem.W.Frag)(C:Addr):Prop where
hd:PySem.W.hasDictIn K C=true
sa:PySem.W.findIn K (.ref C) "__setattr__"=some (some (.builtin "object.__setattr__"))
mro:veIn K C=true
structure XRd(K:PySem.W.Frag)(C:Addr):Prop where
ga:PySem.W.findIn K (.ref C) "__getattribute__"=some (some (.builtin "BaseException.__getattribute__"))
gn:PySem.W.findIn K (.ref C) "__getattr__"=some none
mb:PySem.W.mroIn K C (.type "BaseException")=some true
hd:PySem.W.hasDictIn K C=true
cls:PySem.W.findIn K (.ref C) "__class__"=some (some (.builtin "object.__class__"))
cget:PySem.W.specialIn K (.builtin "object.__class__") "__get__"=some (some (.builtin "getset_descriptor.__get__"))
ctk:PySem.W.takesIn K (.builtin "object.__class__")=some true
mo:PySem.W.mroIn K C (.type "object")=some true
noncomputable def XAny(H:Hp)(ea:Addr)(C:Value)(od:Option Addr):Prop:=H ea=some (XO ea C od)∨H ea=some (XN ea C od)
section
variable{X:Cx}{pins:List (Addr×Obj)}{σ:St}{H:Hp}{s:Shared}{ea C:Addr}{od:Option Addr}
theorem XAny.at{C:Value}(x:XAny H ea C od)(I:Inv X pins σ H s):∃o vs,s.heap.get? ea=some o∧o.cls=C∧o.dict=od∧o.data=.fields vs:=by(
rcases x with e|e
·exact(I.hok ea _ e).1
obtain⟨vs,sl,z,_⟩:=(I.hok ea _ e).1
exact⟨_,vs,z,rfl,rfl,rfl⟩)
theorem qDN{A:Around}{E:Value→Shared→Prop}{K:PySem.W.Frag}{prog:Program}{w:World}{s:Shared}{x:Addr}{ox:Obj}{od:Option Obj}{name:Str}{tk:Tok}{fill b:Bool}{Q:Value→Shared→Prop}(X:K.In s.heap)(J:PySem.W.InstAt s.heap x ox C od)(c:XRd K C)
 (h:∀A',wpAny (model prog w) A' (Builtin.«object.__getattribute__» ⟨[.ref x,.str name tk],[]⟩) (λfin s'=>∃v,fin=.done (.ret v)∧PySem.W.handedIn v=true∧Q v s') (λ_ _=>False) s):wpAny (model prog w) A (getAttrBy (.ref x) (.str name tk) fill b) Q E s:=by(
obtain⟨hh,g,d,t,os⟩:=s
have L0:=J.type (M:=model prog w)
have L1:=wO (M:=model prog w) X c.ga
have L2:=wO (M:=model prog w) X c.gn
have SF:=PySem.F.excAttr_ValueError.ga
unfold getAttrBy
refine gY (kG (L0.at (kG (L1.at ?_))))
show wpAny _ _ (getAttrByItsOwn (.ref x) (.str name tk) (.ref C) (.builtin "BaseException.__getattribute__") fill b) _ _ _
unfold getAttrByItsOwn
refine kG ?_
show wpAny _ _ (typeLookup (.ref C) "__getattr__") _ _ _
refine L2.at ?_
refine kG (sF (gY ?_))
have e1:callGetattribute (.ref x) (.str name tk) (.builtin "BaseException.__getattribute__") b=boundAndCalled (.builtin "BaseException.__getattribute__") (.ref x) (.str name tk):=by unfold callGetattribute;rw[kI (by cases b<;>exact Bool.noConfusion)]
rw[e1]
unfold boundAndCalled
rw[SF.bind (.ref x)]
refine kG (kX ?_)
refine rX (pP SF.plain PySem.F.entry_bexc_ga ?_)
have su:PySem.W.Looks (model prog w) hh (isInstance (.ref x) (.type "BaseException")) true:=J.type.andThen (PySem.W.looks_mroIn X c.mb)
have hk:builtinKind "BaseException.__getattribute__"=some .slot:=by decide+kernel
have hs:splitId "BaseException.__getattribute__"=some ("BaseException","__getattribute__"):=by decide+kernel
refine @PySem.W.check_slot (model prog w) _ _ ⟨hh,g,d,t,os⟩ "BaseException.__getattribute__" "BaseException" "__getattribute__" (.ref x) [.str name tk] [] _ hk hs su (PySem.F.args_bexc_ga (.ref x) (.str name tk)) ?_
refine gJ (h _) (λfin s' z=>?_) (λ_ _ z=>z.elim)
obtain⟨v,rfl,z1,z2⟩:=z
exact PySem.W.handed_on z1 z2)
end
noncomputable def clsV:V→Option Value
| .ref a=>some (.ref a)
| .ty n=>some (.type n)
|_=>none
theorem qC6{c:V}{cv u:Value}(h:clsV c=some cv)(r:RelV c u):u=cv:=by cases c<;>first|(cases h;exact r)|cases h
noncomputable def KndT(K:PySem.W.Frag)(H:Hp)(x:V)(t:Value):Prop:=TyOf K H x t∨∃ea C od,x=.ref ea∧t=.ref C∧XAny H ea (.ref C) od∧XRd K C∧(od=none∨∃dx fs,od=some dx∧H dx=some (.xd fs))
theorem qG3{K:PySem.W.Frag}{x D:Addr}{ox:Obj}{od:Option Obj}(c:XRd K D):PySem.W.KitX K (.ref x) (.ref D) (λh=>PySem.W.InstAt h x ox D od) where
ty:=λ_ _ _ I=>I.type
it:=λ_ _ X _=>by
 obtain⟨cd,hc,_⟩:=wJ c.hd;unfold PySem.W.clsIn at hc;split at hc
 ·rename_i ho;intro A' Q' E' s' k q;unfold isType loadHead;exact kG (wpAny_loadPart (k _ _ (X _ _ ho)) (kX q))
 cases hc
ne:=λh tp dd its n sl X htp=>by
 obtain⟨cd,hc,_⟩:=wJ c.hd;refine Bool.eq_false_iff.mpr λq=>?_;have e:D=tp:=Value.ref.inj (d4.mp q);subst e;unfold PySem.W.clsIn at hc;split at hc
 ·rename_i ho;have z:=(X _ _ ho).symm.trans htp;cases z
 cases hc
ca:=fun {prog w _ _ _ s} X I k=>by
 have hf:PySem.W.findObj K D od "__class__"=some (.bind (.builtin "getset_descriptor.__get__") (.builtin "object.__class__")):=by obtain⟨cd,hc,_⟩:=wJ c.hd;unfold PySem.W.findObj;rw[hc,wK,c.cls,wK];dsimp only;rw[c.cget,wK];dsimp only;rw[c.ctk,wK]
 unfold getAttr? getAttrBy?;refine kG (wpAny_mkText (kG (sF (qDN (s:={ s with toks:=s.toks+1 }) X I c λA'=>?_))));have L0:=I.type (M:=model prog w);have L1:=PySem.W.looks_find (M:=model prog w) X I hf;obtain⟨hh,gg,d,t,os⟩:=s;refine kG (kX (kG (kX (kG (L0.at (kG (L1.at ?_)))))));show wpAny _ _ (holding [.builtin "object.__class__"] (call (.builtin "getset_descriptor.__get__") [.builtin "object.__class__",.ref x,.ref D]) >>= ret) _ _ _;exact kG (gY (rX (PySem.W.class_get (s:=⟨hh,gg,d,t+1,os⟩) (ox:=ox) (od:=od) X I c.mo (kX ⟨_,rfl,rfl,kX k⟩))))
theorem jH{X:Cx}:v8 X (.builtin "isinstance") (λxs H Q=>∃x c cv t b,xs=[x,c]∧clsV c=some cv∧KndT X.K H x t∧PySem.W.kitOne X.K t cv=some b∧Q (.bl b) H):=by(
intro pins s σ H xs us Q I r h
obtain⟨x,c,cv,t,b,rfl,hc,ty,e,q⟩:=h
obtain⟨u,w',rfl,ru,rw'⟩:=qBG r
cases qC6 hc rw'
rcases ty with ty|⟨ea,C,od,rfl,rfl,hx,ca,hd⟩
·exact qAP I ru ty e λtk=>⟨.bl b,H,I.tok tk,rfl,q⟩
obtain rfl:u=Value.ref ea:=ru
obtain⟨o,vs,e1,e2,e3,e4⟩:=hx.at I
have hno:PySem.W.notCls o=true:=by rw[PySem.W.notCls,e4]
have J:∃oD,PySem.W.InstAt s.heap ea o C oD:=by
 rcases hd with rfl|⟨dx,fs,rfl,hdx⟩
 ·exact⟨none,e1,e2,hno,by rw[e3];exact True.intro⟩
 obtain⟨mA,n1,rl⟩:=I.hok dx _ hdx;obtain⟨oD,g1,g2⟩:=q66 n1;exact⟨some oD,e1,e2,hno,by rw[e3];exact g1⟩
obtain⟨oD,J⟩:=J
exact mZ (qG3 ca) I.kIn J e (λz=>nomatch z) λtk=>⟨.bl b,H,I.tok tk,rfl,q⟩)
structure BIni(K:PySem.W.Frag)(W:Addr):Prop where
rd:PySem.W.readsIn K W (.type "type")=true
fd:PySem.W.findCls K (.ref W) (.type "type") "__init__"=some (.val (.builtin "ValueError.__init__"))
ga:PySem.W.specialIn K (.ref W) "__getattribute__"=some (some (.builtin "type.__getattribute__"))
end L2
namespace L2
open PySem
structure Keep(F:List Addr)(H H':Hp):Prop where
k:∀b o,b∉F→H b=some o→H' b=some o
tp:∀b xs,H b=some (.tup xs)→H' b=some (.tup xs)
theorem Keep.refl{F:List Addr}{H:Hp}:Keep F H H:=⟨λ_ _ _ e=>e,λ_ _ e=>e⟩
theorem Keep.trans{F:List Addr}{H H1 H2:Hp}(a:Keep F H H1)(b:Keep F H1 H2):Keep F H H2:=⟨λx o n e=>b.k x o n (a.k x o n e),λx xs e=>b.tp x xs (a.tp x xs e)⟩
theorem Keep.mono{F F':List Addr}{H H':Hp}(a:Keep F H H')(s:∀b∈F,b∈F'):Keep F' H H':=⟨λx o n e=>a.k x o (λm=>n (s x m)) e,a.tp⟩
theorem Keep.upd{F:List Addr}{H:Hp}{p:Addr}{o u:HO}(h:H p=some u)(nt:∀xs,u≠ .tup xs)(m:p∈F):Keep F H (upd H p o):=by(
refine⟨λb x n e=>?_,λb xs e=>?_⟩
·rw[qC (λ(z:b=p)=>n (z▸m))];exact e
rw[qC (jK e h (λz=>nt xs z.symm))];exact e)
theorem Keep.same{F:List Addr}{H H':Hp}(s:Same H H'):Keep F H H':=⟨λb o _ e=>s b o e,λb xs e=>s b _ e⟩
theorem Keep.none{F:List Addr}{H H':Hp}(a:Keep F H H'){b:Addr}(n:b∉F)(e:H' b=Option.none):H b=Option.none:=by(
cases q:H b with
|none=>rfl
|some o=>rw[a.k b o n q]at e;cases e)
structure CM where
bl:Int
pg:Int
mo:Int
lim:List (Key×V)
bo:List V
cl:List Int
dc:List Int
br:List Bool
lf:Option Int
rc:List (Str×Int×Bool)
structure CA where
dx:Addr
li:Addr
bo:Addr
cl:Addr
dc:Addr
br:Addr
rc:Addr
noncomputable def lfV:Option Int→V
| .none=>.non
| .some i=>.int i
noncomputable def chF(a:CA)(m:CM):List (Str×V):=[("blocks",.int m.bl),("pages",.int m.pg),("most",.int m.mo),("limits",.ref a.li),("borne",.ref a.bo),("clearings",.ref a.cl),("deed_counts",.ref a.dc),("broken",.ref a.br),("deeds_left",lfV m.lf),("record",.ref a.rc)]
noncomputable def trip(H:Hp)(v:V)(d:Str×Int×Bool):Prop:=∃p,v=.ref p∧H p=some (.tup [.str d.1,.int d.2.1,.bl d.2.2])
noncomputable abbrev Recd(H:Hp):List V→List (Str×Int×Bool)→Prop:=Paired (trip H)
theorem Recd.keep{F:List Addr}{H H':Hp}(k:Keep F H H'){rs:List V}{ds:List (Str×Int×Bool)}(r:Recd H rs ds):Recd H' rs ds:=Paired.mapP r λv d ⟨p,e,h⟩=>⟨p,e,k.tp _ _ h⟩
theorem _root_.PySem.Paired.len{α β:Type}{F:α→β→Prop}:∀{l₁:List α} {l₂:List β},Paired F l₁ l₂→l₁.length=l₂.length
|_,_,.nil=>rfl
|_,_,.cons _ t=>dS (· + 1) t.len
theorem Paired.snoc{α β:Type}{F:α→β→Prop}:∀{l₁:List α} {l₂:List β} {a:α} {b:β},Paired F l₁ l₂→F a b→Paired F (l₁++[a]) (l₂++[b])
|_,_,_,_,.nil,h=>.cons h .nil
|_,_,_,_,.cons r t,h=>.cons r (Paired.snoc t h)
noncomputable def foot(c:Addr)(a:CA):List Addr:=[c,a.bo,a.cl,a.dc,a.br,a.rc]
structure ChipAt(C:Addr)(H:Hp)(c:Addr)(a:CA)(m:CM):Prop where
ins:H c=some (.ins C a.dx (chF a m))
li:H a.li=some (.dK m.lim)
bo:H a.bo=some (.lst m.bo)
cl:H a.cl=some (.lst (m.cl.map V.int))
dc:H a.dc=some (.lst (m.dc.map V.int))
br:H a.br=some (.lst (m.br.map V.bl))
rc:∃rs,H a.rc=some (.lst rs)∧Recd H rs m.rc
nd:[a.bo,a.cl,a.dc,a.br,a.rc].Nodup
structure CM.Ok(m:CM):Prop where
bl1:2≤m.bl
bl2:m.bl≤16
pg1:1≤m.pg
pg2:m.pg≤16
nbo:(m.bo.length:Int)=m.bl*m.pg
ncl:(m.cl.length:Int)=m.bl
ndc:(m.dc.length:Int)=m.bl
nbr:(m.br.length:Int)=m.bl
lim:∀b v,valV m.lim (Sum.inl b)=some v→∃n,v=.int n
nrc:m.rc.length≤1000000
section
variable{C c:Addr}{a:CA}{m:CM}{H H':Hp}
theorem ChipAt.ne(h:ChipAt C H c a m):c≠a.bo∧c≠a.cl∧c≠a.dc∧c≠a.br∧c≠a.rc:=by obtain⟨rs,e,_⟩:=h.rc;exact⟨jK h.ins h.bo (by intro z;cases z),jK h.ins h.cl (by intro z;cases z),jK h.ins h.dc (by intro z;cases z),jK h.ins h.br (by intro z;cases z),jK h.ins e (by intro z;cases z)⟩
theorem ChipAt.nel(h:ChipAt C H c a m):a.li≠c∧a.li≠a.bo∧a.li≠a.cl∧a.li≠a.dc∧a.li≠a.br∧a.li≠a.rc:=by obtain⟨rs,e,_⟩:=h.rc;exact⟨jK h.li h.ins (by intro z;cases z),jK h.li h.bo (by intro z;cases z),jK h.li h.cl (by intro z;cases z),jK h.li h.dc (by intro z;cases z),jK h.li h.br (by intro z;cases z),jK h.li e (by intro z;cases z)⟩
theorem ChipAt.dst(h:ChipAt C H c a m):(a.bo≠a.cl∧a.bo≠a.dc∧a.bo≠a.br∧a.bo≠a.rc)∧(a.cl≠a.dc∧a.cl≠a.br∧a.cl≠a.rc)∧(a.dc≠a.br∧a.dc≠a.rc)∧a.br≠a.rc:=by(
have:=h.nd
simp only[m6,kR,gQ,not_or,wQ]at this
obtain⟨⟨a1,a2,a3,a4⟩,⟨b1,b2,b3⟩,⟨c1,c2⟩,d1,_⟩:=this
exact⟨⟨a1,a2,a3,a4⟩,⟨b1,b2,b3⟩,⟨c1,c2⟩,d1⟩)
theorem ChipAt.keep{F:List Addr}(h:ChipAt C H c a m)(k:Keep F H H')(n:∀b∈a.li::foot c a,b∉F):ChipAt C H' c a m:=by obtain⟨rs,e,r⟩:=h.rc;exact⟨k.k _ _ (n _ (by simp[foot])) h.ins,k.k _ _ (n _ (by simp)) h.li,k.k _ _ (n _ (by simp[foot])) h.bo,k.k _ _ (n _ (by simp[foot])) h.cl,k.k _ _ (n _ (by simp[foot])) h.dc,k.k _ _ (n _ (by simp[foot])) h.br,⟨rs,k.k _ _ (n _ (by simp[foot])) e,r.keep k⟩,h.nd⟩
theorem ChipAt.same(h:ChipAt C H c a m)(s:Same H H'):ChipAt C H' c a m:=h.keep (F:=[]) (Keep.same s) (by simp)
theorem ChipAt.setLf(h:ChipAt C H c a m)(v:Option Int):ChipAt C (upd H c (.ins C a.dx (chF a { m with lf:=v }))) c a { m with lf:=v }:=by(
obtain⟨n1,n2,n3,n4,n5⟩:=h.ne
obtain⟨l1,_⟩:=h.nel
obtain⟨rs,e,r⟩:=h.rc
have k:Keep [c] H (upd H c (.ins C a.dx (chF a { m with lf:=v }))):=Keep.upd h.ins (λ_ z=>by cases z) (by simp)
exact⟨qH,by rw[qC l1];exact h.li,by rw[qC n1.symm];exact h.bo,by rw[qC n2.symm];exact h.cl,by rw[qC n3.symm];exact h.dc,by rw[qC n4.symm];exact h.br,⟨rs,by rw[qC n5.symm];exact e,r.keep k⟩,h.nd⟩)
theorem ChipAt.setBo(h:ChipAt C H c a m)(v:List V):ChipAt C (upd H a.bo (.lst v)) c a { m with bo:=v }:=by(
obtain⟨n1,n2,n3,n4,n5⟩:=h.ne
obtain⟨l0,l1,l2,l3,l4,l5⟩:=h.nel
obtain⟨⟨a1,a2,a3,a4⟩,⟨b1,b2,b3⟩,⟨c1,c2⟩,d1⟩:=h.dst
obtain⟨rs,e,r⟩:=h.rc
have k:Keep [a.bo] H (upd H a.bo (.lst v)):=Keep.upd h.bo (λ_ z=>by cases z) (by simp)
exact⟨by rw[qC n1];exact h.ins,by rw[qC l1];exact h.li,qH,by rw[qC a1.symm];exact h.cl,by rw[qC a2.symm];exact h.dc,by rw[qC a3.symm];exact h.br,⟨rs,by rw[qC a4.symm];exact e,r.keep k⟩,h.nd⟩)
theorem ChipAt.setDc(h:ChipAt C H c a m)(v:List Int):ChipAt C (upd H a.dc (.lst (v.map V.int))) c a { m with dc:=v }:=by(
obtain⟨n1,n2,n3,n4,n5⟩:=h.ne
obtain⟨l0,l1,l2,l3,l4,l5⟩:=h.nel
obtain⟨⟨a1,a2,a3,a4⟩,⟨b1,b2,b3⟩,⟨c1,c2⟩,d1⟩:=h.dst
obtain⟨rs,e,r⟩:=h.rc
have k:Keep [a.dc] H (upd H a.dc (.lst (v.map V.int))):=Keep.upd h.dc (λ_ z=>by cases z) (by simp)
exact⟨by rw[qC n3];exact h.ins,by rw[qC l3];exact h.li,by rw[qC a2];exact h.bo,by rw[qC b1];exact h.cl,qH,by rw[qC c1.symm];exact h.br,⟨rs,by rw[qC c2.symm];exact e,r.keep k⟩,h.nd⟩)
theorem ChipAt.addRc{p:Addr}{rs:List V}{d:Str×Int×Bool}(h:ChipAt C H c a m)(e:H a.rc=some (.lst rs))(hp:H p=some (.tup [.str d.1,.int d.2.1,.bl d.2.2])):ChipAt C (upd H a.rc (.lst (rs++[.ref p]))) c a { m with rc:=m.rc++[d] }:=by(
obtain⟨n1,n2,n3,n4,n5⟩:=h.ne
obtain⟨l0,l1,l2,l3,l4,l5⟩:=h.nel
obtain⟨⟨a1,a2,a3,a4⟩,⟨b1,b2,b3⟩,⟨c1,c2⟩,d1⟩:=h.dst
obtain⟨rs',e',r⟩:=h.rc
rw[e]at e'
cases e'
have k:Keep [a.rc] H (upd H a.rc (.lst (rs++[.ref p]))):=Keep.upd e (λ_ z=>by cases z) (by simp)
exact⟨by rw[qC n5];exact h.ins,by rw[qC l5];exact h.li,by rw[qC a4];exact h.bo,by rw[qC b3];exact h.cl,by rw[qC c2];exact h.dc,by rw[qC d1];exact h.br,⟨_,qH,Paired.snoc (r.keep k) ⟨p,rfl,k.tp _ _ hp⟩⟩,h.nd⟩)
end
noncomputable def CM.deed(m:CM)(w:Str)(pl b:Int)(f:Bool):CM:={ m with lf:=m.lf.map (· - 1),dc:=m.dc.set b.toNat (m.dc.getD b.toNat 0+1),rc:=m.rc++[(w,pl,!f)],br:=if f then m.br.set b.toNat true else m.br }
noncomputable def CM.new(bl pg mo:Int)(lim:List (Key×V)):CM:=⟨bl,pg,mo,lim,List.replicate (bl*pg).toNat .non,List.replicate bl.toNat 0,List.replicate bl.toNat 0,List.replicate bl.toNat false,none,[]⟩
theorem qG4{m:CM}{p:Int}(ok:m.Ok)(p0:0≤p)(p1:p≤m.bl*m.pg-1):0≤p / m.pg∧p / m.pg<m.bl:=by have:=ok.pg1;exact⟨Int.ediv_nonneg p0 (by lia),Int.ediv_lt_of_lt_mul (by lia) (by lia)⟩
theorem lf0{m:CM}:decide (lfV m.lf=V.int 0)=decide (m.lf=some 0):=by(
cases e:m.lf with
|none=>rfl
|some i=>
 show decide (V.int i=V.int 0)=_;by_cases z:i=0
 ·subst z;rfl
 rw[hG (λq=>z (by injection q)),hG (λq=>z (by injection q))])
theorem qDO{m:CM}:scal (lfV m.lf) (.int 0)=true:=by cases m.lf<;>rfl
theorem getB{m:CM}{b:Int}(h0:0≤b)(h:b<(m.br.length:Int)):atI (m.br.map V.bl) b=some (.bl (m.br.getD b.toNat false)):=by(
obtain⟨j,rfl⟩:=gP h0
refine uE ?_
have hj:j<m.br.length:=by lia
simp[hj])
theorem getI{xs:List Int}{b:Int}(h0:0≤b)(h:b<(xs.length:Int)):atI (xs.map V.int) b=some (.int (xs.getD b.toNat 0)):=by(
obtain⟨j,rfl⟩:=gP h0
refine uE ?_
have hj:j<xs.length:=by lia
simp[hj])
theorem getV{xs:List V}{b:Int}(h0:0≤b)(h:b<(xs.length:Int)):atI xs b=some (xs.getD b.toNat .non):=by(
obtain⟨j,rfl⟩:=gP h0
refine uE ?_
have hj:j<xs.length:=by lia
simp[hj])
theorem ixOk{n:Nat}{b:Int}(h0:0≤b)(h:b<(n:Int)):ixN n b=some b.toNat:=by unfold ixN;rw[kJ h0,kJ h]
theorem CM.Ok.deed{m:CM}(ok:m.Ok){w:Str}{pl b:Int}{f:Bool}(h:m.rc.length<1000000):(m.deed w pl b f).Ok:=by(
refine⟨ok.bl1,ok.bl2,ok.pg1,ok.pg2,ok.nbo,ok.ncl,?_,?_,ok.lim,?_⟩
·show((m.dc.set _ _).length:Int)=m.bl;rw[m7];exact ok.ndc
·show(((if f then m.br.set b.toNat true else m.br)).length:Int)=m.bl;cases f with
 |true=>rw[kJ rfl,m7];exact ok.nbr
 |false=>exact ok.nbr
show(m.rc++[_]).length≤1000000
rw[mP,wH]
lia)
noncomputable def qDP:Sp:=λvs H Q _=>∃x y,vs=[x,y]∧Knd H x∧Knd H y∧Q (.bl (inB x 2 16&&inB y 1 16)) H
theorem Paired.at{α β:Type}{F:α→β→Prop}:∀{l₁:List α} {l₂:List β} {i:Nat} {a:α},Paired F l₁ l₂→l₁[i]?=some a→∃b,l₂[i]?=some b∧F a b
|_,_,0,_,.cons r _,e=>by simp at e;subst e;exact⟨_,rfl,r⟩
|_,_,i+1,_,.cons _ t,e=>by have e2:=cW.symm.trans e;obtain⟨b,h1,h2⟩:=Paired.at t e2;exact⟨b,cW.trans h1,h2⟩
|_,_,_,_,.nil,e=>by simp at e
theorem qG5{bl pg mo:Int}{lim:List (Key×V)}(b1:2≤bl)(b2:bl≤16)(p1:1≤pg)(p2:pg≤16)(hl:∀b v,valV lim (Sum.inl b)=some v→∃n,v=V.int n):(CM.new bl pg mo lim).Ok:=by(
have h:0≤bl*pg:=nY (by lia) (by lia)
refine⟨b1,b2,p1,p2,?_,?_,?_,?_,hl,by show 0≤1000000;decide⟩
·show((List.replicate (bl*pg).toNat V.non).length:Int)=bl*pg;rw[mT];lia
·show((List.replicate bl.toNat (0:Int)).length:Int)=bl;rw[mT];lia
·show((List.replicate bl.toNat (0:Int)).length:Int)=bl;rw[mT];lia
show((List.replicate bl.toNat false).length:Int)=bl
rw[mT]
lia)
noncomputable def Up(x:Addr)(H H':Hp):Prop:=∀b o,b≠x→H b=some o→H' b=some o
section
variable{x C dx:Addr}{fs:List (Str×V)}{H H':Hp}
theorem Up.of{o:HO}(s:Same H H'):Up x H (upd H' x o):=λb u n e=>by rw[qC n];exact s b u e
theorem Up.free(u:Up x H H'){b:Addr}(n:b≠x)(e:H' b=none):H b=none:=by(
cases q:H b with
|none=>rfl
|some o=>rw[u b o n q]at e;cases e)
end
end L2
namespace L2
open PySem PySem.Spec PyProof.Rows
noncomputable def tMid(t u:TS):TS:=λD σ H=>∃M:St→Hp→Prop,t { D with nx:=M } σ H∧∀σ' H',M σ' H'→u D σ' H'
section
variable{X:Cx}{st:Stmt}{rest:List Stmt}{t u:TS}{e:Expr}{te:TE}{tt:TT}
theorem vW(h1:PS X st t)(h2:PSs X rest u):PSs X (st::rest) (tMid t u):=by(
intro pins s σ H D I hZ
obtain⟨M,a,b⟩:=hZ
refine kG (thn (h1 pins s σ H _ I a) λf s1 z=>?_)
cases f with
|next=>obtain⟨σ',H',I',q⟩:=z;exact h2 pins s1 σ' H' D I' (b σ' H' q)
|brk=>exact kX z
|cont=>exact kX z
|ret v=>exact kX z)
end
theorem zD{a b:Int}:decide (V.int a=V.int b)=decide (a=b):=by(
by_cases e:a=b
·subst e;simp
rw[hG e,hG (λz=>e (by injection z))])
section
variable{X:Cx}{pins:List (Addr×Obj)}{σ:St}{H:Hp}{s:Shared}{h':Heap}
theorem Inv.turnedN{t':Nat}{fp:List Addr}(I:Inv X pins σ H s)(k:∀b o,b∉fp→s.heap.get? b=some o→h'.get? b=some o)(hf:∀b∈fp,FpOk X pins H b):Inv X pins σ H { s with heap:=h',toks:=t' }:=by(
have nit:∀b u,H b=some u→b∉fp:=λb u e z=>by rw[(hf b z).1]at e;cases e
refine I.step (g':=s.gens) (d':=s.drawn) (ch:=fp) (λb hb=>?_) (λb o _ _ hc e _=>k b o hc e) (λb o _ _ hc e _=>⟨o.slots,k b o hc e⟩) (λ_ _ _ _ n=>n)
 (λb o hc e=>⟨o,k b o hc e⟩) (λ_ _ e=>e) (λ_ _ _ e=>e) (λb ps e=>⟨#[],by rw[e];simp⟩) (λm hm=>?_) (λb u e=>?_) I.bare
·obtain⟨f0,f1,f2,f3,f4,f5⟩:=hf b hb;exact⟨f3,f1,f4,f5⟩
·obtain⟨o,es,ep,ho,r⟩:=hm;exact⟨o,es,ep,k _ o (λz=>(hf _ z).2.1 rfl) ho,r⟩
refine(I.hok b u e).stay (λc v hc q=>k c v ?_ q) (λ_ q=>q) λ_ _ q=>q
rcases hc with z|z
·rw[z];exact nit b u e
exact nit c _ z)
end
end L2
namespace L2
open PySem
theorem q4T{es rest:List Expr}{x1}{p:Pos}{env:Env}:starEach (.Tuple es x1 p::rest) env=(false,eval (.Tuple es x1 p) env)::starEach rest env:=rfl
theorem qC7{es rest:List Expr}{p:Pos}{env:Env}:starEach (.List es p::rest) env=(false,eval (.List es p) env)::starEach rest env:=rfl
end L2
namespace L2
open PySem PySem.Spec PyProof.Rows
inductive Eqv(K:PySem.W.Frag)(H:Hp):Nat→V→V→Prop where
|flat {n:Nat} {x:V} (f:vI x=true):Eqv K H n x x
|lst {n:Nat} {a b:Addr} {xs ys:List V} (ha:SqL K H a xs) (hb:SqL K H b ys) (hl:xs.length=ys.length) (hi:∀(i:Nat) x y,xs[i]?=some x→ys[i]?=some y→Eqv K H n x y):Eqv K H (n+1) (.ref a) (.ref b)
|tup {n:Nat} {a b:Addr} {xs ys:List V} (ha:SqT K H a xs) (hb:SqT K H b ys) (hl:xs.length=ys.length) (hi:∀(i:Nat) x y,xs[i]?=some x→ys[i]?=some y→Eqv K H n x y):Eqv K H (n+1) (.ref a) (.ref b)
theorem qC8{x:V}(f:vI x=true):eqV x x=true:=by(
cases x with
|non=>rfl
|bl b=>cases b<;>rfl
|int i=>show(i==i)=true;exact beq_self_eq_true i
|str z=>show(z==z)=true;exact beq_self_eq_true z
|_=>exact absurd (show false=true from f) kL)
theorem vK{n:Nat}:(List.range n).all (λ_=>true)=true:=by simp
section
variable{X:Cx}{pins:List (Addr×Obj)}{σ:St}{H:Hp}{s:Shared}
theorem Vals.atN{xs:List V}{us:List Value}(r:Vals xs us){j:Nat}(h:j<us.length):∃x,xs[j]?=some x∧RelV x us[j]:=by(
have e:xs[j]?=some (xs[j]'(by rw[r.length];exact h)):=hX _
obtain⟨u,hu,ru⟩:=r.get e
rw[hX h]at hu
cases hu
exact⟨_,e,ru⟩)
theorem Eqv.at(I:Inv X pins σ H s){n:Nat}{y x:V}(h:Eqv X.K H n y x):∀{A:Around} {u v:Value},RelV y u→RelV x v→A.units+n<cLine→SeqAt.EqAt A s u v true:=by(
induction h with
|flat f=>intro A u v ru rv _;have e:=qBO (A:=A) (s:=s) ru rv f f;rw[qC8 f]at e;exact e
|@lst n a b xs ys ha hb hl hi ih=>
 intro A u v ru rv hu;cases ru;cases rv;by_cases hab:a=b
 ·subst hab;exact wU _
 obtain⟨i1,r1,p1,_⟩:=I.list ha;obtain⟨i2,r2,p2,_⟩:=I.list hb;have l1:=r1.length;have l2:=r2.length;refine sL hab ?_;have e:=SeqAt.RcAt.lists (A:=A) (e:=λ_=>true) p1.isList p2.isList (by simp;lia) (by lia) (λj h1 h2=>?_)
 ·rw[vK]at e;exact e
 obtain⟨x1,e1,q1⟩:=r1.atN (j:=j) (by simpa using h1);obtain⟨x2,e2,q2⟩:=r2.atN (j:=j) (by simpa using h2);exact ih j x1 x2 e1 e2 (by simpa using q1) (by simpa using q2) (by show A.units+1+n<cLine;lia)
|@tup n a b xs ys ha hb hl hi ih=>
 intro A u v ru rv hu;cases ru;cases rv;by_cases hab:a=b
 ·subst hab;exact wU _
 obtain⟨i1,r1,p1,_⟩:=I.tuple ha;obtain⟨i2,r2,p2,_⟩:=I.tuple hb;have l1:=r1.length;have l2:=r2.length;refine sL hab ?_;have e:=SeqAt.RcAt.tuples (A:=A) (e:=λ_=>true) (show s.heap.IsTuple a i1.toArray from p1) (show s.heap.IsTuple b i2.toArray from p2) (by lia) (λj h1 h2=>?_)
 ·rw[vK,cT,show(i1.toArray.size==i2.toArray.size)=true by simp;lia]at e;exact e
 obtain⟨x1,e1,q1⟩:=r1.atN (j:=j) (by simpa using h1);obtain⟨x2,e2,q2⟩:=r2.atN (j:=j) (by simpa using h2);exact ih j x1 x2 e1 e2 (by simpa using q1) (by simpa using q2) (by show A.units+1+n<cLine;lia))
theorem q6J{x:V}(f:vI x=true):scal x x=true:=by(
cases x with
|non=>rfl
|bl b=>rfl
|int i=>rfl
|str z=>rfl
|_=>exact absurd (show false=true from f) kL)
noncomputable def qET(K:PySem.W.Frag)(r:Bool):R2:=λx y H Q=>Eqv K H 6 x y∧Q (.bl r) H
theorem q96(hu:X.A.units+64<cLine):OpR X (compareOp .Eq) (qET X.K true):=by(
intro pins s σ H x y v u Q I rx ry hZ
obtain⟨h,q⟩:=hZ
cases h with
|flat f=>exact v9 pins s σ H x x v u Q I rx ry ⟨q6J f,by rw[hI rfl];exact q⟩
|@lst _ a b xs ys ha hb hl hi=>cases rx;cases ry;obtain⟨i1,r1,p1,_⟩:=I.list ha;obtain⟨i2,r2,p2,_⟩:=I.list hb;have l1:=r1.length;have l2:=r2.length;refine nM (e:=λ_=>true) p1.isList p2.isList (by simp;lia) (by lia) (λj h1 h2=>?_) ⟨.bl true,H,I,by rw[vK];rfl,q⟩;obtain⟨x1,e1,q1⟩:=r1.atN (j:=j) (by simpa using h1);obtain⟨x2,e2,q2⟩:=r2.atN (j:=j) (by simpa using h2);exact(hi j x1 x2 e1 e2).at I (by simpa using q1) (by simpa using q2) (by show X.A.units+1+5<cLine;lia)
|@tup _ a b xs ys ha hb hl hi=>cases rx;cases ry;obtain⟨i1,r1,p1,_⟩:=I.tuple ha;obtain⟨i2,r2,p2,_⟩:=I.tuple hb;have l1:=r1.length;have l2:=r2.length;refine SeqAt.eq_tupleAt (e:=λ_=>true) (show s.heap.IsTuple a i1.toArray from p1) (show s.heap.IsTuple b i2.toArray from p2) (by lia) (λj h1 h2=>?_) ⟨.bl true,H,I,by rw[vK,cT,show(i1.toArray.size==i2.toArray.size)=true by simp;lia];rfl,q⟩;obtain⟨x1,e1,q1⟩:=r1.atN (j:=j) (by simpa using h1);obtain⟨x2,e2,q2⟩:=r2.atN (j:=j) (by simpa using h2);exact(hi j x1 x2 e1 e2).at I (by simpa using q1) (by simpa using q2) (by show X.A.units+1+5<cLine;lia))
theorem qG6(hu:X.A.units+64<cLine):OpR X (compareOp .NotEq) (qET X.K false):=by(
intro pins s σ H x y v u Q I rx ry hZ
obtain⟨h,q⟩:=hZ
cases h with
|flat f=>exact q3J pins s σ H x x v u Q I rx ry ⟨q6J f,by rw[hI rfl];exact q⟩
|@lst _ a b xs ys ha hb hl hi=>cases rx;cases ry;obtain⟨i1,r1,p1,_⟩:=I.list ha;obtain⟨i2,r2,p2,_⟩:=I.list hb;have l1:=r1.length;have l2:=r2.length;refine SeqAt.RcNeAt.lists (e:=λ_=>true) p1.isList p2.isList (by simp;lia) (by lia) (λj h1 h2=>?_) _ _ _ _ ⟨.bl false,H,I,by rw[vK];rfl,q⟩;obtain⟨x1,e1,q1⟩:=r1.atN (j:=j) (by simpa using h1);obtain⟨x2,e2,q2⟩:=r2.atN (j:=j) (by simpa using h2);exact(hi j x1 x2 e1 e2).at I (by simpa using q1) (by simpa using q2) (by show X.A.units+1+5<cLine;lia)
|@tup _ a b xs ys ha hb hl hi=>cases rx;cases ry;obtain⟨i1,r1,p1,_⟩:=I.tuple ha;obtain⟨i2,r2,p2,_⟩:=I.tuple hb;have l1:=r1.length;have l2:=r2.length;refine SeqAt.RcNeAt.tuples (e:=λ_=>true) (show s.heap.IsTuple a i1.toArray from p1) (show s.heap.IsTuple b i2.toArray from p2) (by lia) (λj h1 h2=>?_) _ _ _ _ ⟨.bl false,H,I,by rw[vK,cT,show(i1.toArray.size==i2.toArray.size)=true by simp;lia];rfl,q⟩;obtain⟨x1,e1,q1⟩:=r1.atN (j:=j) (by simpa using h1);obtain⟨x2,e2,q2⟩:=r2.atN (j:=j) (by simpa using h2);exact(hi j x1 x2 e1 e2).at I (by simpa using q1) (by simpa using q2) (by show X.A.units+1+5<cLine;lia))
end
end L2
namespace L2
open PySem
theorem q6K{K:PySem.W.Frag}{H:Hp}{n:Nat}{a b:Addr}{xs:List V}(ha:SqT K H a xs)(hb:SqT K H b xs)(f:∀x∈xs,vI x=true):Eqv K H (n+1) (.ref a) (.ref b):=.tup ha hb rfl λi x y hx hy=>by  have e:=kP (hx.symm.trans hy);subst e;exact .flat (f x (gH hx))
end L2
namespace L2
open PySem PySem.Spec PyProof.Rows
noncomputable def clOf(env:Env):List (Str×NameKind)→List (Str×Addr)→List (Str×Addr)
| [],cs=>cs
|(n,k)::r,cs=>clOf env r (if(k==NameKind.free)=true then(match env.cells.lookup n with|some a=>(n,a)::cs|none=>cs)else cs)
theorem q4U{scope:Scope}{env:Env}(h:∀y∈scope.names,y.2=.free→∃c,env.cells.lookup y.1=some c):closureFor scope env=pure (clOf env scope.names []):=by(
unfold closureFor
have go:∀(l:List (Str×NameKind)) (cs:List (Str×Addr)),(∀y∈l,y.2=.free→∃c,env.cells.lookup y.1=some c)→(forIn l cs λx r=>(match x with|(name,kind)=>if(kind==NameKind.free)=true then do let a←cellOf env name;pure (ForInStep.yield ((name,a)::r))else pure (ForInStep.yield r):Sem (ForInStep (List (Str×Addr)))))=pure (clOf env l cs):=by
 intro l;induction l with
 |nil=>intro cs _;rfl
 |cons y r ih=>
  intro cs hl;obtain⟨n,k⟩:=y;rw[nN];by_cases hk:(k==NameKind.free)=true
  ·obtain⟨c,e⟩:=hl (n,k) kU (by simpa using hk);have e2:cellOf env n=pure c:=by unfold cellOf;rw[e]
   show(bind (if(k==NameKind.free)=true then _ else _) _:Sem _)=_;rw[kJ hk,e2];show(forIn r ((n,c)::cs) _:Sem _)=pure (clOf env r (if(k==NameKind.free)=true then(match env.cells.lookup n with|some a=>(n,a)::cs|none=>cs)else cs));rw[kJ hk,e];exact ih _ λy hy=>hl y (hZ _ hy)
  show(bind (if(k==NameKind.free)=true then _ else _) _:Sem _)=_;rw[kI hk];show(forIn r cs _:Sem _)=pure (clOf env r (if(k==NameKind.free)=true then(match env.cells.lookup n with|some a=>(n,a)::cs|none=>cs)else cs));rw[kI hk];exact ih _ λy hy=>hl y (hZ _ hy)
exact(dS (λz:Sem (List (Str×Addr))=>z >>= λs=>pure s) (go scope.names [] h)).trans rfl)
theorem q4V{env:Env}{x:Str}{c:Addr}:∀(l:List (Str×NameKind)) (cs:List (Str×Addr)),(cs.lookup x=some c→env.cells.lookup x=some c)→(clOf env l cs).lookup x=some c→env.cells.lookup x=some c
| [],cs,hcs,h=>hcs h
|(n,k)::r,cs,hcs,h=>by
 refine q4V r _ ?_ h;intro q;split at q
 ·cases e:env.cells.lookup n with
  |none=>rw[e]at q;exact hcs q
  |some a=>
   rw[e]at q;have q:List.lookup x ((n,a)::cs)=some c:=q;rw[gX]at q;cases z:x==n with
   |true=>
    rw[z]at q;have z':x=n:=by simpa using z
    rw[z',e,←q]
   |false=>rw[z]at q;exact hcs q
 exact hcs q
theorem q4W{env:Env}{x:Str}{c:Addr}(e:env.cells.lookup x=some c):∀(l:List (Str×NameKind)) (cs:List (Str×Addr)),((x,NameKind.free)∈l∨cs.lookup x=some c)→(clOf env l cs).lookup x=some c
| [],cs,h=>h.resolve_left (by simp)
|(n,k)::r,cs,h=>by
 refine q4W e r _ ?_;by_cases hn:(x==n)=true
 ·have z':x=n:=by simpa using hn
  by_cases hk:(k==NameKind.free)=true
  ·refine .inr ?_;rw[kJ hk,←z',e];show List.lookup x ((x,c)::cs)=some c;simp
  rcases h with h|h
  ·rcases kR.mp h with q|q
   ·cases q;exact absurd (by simp) hk
   exact .inl q
  rw[kI hk];exact .inr h
 have nx:x≠n:=λz=>hn (by simp[z]);rcases h with h|h
 ·rcases kR.mp h with q|q
  ·cases q;exact absurd rfl nx
  exact .inl q
 refine .inr ?_;split
 ·cases en:env.cells.lookup n with
  |none=>exact h
  |some a=>
   show List.lookup x ((n,a)::cs)=some c;have hn:(x==n)=false:=by simpa using nx
   rw[gX,hn];exact h
 exact h
theorem q86{env:Env}{x:Str}:∀{names:List (Str×NameKind)},(∀y∈names,y.2≠ .cell)→((names.map λ(n,k)=>if(k==NameKind.free&&env.scope.kind== .function&&env.kindOf n==some .cell)then(n,NameKind.cell)else(n,k)).lookup x=some .cell∨(names.map λ(n,k)=>if(k==NameKind.free&&env.scope.kind== .function&&env.kindOf n==some .cell)then(n,NameKind.cell)else(n,k)).lookup x=some .free)→(x,NameKind.free)∈names
| [],_,h=>by simp at h
|(n,k)::r,hc,h=>by
 have ih:=@q86 env x r λy hy=>hc y (hZ _ hy);rw[mM]at h;by_cases hq:(k==NameKind.free&&env.scope.kind== .function&&env.kindOf n==some .cell)=true
 ·have hk:k=.free:=by rw[mH,mH]at hq;simpa using hq.1.1
  simp only[kJ hq,gX]at h;cases hx:x==n with
  |true=>
   have e:x=n:=by simpa using hx
   rw[e,hk];exact kU
  |false=>simp only[hx]at h;exact hZ _ (ih h)
 simp only[kI hq,gX]at h;cases hx:x==n with
 |true=>
  simp only[hx]at h;have e:x=n:=by simpa using hx
  rcases h with h|h
  ·cases h;exact absurd rfl (hc _ kU)
  cases h;rw[e];exact kU
 |false=>simp only[hx]at h;exact hZ _ (ih h)
theorem q87{env:Env}{x:Str}(hk:env.scope.kind=.function)(he:env.kindOf x=some .cell):∀{names:List (Str×NameKind)},names.lookup x=some .free→(names.map λ(n,k)=>if(k==NameKind.free&&env.scope.kind== .function&&env.kindOf n==some .cell)then(n,NameKind.cell)else(n,k)).lookup x=some .cell
| [],h=>by simp at h
|(n,k)::r,h=>by
 have ih:=@q87 env x hk he r;rw[mM];rw[gX]at h;cases hx:x==n with
 |true=>
  simp only[hx]at h;have e:x=n:=by simpa using hx
  cases h;subst e;show List.lookup x ((if(NameKind.free==NameKind.free&&env.scope.kind==ScopeKind.function&&env.kindOf x==some NameKind.cell)=true then(x,NameKind.cell)else(x,NameKind.free))::_)=_;rw[kJ (by rw[hk,he];rfl),gX];simp
 |false=>
  simp only[hx]at h;show List.lookup x ((if(k==NameKind.free&&env.scope.kind==ScopeKind.function&&env.kindOf n==some NameKind.cell)=true then(n,NameKind.cell)else(n,k))::_)=_;by_cases hq:(k==NameKind.free&&env.scope.kind== .function&&env.kindOf n==some .cell)=true
  ·rw[kJ hq,gX];simp only[hx];exact ih h
  rw[kI hq,gX];simp only[hx];exact ih h
noncomputable abbrev uV(X:Cx)(N:List Str)(scope:Scope)(C:Addr)(fp:List Addr)(s:Shared)(H:Hp)(xe:Value→Shared→Prop):Cx:={ X with N:=N,s₀:=s,H₀:=H,env:=compEnvC scope (clOf X.env scope.names []) C X.env,outer:=X.stack,ex:=fp,fn:=λ_=>false,xe:=xe }
noncomputable def pick(ix:List Nat)(σ:St):St:=ix.map λi=>σ.getD i none
noncomputable def q6L(XN:List Str)(kd:Str→Option NameKind)(names:List (Str×NameKind))(N:List Str)(ix:List Nat):Bool:=(List.range ix.length).all λj=>match N[j]?,ix[j]? with
 |some x,some i=>decide (XN[i]?=some x)&&decide (names.lookup x=some .free)&&decide (kd x=some .cell)
 |_,_=>false
theorem qC9{XN:List Str}{kd:Str→Option NameKind}{names:List (Str×NameKind)}{N:List Str}{ix:List Nat}(h:q6L XN kd names N ix=true){j:Nat}(hj:j<ix.length){x:Str}(hx:N[j]?=some x):
 ∃i,ix[j]?=some i∧XN[i]?=some x∧names.lookup x=some .free∧kd x=some .cell:=by(
unfold q6L at h
rw[gR]at h
have q:=h j (kW.mpr hj)
rw[hx,hX hj]at q
simp only[mH,k9]at q
exact⟨_,hX hj,q.1.1,q.1.2,q.2⟩)
theorem qDQ{X:Cx}{pins:List (Addr×Obj)}{σ:St}{H:Hp}{s:Shared}(I:Inv X pins σ H s){N:List Str}{ix:List Nat}{scope:Scope}{fp:List Addr}{xe:Value→Shared→Prop}(hf:∀b∈fp,FpOk X pins H b)(ho:∀b∈fp,∃o,s.heap.get? b=some o)
 (hk:scope.kind=.function) (hc:∀y∈scope.names,y.2≠ .cell) (hfr:∀y∈scope.names,y.2=.free→X.env.kindOf y.1=some .cell) (hcap:q6L X.N X.env.kindOf scope.names N ix=true) (hN:ix.length≤N.length) {h₁:Heap} {tk n:Nat} {m:Str→Option Value}
 (hn:h₁.Ns (s.heap.objs.size+1) m) (hkp:∀b u,s.heap.get? b=some u→h₁.get? b=some u) (hD:h₁.get? s.heap.objs.size=some { cls:=.type "list",data:=.seq ([]:List Value).toArray n }):
 Inv (uV X N scope (s.heap.objs.size+1) fp s H xe) [] (pick ix σ++List.replicate (N.length-ix.length) none) (upd H s.heap.objs.size (.lst [])) { s with heap:=h₁,toks:=tk }:=by(
have fresh:H s.heap.objs.size=none:=I.hok.fresh (kH _)
have fresh1:H (s.heap.objs.size+1)=none:=I.hok.fresh (dW _)
have cel:∀x c,(clOf X.env scope.names []).lookup x=some c→X.env.cells.lookup x=some c:=λx c e=>q4V _ _ (by intro q;simp at q) e
have clt:∀x c,(clOf X.env scope.names []).lookup x=some c→c<s.heap.objs.size:=λx c e=>by obtain⟨v,q⟩:=I.cell x c (cel x c e);exact q.lt
refine⟨⟨I.ok.mod,hk,I.ok.glob,I.ok.blt,dW _,λx y c h1 h2=>I.ok.inj x y c (cel x c h1) (cel y c h2),λx hx=>?_,λx c h=>absurd h kL,I.ok.hd,I.ok.frames,.inl rfl,λb hb=>⟨?_,λx c e=>?_⟩,I.bs,mI I.ok.bsz I.sz,λb o e hb=>?_,λb hb z=>?_,I.stack,I.stkFree⟩,rfl,I.bare,Un.laid hkp (kH _) fresh,⟨m,hn,λi x v e1 e2 e3=>?_⟩,λx c e=>?_,?_,λx c e=>?_,λp hp=>?_,I.hok.laid hkp (kH _) ⟨by simp,[],n,.nil,hD⟩,?_⟩
·have hx:(x,NameKind.free)∈scope.names:=q86 hc hx;obtain⟨c,e⟩:=I.ok.has x (.inl (hfr _ hx rfl));exact⟨c,q4W e _ _ (.inl hx)⟩
·obtain⟨o,e⟩:=ho b hb;exact mF (rK (kM e))
·exact(hf b hb).2.2.2.2.1 x c (cel x c e)
·rcases(hf b hb).2.2.2.1 with z|z
 ·exact I.ok.noex b o e z
 exact absurd (kZ (kM e) (mI I.ok.bsz z)) (gS _)
·rcases kR.mp (I.stkSub b z)with z|z
 ·exact(hf b hb).2.1 z
 exact(hf b hb).2.2.1 z
·have hi:i<ix.length:=by
  by_cases hi:i<ix.length
  ·exact hi
  rw[gT (by simpa[pick]using hi),g0]at e2;split at e2<;>cases e2
 obtain⟨i0,q1,q2,q3,q4⟩:=qC9 hcap hi e1;rw[dP (by simpa[pick]using hi)]at e2;have e2:σ[i0]?=some (some v):=by
  unfold pick at e2;rw[mC,q1]at e2;have e2:σ.getD i0 none=some v:=kP e2;rw[kO]at e2;cases z:σ[i0]? with
  |none=>rw[z]at e2;cases e2
  |some y=>rw[z]at e2;exact dS some e2
 obtain⟨mX,_,lX⟩:=I.loc;obtain⟨u,r,l⟩:=lX i0 x v q2 e2 (.inr (.inl q4));refine⟨u,r,.inr ⟨.inl (q87 I.ok.kind q4 q3),?_⟩⟩;rcases l with⟨l,_⟩|⟨_,c,e,z⟩
 ·rw[q4]at l;cases l
 obtain⟨o,e',d⟩:=z;exact⟨c,q4W e _ _ (.inl (mU q3)),o,hkp _ _ e',d⟩
·obtain⟨v,o,e',d⟩:=I.cell x c (cel x c e);exact⟨v,o,hkp _ _ e',d⟩
·show upd H s.heap.objs.size (.lst []) (s.heap.objs.size+1)=none;rw[qC (d0 (gO _))];exact fresh1
·rw[qC (mF (clt x c e))];exact I.freeC x c (cel x c e)
·obtain⟨p1,p2,p3,p4,p5⟩:=I.pin p (mD _ (by simpa using hp));have lt:=kM p1;exact⟨hkp _ _ p1,by rw[qC (mF lt)];exact p2,mF (rK lt),λz=>(kR.mp (I.stkSub _ z)).elim p3 p4,p5⟩
show _=N.length
rw[mP,mT]
simp only[pick,hV]
lia)
noncomputable def PIf(X:Cx)(ifs:List Expr)(t:TT):Prop:=∀(pins:List (Addr×Obj)) (s:Shared) (σ:St) (H:Hp) (Q:Bool→Hp→Prop),Inv X pins σ H s→t σ H Q→wpAny (model X.prog X.w) X.A (forIn ifs true λc r=>if r=true then do let ok←isTrue c X.env (eval c X.env);pure (ForInStep.yield ok)else pure (ForInStep.yield r)) (TP X pins σ Q) X.xe s
noncomputable def q0F:TT:=λ_ H Q=>Q true H
theorem q88{A B:Hp→Prop}{σ:St}{H:Hp}(h:A H):q0F σ H (λb H6=>if b=true then A H6 else B H6):=by show if true=true then A H else B H;rw[kJ rfl];exact h
theorem yX{X:Cx}:PIf X [] q0F:=λpins s σ H Q I h=>kX ⟨H,I,h⟩
theorem q49{X:Cx}{c:Expr}{t:TT}(hc:PT X c t):PIf X [c] t:=λpins s σ H Q I h=>by(
rw[nN]
show wpAny _ _ (bind (if true=true then _ else _) _) _ _ _
rw[kJ rfl]
refine kG (kG (thn (hc pins s σ H Q I h) λb s1 q=>?_))
exact kX (kX q))
noncomputable def tLC(wi:TI)(g:TG)(tc:TT)(te:TE)(ix:List Nat)(k:Nat):TE:=λσ H Q=>wi σ H λJ H1=>∀D H2,H1 D=none→Same H1 H2→H2 D=some (.lst [])→∃W:Nat→Nat→Hp→Prop,(∃m,W 0 m H2)∧∀i m H3,W i m H3→(J.stop i H3∧Q (.ref D) H3)∨(J.go i H3∧∃N:Hp→Prop,(∀H',N H'→∃m',m'<m∧W (i+1) m' H')∧∀x H4,J.yld i H3 x H4→g x (pick ix σ++List.replicate k none) H4 λσ5 H5=>tc σ5 H5 λb H6=>
   if b=true then te σ5 H6 (λv H7=>∃vs,H7 D=some (.lst vs)∧vs.length<sizeLine∧N (upd H7 D (.lst (vs++[v]))))else N H6)
noncomputable def Own(g:TG)(k:Nat):Prop:=∀x σ H Q,g x σ H Q→g x σ H λσ' H'=>Q σ' H'∧σ'.length=σ.length∧∀j,j<k→σ'[j]?=σ[j]?
noncomputable def OwnS(g:TGs)(k:Nat):Prop:=∀(xs:List V) (σ:St) (H:Hp) (Q:St→Hp→Prop) (σ0:St),σ.length=σ0.length→(∀j,j<k→σ[j]?=σ0[j]?)→g xs σ H Q→g xs σ H λσ' H'=>Q σ' H'∧σ'.length=σ0.length∧∀j,j<k→σ'[j]?=σ0[j]?
theorem qDR{k:Nat}:OwnS gNil k:=λxs σ H Q σ0 h1 h2 ⟨e,q⟩=>⟨e,q,h1,h2⟩
theorem q89{i k:Nat}{u:TGs}(h:k≤i)(hu:OwnS u k):OwnS (qEN (vT i) u) k:=λxs σ H Q σ0 h1 h2 ⟨v,r,e,q⟩=>⟨v,r,e,hu r (σ.set i (some v)) H Q σ0 (m7.trans h1) (λj hj=>by rw[dR (by lia)];exact h2 j hj) q⟩
theorem qDS{K:PySem.W.Frag}{n k:Nat}{g:TGs}(h:OwnS g k):Own (gTup K n g) k:=λx σ H Q ⟨a,xs,e1,e2,e3,q⟩=>⟨a,xs,e1,e2,e3,h xs σ H Q σ rfl (λ_ _=>rfl) q⟩
theorem y3{i k:Nat}(h:k≤i):Own (vT i) k:=λx σ H Q q=>⟨q,m7,λj hj=>by rw[dR (by lia)]⟩
theorem qDT{P:Program}{w:World}{A:Around}{R:Result→Shared→Prop}{s:Shared}{elt tg iter:Expr}{ifs:List Expr}{sc:Scope}{pos:Pos}{it acc:Value}{env:Env}(J:Nat→Shared→Prop)
 (turn:∀n s1,J n s1→wpAny (model P w) A (pyNext it) (λr s2=>match r with
  |none=>R (.ok .next) s2
  |some v=>wpAny (model P w) A (letOwnedTupleGo tg it v) (λ_ s3=>wpAny (model P w) A (assign tg env v) (λ_ s4=>
   wpAny (model P w) A (forIn ifs true λc r=>if r=true then do let ok←isTrue c env (eval c env);pure (ForInStep.yield ok)else pure (ForInStep.yield r)) (λok s5=>
    if ok=true then wpAny (model P w) A (eval elt env) (λx s6=>wpAny (model P w) A (call (.builtin "list.append") [acc,x]) (λ_ s7=>∃m,m<n∧J m s7) (notedBy (model P w) A env λe s'=>R (.error e) s') s6) (notedBy (model P w) A env λe s'=>R (.error e) s') s5
    else ∃m,m<n∧J m s5) (notedBy (model P w) A env λe s'=>R (.error e) s') s4) (notedBy (model P w) A env λe s'=>R (.error e) s') s3) (notedBy (model P w) A env λe s'=>R (.error e) s') s2) (notedBy (model P w) A env λe s'=>R (.error e) s') s1)
 (n:Nat) (h:J n s):codeAny (model P w) A (.compLoop (.ListComp elt [⟨tg,iter,ifs,0⟩] sc pos) 0 it acc env) R s:=by(
refine codeAny_loop rfl J (λm s1 hJ=>?_) n h
show wpAny _ A ((compTurn _ 0 it acc env).onRaise (λx=>do noteFrame x env;theTreesLotGoes x)) _ _ s1
refine wpAny_noted ?_
rw[compTurn_list]
refine kG (cS (kG (thn (turn m s1 hJ) λr s2 h2=>?_)))
cases r with
|none=>exact kX h2
|some v=>
 refine kG (thn h2 λ_ s3 h3=>kG (thn h3 λ_ s4 h4=>kG (thn h4 λok s5 h5=>?_)));cases ok with
 |false=>exact kX ⟨rfl,h5⟩
 |true=>exact kG (kG (thn h5 λx s6 h6=>kG (thn h6 λ_ s7 h7=>kX (kX ⟨rfl,h7⟩)))))
structure TurnC(ok:Cx→Prop)(P:Program)(w:World)(K:PySem.W.Frag)(tg:Expr)(J:It)(fp:List Addr)(it:Addr)(tn:Nat→Heap→Prop):Prop where
obj:∀i h,tn i h→∀b∈fp,∃o,h.get? b=some o∧∀v,o.data≠ .cell v
keep:∀i h h',tn i h→(∀b∈fp,∀o,h.get? b=some o→h'.get? b=some o)→tn i h'
item:∀(X:Cx),X.prog=P→X.w=w→X.K=K→ok X→∀(i:Nat) (pins:List (Addr×Obj)) (s:Shared) (σ:St) (H:Hp) (E:Value→Shared→Prop),Inv X pins σ H s→(∀b∈fp,FpOk X pins H b)→tn i s.heap→J.go i H→wpAny (model P w) X.A (pyNext (.ref it)) (λr s1=>∃u,r=some u∧wpAny (model P w) X.A (letOwnedTupleGo tg (.ref it) u) (λ_ s2=>∃x H',Inv X pins σ H' s2∧RelV x u∧J.yld i H x H'∧tn (i+1) s2.heap∧∀b∈fp,H' b=none) E s1) E s
done:∀(X:Cx),X.prog=P→X.w=w→X.K=K→ok X→∀(i:Nat) (pins:List (Addr×Obj)) (s:Shared) (σ:St) (H:Hp) (E:Value→Shared→Prop),Inv X pins σ H s→(∀b∈fp,FpOk X pins H b)→tn i s.heap→J.stop i H→wpAny (model P w) X.A (pyNext (.ref it)) (λr s1=>r=none∧Inv X pins σ H s1) E s
self:∀(A:Around) (i:Nat) (s:Shared) (Q:Value→Shared→Prop) (E:Value→Shared→Prop),tn i s.heap→Q (.ref it) s→wpAny (model P w) A (pyIter (.ref it)) Q E s
noncomputable def PIc(ok:Cx→Prop)(X:Cx)(tg iter:Expr)(wi:TI):Prop:=∀(pins:List (Addr×Obj)) (s:Shared) (σ:St) (H:Hp) (R:It→Hp→Prop),Inv X pins σ H s→wi σ H R→wpAny (model X.prog X.w) X.A (eval iter X.env) (λv s1=>wpAny (model X.prog X.w) X.A (pyIter v) (λitv s2=>∃(it:Addr) (fp:List Addr) (tn:Nat→Heap→Prop) (J:It) (H':Hp),itv=.ref it∧Inv X pins σ H' s2∧TurnC ok X.prog X.w X.K tg J fp it tn∧tn 0 s2.heap∧(∀b∈fp,FpOk X pins H' b)∧R J H') X.xe s1) X.xe s
theorem PI.c{X:Cx}{tg iter:Expr}{wi:TI}(h:PI X tg iter wi):PIc (λX=>X.calm=true) X tg iter wi:=λpins s σ H R I q=>thn (h pins s σ H R I q) λv s1 h1=>thn h1 λitv s2 ⟨it,fp,tn,J,H',a,b,T,r⟩=>⟨it,fp,tn,J,H',a,b,⟨T.obj,T.keep,T.item,T.done,T.self⟩,r⟩
theorem qA0{X:Cx}{elt iter tg:Expr}{ifs:List Expr}{scope:Scope}{pos cp:Pos}{wi:TI}{g:TG}{tc:TT}{te:TE}{use:Option (Value→Sem Unit)}{QQ:Value→Shared→Prop}{pins:List (Addr×Obj)}{s:Shared}{σ:St}{H:Hp}{Q:VK}(N:List Str)(ix:List Nat)(ok:Cx→Prop)(hok:∀C fp s H xe,ok (uV X N scope C fp s H xe))(hi:PIc ok X tg iter wi)
 (hg:∀C fp s H xe,PG (uV X N scope C fp s H xe) tg g) (hif:∀C fp s H xe,PIf (uV X N scope C fp s H xe) ifs tc) (he:∀C fp s H xe,PE (uV X N scope C fp s H xe) elt te)
 (hk:scope.kind=.function) (hc:∀y∈scope.names,y.2≠ .cell) (hfr:∀y∈scope.names,y.2=.free→X.env.kindOf y.1=some .cell) (hcap:q6L X.N X.env.kindOf scope.names N ix=true) (hN:ix.length≤N.length)
 (hnames:∀x∈scope.names,x.2=.local→scope.names.lookup x.1=some .local) (hown:Own g ix.length) (I:Inv X pins σ H s) (h:tLC wi g tc te ix (N.length-ix.length) σ H Q)
 (hfin:∀(C D:Addr) (H':Hp) (s':Shared) (m:Str→Option Value),s'.heap.Ns C m→FpOk X pins H' C→(∀h',Heap.SameBut C s'.heap h'→Inv X pins σ H' { s' with heap:=h' })→Q (.ref D) H'→compPost (model X.prog X.w) X.A X.xe use QQ (.ref D) C (.ok .next) s')
 (hs:∀x,foldedSetIterable iter X.env x=pure x:=by intro _;rfl):
 wpAny (model X.prog X.w) X.A (comprehension (.ListComp elt [⟨tg,iter,ifs,0⟩] scope pos) scope X.env cp (newList []) false (eval iter X.env) use) QQ X.xe s:=by(
refine wpAny_comprehension_free (use:=use) (cl:=clOf X.env scope.names []) rfl hs (q4U λy hy hyf=>I.ok.has _ (.inl (hfr y hy hyf))) hk hnames (thn (hi pins s σ H _ I h) λv s1 h1=>thn h1 λitv s2 h2=>?_)
obtain⟨it,fp,tn,J,H2,e,I2,T,st2,f2,q2⟩:=h2
subst e
refine sV (pQ hc (by intro y hy;simp at hy) (λh₁ hns₁ hsb₁=>?_) hk)
dsimp only at hns₁ hsb₁ ⊢
rw[rL]at hns₁ hsb₁ ⊢
have old:∀b o,s2.heap.get? b=some o→h₁.get? b=some o:=λb o e=>hsb₁.extBut b o (mF (rK (kM e))) (hU _ (hU _ e))
have hacc:h₁.get? s2.heap.objs.size=some { cls:=.type "list",data:=.seq ([]:List Value).toArray }:=hsb₁.extBut _ _ (mF (gO _)) (hU _ (kY _ rfl))
have fob:∀b∈fp,∃o,s2.heap.get? b=some o:=λb hb=>let⟨o,e,_⟩:=T.obj _ _ st2 b hb;⟨o,e⟩
have fresh:H2 s2.heap.objs.size=none:=I2.hok.fresh (kH _)
obtain⟨W,⟨m0,w0⟩,turn⟩:=q2 s2.heap.objs.size (upd H2 s2.heap.objs.size (.lst [])) fresh (Same.upd fresh) qH
have fin:∀{pY σ' H' s'},Inv (uV X N scope (s2.heap.objs.size+1) fp s2 H2 (notedBy (model X.prog X.w) X.A (compEnvC scope (clOf X.env scope.names []) (s2.heap.objs.size+1) X.env) λe s'=>compPost (model X.prog X.w) X.A X.xe use QQ (.ref s2.heap.objs.size) (s2.heap.objs.size+1) (.error e) s')) pY σ' H' s'→Q (.ref s2.heap.objs.size) H'→compPost (model X.prog X.w) X.A X.xe use QQ (.ref s2.heap.objs.size) (s2.heap.objs.size+1) (.ok .next) s':=fun {pY σ' H' s'} J q=>by
 obtain⟨m,hm,_⟩:=id J.loc;refine hfin (s2.heap.objs.size+1) s2.heap.objs.size H' s' m hm (I2.fpOk (dW _) J.free) (λh' sb=>?_) q;have eb:∀b o,b≠s2.heap.objs.size+1→s'.heap.get? b=some o→h'.get? b=some o:=λb o nb e=>sb.extBut b o nb e;have low:∀b o,s2.heap.get? b=some o→b≠s2.heap.objs.size+1:=λb o e=>mF (rK (kM e));have u:=J.base;have nC:H' (s2.heap.objs.size+1)=none:=J.free;refine I2.call' (ch:=fp) (s':={ s' with heap:=h' }) J.os ⟨λb o e n1 n2 n3=>eb b o (low b o e) (u.keep b o e n1 n2 n3),λb o e n1 n2 n3=>?_,u.free,λb o e n1=>?_,u.tups,u.frzs,u.tbls⟩ (λb o e=>?_) J.bare λb hb=>⟨(f2 b hb).2.2.2.1,(f2 b hb).2.1,(f2 b hb).2.2.2.2.1,(f2 b hb).2.2.2.2.2⟩
 ·obtain⟨sl,q1⟩:=u.slot b o e n1 n2 n3;exact⟨sl,eb b _ (low b o e) q1⟩
 ·obtain⟨o',q1⟩:=u.there b o e n1;exact⟨o',eb b _ (low b o e) q1⟩
 refine(J.hok b o e).stay (λc v hc q1=>eb c v ?_ q1) (λ_ q1=>q1) λ_ _ q1=>q1;rcases hc with rfl|z
 ·exact qF e nC
 exact qF z nC
have IY:Inv (uV X N scope (s2.heap.objs.size+1) fp s2 H2 (notedBy (model X.prog X.w) X.A (compEnvC scope (clOf X.env scope.names []) (s2.heap.objs.size+1) X.env) λe s'=>compPost (model X.prog X.w) X.A X.xe use QQ (.ref s2.heap.objs.size) (s2.heap.objs.size+1) (.error e) s')) [] (pick ix σ++List.replicate (N.length-ix.length) none) (upd H2 s2.heap.objs.size (.lst [])) { s2 with heap:=h₁,toks:=s2.toks+([]:List (Str×Value)).length }:=qDQ I2 f2 fob hk hc hfr hcap hN hns₁ old hacc
generalize hY:uV X N scope (s2.heap.objs.size+1) fp s2 H2 (notedBy (model X.prog X.w) X.A (compEnvC scope (clOf X.env scope.names []) (s2.heap.objs.size+1) X.env) λe s'=>compPost (model X.prog X.w) X.A X.xe use QQ (.ref s2.heap.objs.size) (s2.heap.objs.size+1) (.error e) s')=Y at IY fin
have hgY:PG Y tg g:=hY▸hg _ _ _ _ _
have hifY:PIf Y ifs tc:=hY▸hif _ _ _ _ _
have heY:PE Y elt te:=hY▸he _ _ _ _ _
have hP:Y.prog=X.prog:=by rw[←hY]
have hw:Y.w=X.w:=by rw[←hY]
have hK:Y.K=X.K:=by rw[←hY]
have hcl:ok Y:=hY▸hok _ _ _ _ _
have stat:∀{H':Hp},(∀b∈fp,H' b=none)→∀b∈fp,FpOk Y [] H' b:=fun {H'} hn b hb=>by
 rw[←hY];refine⟨hn b hb,?_,λz=>?_,.inl hb,λx c e=>?_,λp hp=>(f2 b hb).2.2.2.2.2 p (mD _ (by simpa using hp))⟩
 ·obtain⟨o,e⟩:=fob b hb;exact mF (rK (kM e))
 ·rcases kR.mp (I2.stkSub b z)with z|z
  ·exact(f2 b hb).2.1 z
  exact(f2 b hb).2.2.1 z
 exact(f2 b hb).2.2.2.2.1 x c (q4V _ _ (by intro q;simp at q) e)
have loop:codeAny (model X.prog X.w) X.A (.compLoop (.ListComp elt [⟨tg,iter,ifs,0⟩] scope pos) 0 (.ref it) (.ref s2.heap.objs.size) (compEnvC scope (clOf X.env scope.names []) (s2.heap.objs.size+1) X.env))
 (compPost (model X.prog X.w) X.A X.xe use QQ (.ref s2.heap.objs.size) (s2.heap.objs.size+1)) { s2 with heap:=h₁,toks:=s2.toks+([]:List (Str×Value)).length }:=by
 refine qDT (λn s'=>∃i H',Inv Y [] (pick ix σ++List.replicate (N.length-ix.length) none) H' s'∧tn i s'.heap∧(∀b∈fp,H' b=none)∧W i n H') ?_ m0
  ⟨0,_,IY,T.keep _ _ _ st2 (λb hb o e=>old b o e),λb hb=>by obtain⟨o,e⟩:=fob b hb;rw[qC (mF (kM e))];exact(f2 b hb).1,w0⟩
 rintro n s3 ⟨i,H3,I3,st3,fr3,w3⟩
 rcases turn i n H3 w3 with⟨stop,qn⟩|⟨go,NN,hNN,step⟩
 ·have d:=T.done Y hP hw hK hcl i [] s3 _ H3 Y.xe I3 (stat fr3) st3 stop;subst hY;refine thn d λr s4 hZ=>?_;obtain⟨hr,I4⟩:=hZ;subst hr;exact fin I4 qn
 have d:=T.item Y hP hw hK hcl i [] s3 _ H3 Y.xe I3 (stat fr3) st3 go;have again:∀{p5:List (Addr×Obj)} {s5 s8:Shared} {σ6:St} {H8:Hp},p5=q4I fp s5.heap→tn (i+1) s5.heap→σ6.length=(pick ix σ++List.replicate (N.length-ix.length) none).length→(∀j,j<ix.length→σ6[j]?=(pick ix σ++List.replicate (N.length-ix.length) none)[j]?)→Inv Y ([]++p5) σ6 H8 s8→NN H8→∃m',m'<n∧∃i H',Inv Y [] (pick ix σ++List.replicate (N.length-ix.length) none) H' s8∧tn i s8.heap∧(∀b∈fp,H' b=none)∧W i m' H':=fun {p5 s5 s8 σ6 H8} e5 st5 l6 k6 I8 q8=>by
  subst e5;obtain⟨m',hm,w8⟩:=hNN _ q8;refine⟨m',hm,i+1,H8,I8.unpinned.weak l6.symm (λj v e=>?_),T.keep _ _ _ st5 λb hb o e=>(I8.pin (b,o) (kN _ (kN _ (uJ hb e)))).1,λb hb=>?_,w8⟩
  ·by_cases hj:j<ix.length
   ·rw[k6 j hj];exact e
   rw[gT (by simpa[pick]using hj),g0]at e;split at e<;>cases e
  obtain⟨o,e,_⟩:=T.obj _ _ st5 b hb;exact(I8.pin (b,o) (kN _ (kN _ (uJ hb e)))).2.1
 have tail:∀(r:Option Value) (s4:Shared),(∃u,r=some u∧wpAny (model Y.prog Y.w) Y.A (letOwnedTupleGo tg (.ref it) u) (λ_ s2=>∃x H',Inv Y [] (pick ix σ++List.replicate (N.length-ix.length) none) H' s2∧RelV x u∧J.yld i H3 x H'∧tn (i+1) s2.heap∧∀b∈fp,H' b=none) Y.xe s4)→(match r with
  |none=>compPost (model X.prog X.w) X.A X.xe use QQ (.ref s2.heap.objs.size) (s2.heap.objs.size+1) (.ok .next) s4
  |some v=>wpAny (model Y.prog Y.w) Y.A (letOwnedTupleGo tg (.ref it) v) (λ_ s₁=>wpAny (model Y.prog Y.w) Y.A (assign tg Y.env v) (λ_ s₂=>
   wpAny (model Y.prog Y.w) Y.A (forIn ifs true λc r=>if r=true then do let ok←isTrue c Y.env (eval c Y.env);pure (ForInStep.yield ok)else pure (ForInStep.yield r)) (λok s₃=>
    if ok=true then wpAny (model Y.prog Y.w) Y.A (eval elt Y.env) (λx s₄=>wpAny (model Y.prog Y.w) Y.A (call (.builtin "list.append") [.ref s2.heap.objs.size,x]) (λ_ s₅=>∃m,m<n∧∃i H',Inv Y [] (pick ix σ++List.replicate (N.length-ix.length) none) H' s₅∧tn i s₅.heap∧(∀b∈fp,H' b=none)∧W i m H') Y.xe s₄) Y.xe s₃
    else ∃m,m<n∧∃i H',Inv Y [] (pick ix σ++List.replicate (N.length-ix.length) none) H' s₃∧tn i s₃.heap∧(∀b∈fp,H' b=none)∧W i m H') Y.xe s₂) Y.xe s₁) Y.xe s4):=by
  rintro r s4 ⟨u,rfl,h4⟩
  dsimp only;refine thn h4 λ_ s5 hZ=>?_;obtain⟨x,H5,I5,r5,y5,st5,fr5⟩:=hZ;have I5':=I5.pinned (stat fr5) (T.obj _ _ st5);refine thn (hgY _ s5 _ H5 x u _ I5' r5 (hown _ _ _ _ (step x H5 y5))) λ_ s6 hZ=>?_;obtain⟨σ6,H6,I6,q6,l6,k6⟩:=hZ;refine thn (hifY _ s6 σ6 H6 _ I6 q6) λb s7 hZ=>?_;obtain⟨H7,I7,q7⟩:=hZ;cases b with
  |false=>rw[kI (by decide)]at q7 ⊢;exact again rfl st5 l6 k6 I7 q7
  |true=>rw[kJ rfl]at q7 ⊢;refine thn (heY _ s7 σ6 H7 _ I7 q7) λy s8 hZ=>?_;obtain⟨v,H8,I8,r8,vs,e8,hz,q8⟩:=hZ;refine thn (u9 (X:=Y) _ s8 σ6 H8 (.ref s2.heap.objs.size) [v] (.ref s2.heap.objs.size) [y] (λ_ H9=>NN H9) I8 rfl (.cons r8 .nil) ⟨s2.heap.objs.size,vs,v,rfl,rfl,e8,hz,q8⟩) λ_ s9 hZ=>?_;obtain⟨_,H9,I9,_,q9⟩:=hZ;exact again rfl st5 l6 k6 I9 q9
 subst hY;exact thn d tail
exact codeAny_compStart_list loop (T.self X.A 0 _ _ _ (T.keep _ _ _ st2 λb hb o e=>old b o e) loop))
theorem qHK{X:Cx}{elt iter tg:Expr}{ifs:List Expr}{scope:Scope}{pos:Pos}{wi:TI}{g:TG}{tc:TT}{te:TE}(N:List Str)(ix:List Nat)(hcalm:X.calm=true)(hi:PI X tg iter wi)
 (hg:∀C fp s H xe,PG (uV X N scope C fp s H xe) tg g) (hif:∀C fp s H xe,PIf (uV X N scope C fp s H xe) ifs tc) (he:∀C fp s H xe,PE (uV X N scope C fp s H xe) elt te)
 (hk:scope.kind=.function) (hc:∀y∈scope.names,y.2≠ .cell) (hfr:∀y∈scope.names,y.2=.free→X.env.kindOf y.1=some .cell) (hcap:q6L X.N X.env.kindOf scope.names N ix=true) (hN:ix.length≤N.length)
 (hnames:∀x∈scope.names,x.2=.local→scope.names.lookup x.1=some .local) (hown:Own g ix.length) (hs:∀x,foldedSetIterable iter X.env x=pure x:=by intro _;rfl):
 PE X (.ListComp elt [⟨tg,iter,ifs,0⟩] scope pos) (tLC wi g tc te ix (N.length-ix.length)):=by intro pins s σ H Q I h;rw[eval_ListComp];exact qA0 N ix _ (λ_ _ _ _ _=>hcalm) hi.c hg hif he hk hc hfr hcap hN hnames hown I h (λC D H' s' m hm fok inv q=>⟨m,hm,λh' sb=>⟨.ref D,H',inv h' sb,rfl,q⟩⟩) hs
noncomputable def qA1(XN:List Str)(kd:Str→Option NameKind)(sc:Scope)(N:List Str)(ix:List Nat):Bool:=decide (sc.kind=.function)&&sc.names.all (λy=>decide (y.2≠ .cell)&&(decide (y.2≠ .free)||decide (kd y.1=some .cell))&&(decide (y.2≠ .local)||decide (sc.names.lookup y.1=some .local)))&&q6L XN kd sc.names N ix&&decide (ix.length≤N.length)
theorem yY{X:Cx}{elt iter tg:Expr}{ifs:List Expr}{scope:Scope}{pos:Pos}{wi:TI}{g:TG}{tc:TT}{te:TE}(N:List Str)(ix:List Nat)(hcalm:X.calm=true)(hi:PI X tg iter wi)
 (hg:∀C fp s H xe,PG (uV X N scope C fp s H xe) tg g) (hif:∀C fp s H xe,PIf (uV X N scope C fp s H xe) ifs tc) (he:∀C fp s H xe,PE (uV X N scope C fp s H xe) elt te)
 (ok:qA1 X.N X.env.kindOf scope N ix=true) (hown:Own g ix.length) (hs:∀x,foldedSetIterable iter X.env x=pure x:=by intro _;rfl):
 PE X (.ListComp elt [⟨tg,iter,ifs,0⟩] scope pos) (tLC wi g tc te ix (N.length-ix.length)):=by(
unfold qA1 at ok
rw[mH,mH,mH,gR]at ok
obtain⟨⟨⟨h1,h2⟩,h3⟩,h4⟩:=ok
have h2':∀y∈scope.names,y.2≠ .cell∧(y.2≠ .free∨X.env.kindOf y.1=some .cell)∧(y.2≠ .local∨scope.names.lookup y.1=some .local):=λy hy=>by have q:=h2 y hy;rw[mH,mH,rE,rE,k9,k9,k9,k9,k9]at q;exact⟨q.1.1,q.1.2,q.2⟩
exact qHK N ix hcalm hi hg hif he (gL h1) (λy hy=>(h2' y hy).1) (λy hy e=>(h2' y hy).2.1.resolve_left (λz=>z e)) h3 (gL h4) (λy hy e=>(h2' y hy).2.2.resolve_left (λz=>z e)) hown hs)
theorem q8A{lo:Int}{n:Nat}{D:Addr}{H2:Hp}{g:TG}{tc:TT}{te:TE}{σ0:St}{Q:VK}(Pv:Nat→Hp→Prop)(h0:Pv 0 H2)
 (hs:∀(i:Nat) H,i<n→Pv i H→g (.int (lo+i)) σ0 H λσ5 H5=>tc σ5 H5 λb H6=>if b=true then te σ5 H6 (λv H7=>∃vs,H7 D=some (.lst vs)∧vs.length<sizeLine∧Pv (i+1) (upd H7 D (.lst (vs++[v]))))else Pv (i+1) H6) (hd:∀H,Pv n H→Q (.ref D) H):
 ∃W:Nat→Nat→Hp→Prop,(∃m,W 0 m H2)∧∀i m H3,W i m H3→((Itr lo n).stop i H3∧Q (.ref D) H3)∨((Itr lo n).go i H3∧∃N:Hp→Prop,(∀H',N H'→∃m',m'<m∧W (i+1) m' H')∧∀x H4,(Itr lo n).yld i H3 x H4→g x σ0 H4 λσ5 H5=>tc σ5 H5 λb H6=>
   if b=true then te σ5 H6 (λv H7=>∃vs,H7 D=some (.lst vs)∧vs.length<sizeLine∧N (upd H7 D (.lst (vs++[v]))))else N H6):=by(
refine⟨λi m H=>m=n-i∧i≤n∧Pv i H,⟨n,by simp,mJ _,h0⟩,?_⟩
rintro i m H ⟨rfl,hi,p⟩
by_cases hlt:i<n
·refine .inr ⟨hlt,Pv (i+1),λH' z=>⟨n-(i+1),by lia,rfl,by lia,z⟩,?_⟩;rintro x H4 ⟨rfl,rfl⟩
 exact hs i _ hlt p
obtain rfl:i=n:=by lia
exact .inl ⟨kH _,hd _ p⟩)
theorem qA2{K:PySem.W.Frag}{a:Addr}{xs:List V}{D:Addr}{H2:Hp}{g:TG}{tc:TT}{te:TE}{σ0:St}{Q:VK}(Pv:Nat→Hp→Prop)(h0:Pv 0 H2)(hl:∀i H,Pv i H→SqL K H a xs)
 (hs:∀(i:Nat) x H,xs[i]?=some x→Pv i H→g x σ0 H λσ5 H5=>tc σ5 H5 λb H6=>if b=true then te σ5 H6 (λv H7=>∃vs,H7 D=some (.lst vs)∧vs.length<sizeLine∧Pv (i+1) (upd H7 D (.lst (vs++[v]))))else Pv (i+1) H6) (hd:∀H,Pv xs.length H→Q (.ref D) H):
 ∃W:Nat→Nat→Hp→Prop,(∃m,W 0 m H2)∧∀i m H3,W i m H3→((Itl K a).stop i H3∧Q (.ref D) H3)∨((Itl K a).go i H3∧∃N:Hp→Prop,(∀H',N H'→∃m',m'<m∧W (i+1) m' H')∧∀x H4,(Itl K a).yld i H3 x H4→g x σ0 H4 λσ5 H5=>tc σ5 H5 λb H6=>
   if b=true then te σ5 H6 (λv H7=>∃vs,H7 D=some (.lst vs)∧vs.length<sizeLine∧N (upd H7 D (.lst (vs++[v]))))else N H6):=by(
refine⟨λi m H=>m=xs.length-i∧i≤xs.length∧Pv i H,⟨xs.length,by simp,mJ _,h0⟩,?_⟩
rintro i m H ⟨rfl,hi,p⟩
have hq:=hl i H p
by_cases hlt:i<xs.length
·have e1:xs[i]?=some xs[i]:=hX hlt;refine .inr ⟨⟨xs,_,hq,e1⟩,Pv (i+1),λH' z=>⟨xs.length-(i+1),by lia,rfl,by lia,z⟩,?_⟩;rintro x H4 ⟨rfl,hx⟩
 exact hs i x _ (hx xs hq) p
obtain rfl:i=xs.length:=by lia
exact .inl ⟨⟨xs,hq,kH _⟩,hd _ p⟩)
theorem qAU{lo:Int}{n k:Nat}{D:Addr}{H2:Hp}{te:TE}{σ0:St}{Q:VK}(Pv:Nat→Hp→Prop)(h0:Pv 0 H2)
 (hs:∀(i:Nat) H,i<n→Pv i H→te (σ0.set k (some (.int (lo+i)))) H (λv H7=>∃vs,H7 D=some (.lst vs)∧vs.length<sizeLine∧Pv (i+1) (upd H7 D (.lst (vs++[v]))))) (hd:∀H,Pv n H→Q (.ref D) H):
 ∃W:Nat→Nat→Hp→Prop,(∃m,W 0 m H2)∧∀i m H3,W i m H3→((Itr lo n).stop i H3∧Q (.ref D) H3)∨((Itr lo n).go i H3∧∃N:Hp→Prop,(∀H',N H'→∃m',m'<m∧W (i+1) m' H')∧∀x H4,(Itr lo n).yld i H3 x H4→vT k x σ0 H4 λσ5 H5=>q0F σ5 H5 λb H6=>if b=true then te σ5 H6 (λv H7=>∃vs,H7 D=some (.lst vs)∧vs.length<sizeLine∧N (upd H7 D (.lst (vs++[v]))))else N H6):=q8A (g:=vT k) (tc:=q0F) Pv h0 (λi H hi p=>q88 (σ:=σ0.set k (some (.int (lo+i)))) (A:=λH6=>te (σ0.set k (some (.int (lo+i)))) H6 _) (B:=λH6=>Pv (i+1) H6) (hs i H hi p)) hd
theorem qCA{K:PySem.W.Frag}{a:Addr}{xs:List V}{k:Nat}{D:Addr}{H2:Hp}{te:TE}{σ0:St}{Q:VK}(Pv:Nat→Hp→Prop)(h0:Pv 0 H2)(hl:∀i H,Pv i H→SqL K H a xs)
 (hs:∀(i:Nat) x H,xs[i]?=some x→Pv i H→te (σ0.set k (some x)) H (λv H7=>∃vs,H7 D=some (.lst vs)∧vs.length<sizeLine∧Pv (i+1) (upd H7 D (.lst (vs++[v]))))) (hd:∀H,Pv xs.length H→Q (.ref D) H):
 ∃W:Nat→Nat→Hp→Prop,(∃m,W 0 m H2)∧∀i m H3,W i m H3→((Itl K a).stop i H3∧Q (.ref D) H3)∨((Itl K a).go i H3∧∃N:Hp→Prop,(∀H',N H'→∃m',m'<m∧W (i+1) m' H')∧∀x H4,(Itl K a).yld i H3 x H4→vT k x σ0 H4 λσ5 H5=>q0F σ5 H5 λb H6=>if b=true then te σ5 H6 (λv H7=>∃vs,H7 D=some (.lst vs)∧vs.length<sizeLine∧N (upd H7 D (.lst (vs++[v]))))else N H6):=qA2 (g:=vT k) (tc:=q0F) Pv h0 hl (λi x H hx p=>q88 (σ:=σ0.set k (some x)) (A:=λH6=>te (σ0.set k (some x)) H6 _) (B:=λH6=>Pv (i+1) H6) (hs i x H hx p)) hd
noncomputable def rEmp(K:PySem.W.Frag):R2:=λx y H Q=>∃p xs e,x=.ref p∧y=.ref e∧SqL K H p xs∧SqL K H e []∧Q (.bl (decide (xs=[]))) H
theorem qG7{X:Cx}(hu:X.A.units+64<cLine):OpR X (compareOp .Eq) (rEmp X.K):=by(
intro pins s σ H x y v u Q I rx ry hZ
obtain⟨p,xs,e,ex,ey,hp,he,q⟩:=hZ
subst ex ey
cases rx
cases ry
obtain⟨i1,r1,p1,_⟩:=I.list hp
obtain⟨i2,r2,p2,_⟩:=I.list he
have l1:=r1.length
have l2:=r2.length
cases xs with
|nil=>exact nM (e:=λ_=>true) p1.isList p2.isList (by simp at l1 l2 ⊢;lia) (by lia) (λj h1 h2=>by simp at l1 h1;lia) ⟨.bl true,H,I,by rw[vK];rfl,q⟩
|cons z zs=>exact SeqAt.eq_list_lengthsAt p1.isList p2.isList (by simp at l1 l2 ⊢;lia) (by lia) ⟨.bl false,H,I,rfl,q⟩)
section
variable{X:Cx}{o e f:Expr}{apos cpos:Pos}{td ty tx:TE}
theorem qEU{P:Program}{w:World}{k:Key}{u:Value}(h:(qX P w).is k u=true):RelV (kV k) u:=by(
cases k with
|inl i=>exact sN h
|inr x=>exact pS h)
end
theorem q4A:∀{ns:List Int} {vs:List Value},Vals (ns.map V.int) vs→IntsAre vs ns
| [],_,.nil=>.nil
|n::ns,_,.cons h t=>by obtain⟨t0,rfl⟩:=h;exact .cons n t0 (q4A t)
section
variable{X:Cx}
theorem vE(hc:X.calm=true):v8 X (.builtin "sum") (λxs H Q=>∃(p:Addr) (ns:List Int),xs=[.ref p]∧SqL X.K H p (ns.map V.int)∧Q (.int ns.sum) H):=by(
intro pins s σ H xs us Q I r hZ
obtain⟨p,ns,ex,hq,q⟩:=hZ
subst ex
obtain⟨u,rfl,rx⟩:=vU r
cases rx
obtain⟨its,rv,pl,hz⟩:=I.list hq
have hi:=q4A rv
obtain⟨xs,e⟩:=hi.allInts.items
have hn:numsOf its.toArray.toList=ns:=by rw[show its.toArray.toList=its from rfl,hi.numsOf]
have hl:=pl.isList
rw[e]at hl hn
rw[nums_intItems]at hn
have hh:=I.ok.hd hc
have hsz:(intItems xs).size=xs.size:=by simp[intItems]
refine call_sum_walkAnyS (iter_intList hl λs₂ e2 st hfp hlI=>?_)
subst e2
have W:=(nZ (prog:=X.prog) (w:=X.w) (A:=X.A.in1) hh s.heap.objs.size p hlI (intItems xs)).toS
rw[hsz]at W
refine⟨s.heap.objs.size,_,_,_,_,_,_,numAt xs,rfl,W,st,hfp,λi v hP=>intItems_at hP,λs' t' hm=>?_⟩
obtain⟨h',g',d',tk',os'⟩:=s'
have e1:g'=s.gens:=hm.gens
have e2:d'=s.drawn:=hm.drawn
have e3:os'=s.os:=hm.os
subst e1 e2 e3
refine⟨.int _,H,I.kept λb o e=>hm.heap b o (λhb=>absurd (kM e) ((kC.mp hb)▸gS _)) (hU _ e),⟨t',rfl⟩,?_⟩
rw[preSum_eq,List.take_of_length_le (by simp),hn]
exact q)
theorem q2H:∀{vs:List Value} {ns:List Int},IntsAre vs ns→Vals (ns.map V.int) vs
|_,_,.nil=>.nil
|_,_,.cons n t h=>.cons ⟨t,rfl⟩ (q2H h)
theorem q70:v8 X (.builtin "sorted") (λxs H Q=>∃(p:Addr) (ns:List Int),xs=[.ref p]∧SqL X.K H p (ns.map V.int)∧ns.length<64∧∀ns':List Int,ns'.Perm ns→ns'.Pairwise (·≤·)→NewO H (.lst (ns'.map V.int)) Q):=by(
intro pins s σ H xs us Q I r hZ
obtain⟨p,ns,ex,hq,h64,q⟩:=hZ
subst ex
obtain⟨u,rfl,rx⟩:=vU r
cases rx
obtain⟨its,rv,pl,hz⟩:=I.list hq
have hi:=q4A rv
have hlen:its.length<64:=by rw[←rv.length,hV];exact h64
refine sorted_ints pl.isList hi hlen λout ns' a1 a2 a3=>?_
obtain⟨e,he⟩:=sortedAll_at s.heap its out
have hz':(ns'.map V.int).length≤sizeLine:=by rw[hV,a2.length_eq,gK];lia
exact⟨.ref (s.heap.objs.size+1),_,I.laid (t':=s.toks) (λ_ _ h=>sortedAll_old h) (dW _) (show jP X.prog X.w _ _ _ (.lst _)from⟨hz',out.toList,e,q2H a1,by simpa[seqObj]using he⟩),rfl,(q ns' a2 a3).at _ (I.hok.fresh (dW _))⟩)
theorem qAV(hc:X.calm=true):v8 X (.builtin "all") (λxs H Q=>∃(p:Addr) (bs:List Bool),xs=[.ref p]∧SqL X.K H p (bs.map V.bl)∧Q (.bl (bs.all id)) H):=by(
intro pins s σ H xs us Q I r hZ
obtain⟨p,bs,ex,hq,q⟩:=hZ
subst ex
obtain⟨u,rfl,rx⟩:=vU r
cases rx
obtain⟨its,rv,pl,hz⟩:=I.list hq
have hl:=pl.isList
have hlt:p<s.heap.objs.size:=by obtain⟨_,e,_⟩:=hl;exact kM e
have hln:=rv.length
refine call_all_walk (cL hl ?_)
have W:=nZ (prog:=X.prog) (w:=X.w) (A:=X.A.in1) (I.ok.hd hc) s.heap.objs.size p (mF hlt) its.toArray
refine⟨s.heap.objs.size,_,_,_,_,_,λi=>bs.getD i false,rfl,W,⟨⟨_,kY _ rfl,rfl,rfl⟩,hl.push _⟩,λi v s1 Q1 E1 hP hQ=>?_,λh' tk hk=>?_⟩
·have hP:its[i]?=some v:=by simpa using hP
 obtain⟨x,hx,rx⟩:=rv.atN (j:=i) (kD.mp hP).1;rw[mC]at hx;obtain⟨b,hb,rfl⟩:=mY.mp hx;have ev:its[i]'(kD.mp hP).1=v:=(kD.mp hP).2;rw[ev]at rx;have rx:v=.bool b:=rx;subst rx;have eb:bs.getD i false=b:=by rw[kO,hb];rfl
 have hQ:Q1 (bs.getD i false) s1:=hQ;rw[eb]at hQ;exact gE hQ
have e:(List.range its.toArray.size).all (λi=>bs.getD i false)=bs.all id:=by
 have hs:its.toArray.size=bs.length:=by simp at hln ⊢;lia
 rw[hs];apply rD.mpr;rw[gR,gR];constructor
 ·intro h b hb;obtain⟨i,hi,rfl⟩:=p6 hb;have:=h i (kW.mpr hi);rw[kO,hX hi]at this;exact this
 intro h i hi;have hi:=kW.mp hi;rw[kO,hX hi];exact h _ (wL hi)
rw[e]
exact⟨.bl _,H,I.kept λb o eo=>hk b o (λhb=>absurd (kM eo) ((kC.mp hb)▸gS _)) (hU _ eo),rfl,q⟩)
end
end L2
namespace W1
open PySem L2
theorem q4B{H:Hp}{x dx C:Addr}(nx:H x=none)(nd:H dx=none):Same H (upd (upd H dx (.own x)) x (.ins C dx [])):=λb o e=>by rw[qC (qF e nx),qC (qF e nd)];exact e
end W1
namespace L2
open PySem PySem.Spec PyProof.Rows
theorem uG{X:Cx}{K:PySem.W.Frag}(e:X.K=K):IxR X (rIxT K):=by subst e;exact q4M
theorem qCB{X:Cx}{K:PySem.W.Frag}(e:X.K=K):IxR X (rIxL K):=by subst e;exact jR
theorem q2I{X:Cx}{elt iter tg:Expr}{ifs:List Expr}{scope:Scope}{pos py spos:Pos}{wi:TI}{g:TG}{tc:TT}{te:TE}{i:Nat}{y:Str}(N:List Str)(ix:List Nat)(hcalm:X.calm=true)(hi:PI X tg iter wi)
 (hg:∀C fp s H xe,PG (uV X N scope C fp s H xe) tg g) (hif:∀C fp s H xe,PIf (uV X N scope C fp s H xe) ifs tc) (he:∀C fp s H xe,PE (uV X N scope C fp s H xe) elt te)
 (ok:qA1 X.N X.env.kindOf scope N ix=true) (hown:Own g ix.length) (hN:X.N.Nodup) (hy:X.N[i]?=some y) (hl:Loc X.env.scope y)
 (hsw:swapsWith (.ListComp elt [⟨tg,iter,ifs,0⟩] scope pos) (some (.Name y py)) spos.line X.env=pure true:=by rfl) (hf:X.fn y=true∨X.env.scope.names.lookup y=some .local:=by first|exact .inl rfl|exact .inr rfl|assumption)
 (hs:∀x,foldedSetIterable iter X.env x=pure x:=by intro _;rfl):
 PS X (.Assign [.Name y py] (.ListComp elt [⟨tg,iter,ifs,0⟩] scope pos) spos) (tAsg (tLC wi g tc te ix (N.length-ix.length)) (vT i)):=by(
unfold qA1 at ok
rw[mH,mH,mH,gR]at ok
obtain⟨⟨⟨h1,h2⟩,h3⟩,h4⟩:=ok
have h2':∀y∈scope.names,y.2≠ .cell∧(y.2≠ .free∨X.env.kindOf y.1=some .cell)∧(y.2≠ .local∨scope.names.lookup y.1=some .local):=λy hy=>by have q:=h2 y hy;rw[mH,mH,rE,rE,k9,k9,k9,k9,k9]at q;exact⟨q.1.1,q.1.2,q.2⟩
intro pins s σ H D I h
rw[exec_Assign_Name_used _ _ _ _ hsw]
refine kG (cS (kG ?_))
show wpAny _ X.A (do let _←comprehension (.ListComp elt [⟨tg,iter,ifs,0⟩] scope pos) scope X.env _ (newList []) false (eval iter X.env) (some (assign (.Name y py) X.env))) _ _ s
refine kG (gJ (qA0 (use:=some (assign (.Name y py) X.env)) (QQ:=λ_ s'=>∃σ' H',Inv X pins σ' H' s'∧D.nx σ' H') N ix _ (λ_ _ _ _ _=>hcalm) hi.c hg hif he (gL h1) (λy hy=>(h2' y hy).1) (λy hy e=>(h2' y hy).2.1.resolve_left (λz=>z e)) h3 (gL h4) (λy hy e=>(h2' y hy).2.2.resolve_left (λz=>z e)) hown I h
 (λC Dl H' s' m hm fp inv q=>?_) hs) (λ_ s' hq=>kX (kX hq)) λ_ _ e=>e)
have I':Inv X pins σ H' s':=inv s'.heap (Heap.SameBut.refl _ _)
show wpAny _ _ (assign (.Name y py) X.env (.ref Dl)) _ _ _
refine sO (q64 (v:=.ref Dl) I' hN hy hl rfl (λs'' I'' hZ=>?_) hf)
obtain⟨a,sb,ha⟩:=hZ
have aC:C≠a:=λz=>by
 rcases ha with ha|ha
 ·exact fp.2.1 (z.trans ha)
 exact fp.2.2.2.2.1 _ _ ha z.symm
refine⟨m,hm.sameBut sb aC,λh' sb'=>⟨_,H',I''.turnedN (t':=s''.toks) (fp:=[C]) (λb o hb e=>sb'.extBut b o (λz=>hb (kC.mpr z)) e) (λb hb=>by rw[kC.mp hb];exact fp),q⟩⟩)
theorem qAW{lo:Int}{n k:Nat}{D:Addr}{H2:Hp}{te:TE}{σ0:St}{R:Hp→Prop}(Pv:Nat→Hp→Prop)(h0:Pv 0 H2)
 (hs:∀(i:Nat) H,i<n→Pv i H→te (σ0.set k (some (.int (lo+i)))) H (λv H7=>∃vs,H7 D=some (.lst vs)∧vs.length<sizeLine∧Pv (i+1) (upd H7 D (.lst (vs++[v]))))) (hd:∀H,Pv n H→R H):
 ∃W:Nat→Nat→Hp→Prop,(∃m,W 0 m H2)∧∀i m H3,W i m H3→((Itr lo n).stop i H3∧R H3)∨((Itr lo n).go i H3∧∃N:Hp→Prop,(∀H',N H'→∃m',m'<m∧W (i+1) m' H')∧∀x H4,(Itr lo n).yld i H3 x H4→vT k x σ0 H4 λσ5 H5=>q0F σ5 H5 λb H6=>if b=true then te σ5 H6 (λv H7=>∃vs,H7 D=some (.lst vs)∧vs.length<sizeLine∧N (upd H7 D (.lst (vs++[v]))))else N H6):=qAU (Q:=λ_ H=>R H) Pv h0 hs hd
theorem q8B{K:PySem.W.Frag}{a:Addr}{xs:List V}{D:Addr}{H2:Hp}{g:TG}{tc:TT}{te:TE}{σ0:St}{R:Hp→Prop}(Pv:Nat→Hp→Prop)(h0:Pv 0 H2)(hl:∀i H,Pv i H→SqL K H a xs)
 (hs:∀(i:Nat) x H,xs[i]?=some x→Pv i H→g x σ0 H λσ5 H5=>tc σ5 H5 λb H6=>if b=true then te σ5 H6 (λv H7=>∃vs,H7 D=some (.lst vs)∧vs.length<sizeLine∧Pv (i+1) (upd H7 D (.lst (vs++[v]))))else Pv (i+1) H6) (hd:∀H,Pv xs.length H→R H):
 ∃W:Nat→Nat→Hp→Prop,(∃m,W 0 m H2)∧∀i m H3,W i m H3→((Itl K a).stop i H3∧R H3)∨((Itl K a).go i H3∧∃N:Hp→Prop,(∀H',N H'→∃m',m'<m∧W (i+1) m' H')∧∀x H4,(Itl K a).yld i H3 x H4→g x σ0 H4 λσ5 H5=>tc σ5 H5 λb H6=>if b=true then te σ5 H6 (λv H7=>∃vs,H7 D=some (.lst vs)∧vs.length<sizeLine∧N (upd H7 D (.lst (vs++[v]))))else N H6):=qA2 (Q:=λ_ H=>R H) Pv h0 hl hs hd
theorem q8C{K:PySem.W.Frag}{a:Addr}{xs:List V}{k:Nat}{D:Addr}{H2:Hp}{te:TE}{σ0:St}{R:Hp→Prop}(Pv:Nat→Hp→Prop)(h0:Pv 0 H2)(hl:∀i H,Pv i H→SqL K H a xs)
 (hs:∀(i:Nat) x H,xs[i]?=some x→Pv i H→te (σ0.set k (some x)) H (λv H7=>∃vs,H7 D=some (.lst vs)∧vs.length<sizeLine∧Pv (i+1) (upd H7 D (.lst (vs++[v]))))) (hd:∀H,Pv xs.length H→R H):
 ∃W:Nat→Nat→Hp→Prop,(∃m,W 0 m H2)∧∀i m H3,W i m H3→((Itl K a).stop i H3∧R H3)∨((Itl K a).go i H3∧∃N:Hp→Prop,(∀H',N H'→∃m',m'<m∧W (i+1) m' H')∧∀x H4,(Itl K a).yld i H3 x H4→vT k x σ0 H4 λσ5 H5=>q0F σ5 H5 λb H6=>if b=true then te σ5 H6 (λv H7=>∃vs,H7 D=some (.lst vs)∧vs.length<sizeLine∧N (upd H7 D (.lst (vs++[v]))))else N H6):=qCA (Q:=λ_ H=>R H) Pv h0 hl hs hd
end L2
namespace L2
open PySem PySem.W PySem.Spec PyProof.Rows
noncomputable def BmIn(base:Heap)(mg:Str→Option Value):Prop:=∃bm o,mg "__builtins__"=some (.ref bm)∧bm≠builtinsNs∧base.get? bm=some o∧o.cls=.type "module"∧o.dict=some builtinsNs∧o.data=.plain
theorem qAX{P:Program}{w:World}{K:PySem.W.Frag}{mg mb:Str→Option Value}{CX:CXT}{k:Nat}{fa a:Addr}{fd:FuncData}{x:Str}{sp:Sp}{s₁:Shared}{vs:List Value}{ns:List Int}(ts:List Addr)
 (KX:K.In s₁.heap) (hts:∀T∈ts,s₁.heap.get? T=some (tabObj #[])∧K.lookup T=none∧∃c,codeHdIn K c T=true) (hns:s₁.heap.Ns mainGlobals mg) (hb:s₁.heap.Ns builtinsNs mb) (hbb:∀x:Str,x≠"__name__"→mb x=bootBuiltins x) (hlim:s₁.heap.NoLimit) (hbm:BmIn s₁.heap mg) (hg:s₁.gens=#[])
 (ha:s₁.heap.get? a=some { cls:=.type "list",data:=.seq vs.toArray }) (hi:IntsAre vs ns) (hl:ns.length≤sizeLine) (hr:Room k callerA)
 (F:∀base:Heap,K.In base→base.Ns mainGlobals mg→BmIn base mg→FnOk P w K mg base CX k fa fd [x] sp) (hbind:∀(s:Shared) (u:Value),BindsTo s fd ⟨[u],[]⟩ [(x,u)])
 (hsp:∀H:Hp,SqL K H a (ns.map V.int)→(∀T∈ts,H T=some (.tbl #[]))→sp [.ref a] H (λv _=>v=.bl true) λ_ _ _=>False)
 (hCX:∀H e s',CX [] H s₁ (λ_ _ _=>False) e s'→False):
 codeAny (model P w) callerA (.call (.ref fa) ⟨[.ref a],[]⟩) (λr s'=>r=.ok (.ret (.bool true))∧OldK s₁.heap s'.heap∧s'.os=s₁.os∧AllBare s'.gens) s₁:=by(
have rv:=q6I hi
have lenV:=hi.length
have nat:a∉ts:=λz=>by have e:=(hts a z).1;rw[ha]at e;cases e
have core:∀H:Hp,SqL K H a (ns.map V.int)→HOk P w H s₁.heap→(∀b,H b=none∨(b=a∧K.lookup a=none∧∃o xs,H b=some (.frz o (.lst xs)))∨(b∈ts∧H b=some (.tbl #[])))→(∀T∈ts,H T=some (.tbl #[]))→codeAny (model P w) callerA (.call (.ref fa) ⟨[.ref a],[]⟩) (λr s'=>r=.ok (.ret (.bool true))∧OldK s₁.heap s'.heap∧s'.os=s₁.os∧AllBare s'.gens) s₁:=by
 intro H hS hok hO hT;have base_of:∀{b:Addr} {o:Obj},s₁.heap.get? b=some o→H b=none→(hidT s₁.heap H).get? b=some o:=λe n=>q4E e n;have noA:∀{b:Addr} {o:Obj} {es:Array DictEntry} {ep:Nat},s₁.heap.get? b=some o→o.data=.dict es ep→H b=none:=fun {b o es ep} e d=>by
  rcases hO b with z|⟨rfl,_⟩|⟨z,_⟩
  ·exact z
  ·rw[ha]at e;cases e;cases d
  rw[(hts b z).1]at e;cases e;cases d
 have nsK:∀{b:Addr} {m:Str→Option Value},s₁.heap.Ns b m→(hidT s₁.heap H).Ns b m:=fun {b m} ⟨o,es,ep,e,d,r⟩=>⟨o,es,ep,base_of e (noA e d),d,r⟩
 have hKb:K.In (hidT s₁.heap H):=λb o e=>base_of (KX b o e) (by
  rcases hO b with z|⟨rfl,z,_⟩|⟨z,_⟩
  ·exact z
  ·rw[z]at e;cases e
  rw[(hts b z).2.1]at e;cases e)
 have hM:Mod K mg (hidT s₁.heap H):=⟨hKb,nsK hns,⟨mb,nsK hb,hbb⟩,let⟨mc,h1,h2⟩:=hlim;⟨mc,nsK h1,h2⟩⟩;have hB:BmIn (hidT s₁.heap H) mg:=by
  obtain⟨bm,o,b1,b2,b3,b4,b5,b6⟩:=hbm;refine⟨bm,o,b1,b2,base_of b3 ?_,b4,b5,b6⟩;rcases hO bm with z|⟨rfl,_⟩|⟨z,_⟩
  ·exact z
  ·rw[ha]at b3;cases b3;exact absurd (Value.type.inj b4) (by decide)
  rw[(hts bm z).1]at b3;cases b3;cases b4
 have e0:Env0 P w K mg (hidT s₁.heap H) callerA [] s₁ H:=⟨rfl,hM,λb o e=>q9O e,cA (q63 _ _),trivial,λb hb=>absurd (show b∈([]:List Addr)from hb) (by simp),hok,.of_eq hg⟩;refine dU ((F _ hKb (nsK hns) hB).run callerA [] s₁ H ⟨[.ref a],[]⟩ [.ref a] [.ref a] _ _ hr e0 (hbind s₁ (.ref a)) (.cons rfl .nil) (hsp H hS hT)) λr s' h=>?_;cases r with
 |error e=>exact(hCX H e s' h).elim
 |ok fl=>
  cases fl with
  |next=>exact False.elim h
  |brk=>exact False.elim h
  |cont=>exact False.elim h
  |ret u=>
   obtain⟨v,H',os,bare,un,hok',r',q⟩:=h;have q':v=.bl true:=q;subst q';obtain rfl:u=Value.bool true:=r';have kept:∀b o,s₁.heap.get? b=some o→b∉ts→s'.heap.get? b=some o:=λb o e nb=>by
    rcases hO b with z|⟨rfl,_,ob,xs,z⟩|⟨z,_⟩
    ·exact un.keep b o e z (by intro z;exact absurd (show b∈([]:List Addr)from z) (by simp)) (by simp)
    ·have z2:=un.frzs _ ob _ z;obtain⟨e1,_⟩:=hok _ _ z;obtain⟨e2,_⟩:=hok' _ _ z2;rw[e]at e1;cases e1;exact e2
    exact absurd z nb
   refine⟨rfl,⟨λb o e=>?_,λb o e=>?_⟩,os,bare⟩
   ·by_cases nb:b∈ts
    ·obtain⟨g,_,c,hc⟩:=hts b nb;obtain⟨more,z2⟩:=un.tbls b _ (hT b nb);have g2:s'.heap.get? b=some { cls:=.none,data:=.fields (#[]++more) }:=hok' _ _ z2;rw[g]at e;cases e;exact .inr (.inl ⟨((nJ KX hc).tab g).isCodeTable,rfl,#[],more,rfl,g2⟩)
    exact .inl (kept b o e nb)
   by_cases nb:b∈ts
   ·obtain⟨more,z2⟩:=un.tbls b _ (hT b nb);exact⟨_,hok' _ _ z2⟩
   exact⟨o,kept b o e nb⟩
have tb:∀T∈ts,∀H:Hp,H T=some (.tbl #[])→∀u,H T=some u→jP P w H s₁.heap T u:=λT hT H e u e'=>by rw[e]at e';cases e';exact(hts T hT).1
cases hk:K.lookup a with
|some o=>
 have e:=KX a o hk;rw[ha]at e;cases e;refine core (λb=>if b∈ts then some (.tbl #[])else none) (.inr ⟨_,vs.toArray,_,hk,rfl,rfl,rfl,by rw[kQ,lenV];exact hl,by simpa using rv⟩) (λb u z=>?_) (λb=>?_) λT hT=>kJ hT
 ·by_cases hb':b∈ts
  ·exact tb b hb' _ (kJ hb') u z
  have z':=(kI hb').symm.trans z;cases z'
 by_cases hb':b∈ts
 ·exact .inr (.inr ⟨hb',kJ hb'⟩)
 exact .inl (kI hb')
|none=>
 refine core (λb=>if b=a then some (.frz { cls:=.type "list",data:=.seq vs.toArray } (.lst (ns.map V.int)))else if b∈ts then some (.tbl #[])else none) (.inl (.inr ⟨{ cls:=.type "list",data:=.seq vs.toArray },kJ rfl⟩)) (λb u z=>?_) (λb=>?_) λT hT=>?_
 ·by_cases hb':b=a
  ·have z':=(kJ hb').symm.trans z;cases z';subst hb';exact⟨ha,by rw[hV];exact hl,vs,_,rv,ha⟩
  by_cases hb2:b∈ts
  ·exact tb b hb2 _ ((kI hb').trans (kJ hb2)) u z
  have z':=((kI hb').trans (kI hb2)).symm.trans z;cases z'
 ·by_cases hb':b=a
  ·exact .inr (.inl ⟨hb',hk,_,_,kJ hb'⟩)
  by_cases hb2:b∈ts
  ·exact .inr (.inr ⟨hb2,(kI hb').trans (kJ hb2)⟩)
  exact .inl ((kI hb').trans (kI hb2))
 have:T≠a:=λz=>nat (z▸hT);exact(kI this).trans (kJ hT))
theorem qCC{l:PySem.W.OpenLaw}{n k:Nat}{q:Program}{loose:List Str}{XP:(Str→Option Value)→Heap→Prop}{YP:World→Heap→Prop}{d:DefRec}{K:Params→PySem.W.Frag}{CX:World→CXT}{sp:World→Sp}{x:Str}(ts:List Addr)
 (hn:l.most=some n) (hn2:n≤sizeLine) (hdf:d.params.defaults=[]) (hr:Room k callerA)
 (hY:∀(w:World) (h:Heap),YP w h→(K w.params).In h∧∀T∈ts,h.get? T=some (tabObj #[])) (hT:∀w:World,∀T∈ts,(K w.params).lookup T=none∧∃c,codeHdIn (K w.params) c T=true)
 (F:∀(w:World) (mg:Str→Option Value) (fa:Addr) (h:Heap),(K w.params).In h→h.Ns mainGlobals mg→mg d.name=some (.ref fa)→∃fd:FuncData,(∀(s:Shared) (u:Value),BindsTo s fd ⟨[u],[]⟩ [(x,u)])∧∀base:Heap,(K w.params).In base→base.Ns mainGlobals mg→BmIn base mg→FnOk l.prog w (K w.params) mg base (CX w) k fa fd [x] (sp w))
 (hsp:∀(w:World) (H:Hp) (a:Addr) (ns:List Int),ns.length≤n→SqL (K w.params) H a (ns.map V.int)→(∀T∈ts,H T=some (.tbl #[]))→sp w [.ref a] H (λv _=>v=.bl true) λ_ _ _=>False)
 (hCX:∀(w:World) (H:Hp) (s:Shared) (e:Value) (s':Shared),CX w [] H s (λ_ _ _=>False) e s'→False):
 PySem.W.WalkO q loose XP YP l.row.toRowW d [] (λf vs=>PySem.call f vs):=by(
refine Att.attach_call hn hdf λw s₀ s₁ mg mb fa o pm cd doc a vs ns G Y ho hd hcd hmg hobj hints hlen hg=>?_
obtain⟨KX,KT⟩:=hY w _ Y
obtain⟨fd,hb,hF⟩:=F w mg fa _ KX G.T.g hmg
exact qAX ts KX (λT h=>⟨KT T h,hT w T h⟩) G.T.g G.T.b G.T.builtins G.T.nolimit (let⟨bm,ob,b1,b2,b3,b4,b5,b6⟩:=G.T.bmain;⟨bm,ob,b1,b2,b3,b4,b5,b6⟩) hg hobj hints (mI hlen hn2) hr hF hb (λH hS hH=>hsp w H a ns hlen hS hH) λH e s'=>hCX w H s₁ e s')
structure FunT(K:PySem.W.Frag)(x qual:Str)(st:Stmt)(c f:Addr)(fd:FuncData):Prop where
ex:∃(oc:Value) (od:Option Addr) (kV doc pm:Value) (an:Option Addr) (ct:Value) (osl:Array (Option Value)),fd=PySem.W.fnOf x qual (yH st) (jY st) (qG st) .none kV doc pm an (.ref c) ct∧K.lookup f=some ⟨oc,od,.func fd,osl⟩∧PySem.W.codeIn K (.ref c) qual=true
section
variable{P:Program}{w:World}{K:PySem.W.Frag}{mg:Str→Option Value}{base:Heap}
theorem FunT.mk'{x qual:Str}{st:Stmt}{c f:Addr}{oc:Value}{od an:Option Addr}{osl:Array (Option Value)}{kV doc pm ct:Value}(l:K.lookup f=some ⟨oc,od,.func (PySem.W.fnOf x qual (yH st) (jY st) (qG st) .none kV doc pm an (.ref c) ct),osl⟩)
 (h:PySem.W.codeIn K (.ref c) qual=true):FunT K x qual st c f (PySem.W.fnOf x qual (yH st) (jY st) (qG st) .none kV doc pm an (.ref c) ct):=⟨⟨oc,od,kV,doc,pm,an,ct,osl,rfl,l,h⟩⟩
theorem FunT.ok0{x qual:Str}{st:Stmt}{c f:Addr}{fd:FuncData}{N ps:List Str}{k:Nat}{sp:Sp}(F:FunT K x qual st c f fd)(S:FnScope N ps (qG st))
 (hbody:∀(A:Around) (outer:List Env) (s:Shared) (H:Hp) (vs:List V) (Q:VK) (E:XK),Room k (A.deeper (envOfC qual (qG st) s.heap.objs.size f (.ref c)))→sp vs H Q E→∃t,PSs (cxOf CX0 P w K mg base N qual (qG st) f (.ref c) A outer s H E).nox (jY st) t∧t { nx:=λ_ H'=>Q .non H',rt:=Q } (vH N vs) H)(len:∀vs H Q E,sp vs H Q E→vs.length=ps.length:=by intro _ _ _ _ h;first|(cases h;subst_vars;rfl)|((repeat obtain⟨_,h⟩:=h);all_goals subst_vars;rfl)):FnOk P w K mg base CX0 (k+1) f fd ps sp:=by(
obtain⟨oc,od,kV,doc,pm,an,ct,osl,rfl,lk,hcd⟩:=F.ex
refine qBM lk hcd S len λA outer s H vs Q E hr hsp=>?_
obtain⟨t,h,q⟩:=hbody A outer s H vs Q E hr hsp
exact⟨t,h.nox,q⟩)
noncomputable def q36(K:PySem.W.Frag)(ts:List Addr):Sp:=λvs H Q _=>∃(a:Addr) (ns:List Int),vs=[.ref a]∧SqL K H a (ns.map V.int)∧ns.length≤63∧(∀T∈ts,H T=some (.tbl #[]))∧∀H',Q (.bl true) H'
end
noncomputable def fnOb(fd:FuncData):Obj:={ cls:=.type "function",data:=.func fd }
noncomputable def fnO(f:Addr)(fd:FuncData):HO:=.ext λh=>h.get? f=some (fnOb fd)
noncomputable def cdO(c:Addr)(q:Str):HO:=.ext λh=>∃o vs t,h.get? c=some o∧o.data=.fields vs∧vs[1]?=some (.str q t)
theorem qCD{P:Program}{w:World}{H:Hp}{h:Heap}{f:Addr}{fd:FuncData}(e:h.get? f=some (fnOb fd)):jP P w H h f (fnO f fd):=⟨e,⟨_,e⟩,λ_ _ a b=>b _ a⟩
theorem qG8{P:Program}{w:World}{H:Hp}{h:Heap}{c:Addr}{q:Str}(e:h.CodeRec (.ref c) q):jP P w H h c (cdO c q):=by obtain⟨c',o,vs,t,e0,e1,e2,e3⟩:=e;cases e0;exact⟨⟨o,vs,t,e1,e2,e3⟩,⟨_,e1⟩,λ_ _ ⟨o,vs,t,a,b⟩ k=>⟨o,vs,t,k _ a,b⟩⟩
theorem qG9{P:Program}{w:World}{H:Hp}{h:Heap}{f:Addr}{fd:FuncData}(ok:HOk P w H h)(e:H f=some (fnO f fd)):h.get? f=some (fnOb fd):=(ok f _ e).1
theorem qGA{P:Program}{w:World}{H:Hp}{h:Heap}{c:Addr}{q:Str}(ok:HOk P w H h)(e:H c=some (cdO c q)):h.CodeRec (.ref c) q:=let⟨o,vs,t,a,b⟩:=(ok c _ e).1
 ⟨c,o,vs,t,rfl,a,b⟩
noncomputable def uW(base:Heap)(cs:List Addr):Hp:=λb=>if(base.get? b).isSome=true∨b∈cs then none else some (.lst [])
theorem q0G{h base base':Heap}:∀{l:List Env},h.FunFrames base l→(∀L∈frs l,base.get? L=none→base'.get? L=none)→h.FunFrames base' l
| [],_,_=>trivial
|env::r,⟨hk,⟨L,o,hf,hn,ho,hd⟩,hr⟩,k=>by
 have hL:L∈frs (env::r):=by unfold frs;rw[dY,hf];exact kU
 exact⟨hk,⟨L,o,hf,k L hL hn,ho,hd⟩,q0G hr λb hb=>k b (by unfold frs;rw[dY,hf];exact hZ _ hb)⟩
theorem Inv.env0C{X:Cx}{pins:List (Addr×Obj)}{σ:St}{H:Hp}{s:Shared}(I:Inv X pins σ H s)(cs:List Addr)(hcs:∀c∈cs,∃x,X.fn x=true∧X.env.cells.lookup x=some c):
 Env0 X.prog X.w X.K X.mg (hidT s.heap (uW X.base cs)) X.A X.stack s H∧(∀b o,X.base.get? b=some o→(hidT s.heap (uW X.base cs)).get? b=some o)∧∀c∈cs,∀o,s.heap.get? c=some o→(hidT s.heap (uW X.base cs)).get? c=some o:=by(
have up:∀b o,X.base.get? b=some o→(hidT s.heap (uW X.base cs)).get? b=some o:=λb o e=>q4E (I.bk b o e) (kJ (.inl (by rw[e];rfl)))
have inv:∀{b:Addr} {o:Obj},(hidT s.heap (uW X.base cs)).get? b=some o→s.heap.get? b=some o∧((∃o',X.base.get? b=some o')∨b∈cs):=fun {b o} e=>by
 obtain⟨e1,n⟩:=q9O e;refine⟨e1,?_⟩;by_cases z:(X.base.get? b).isSome=true∨b∈cs
 ·rcases z with z|z
  ·exact .inl (rS.mp z)
  exact .inr z
 rw[show uW X.base cs b=some (.lst [])from kI z]at n;cases n
obtain⟨mb,hb1,hb2⟩:=I.ok.mod.blt
refine⟨⟨I.ok.frames,⟨I.ok.mod.kin.keeps up,I.ok.mod.glob.keeps up,⟨mb,hb1.keeps up,hb2⟩,I.ok.mod.nolimit.keeps up⟩,λb o e=>?_,by rw[q63];exact kH _,q0G I.stack λL hL n=>?_,I.stkFree,I.hok,I.bare⟩,up,λc hc o e=>q4E e (kJ (.inr hc))⟩
·obtain⟨e1,z⟩:=inv e;rcases z with⟨o',z⟩|z
 ·exact⟨e1,(I.bs b o' z).2⟩
 obtain⟨x,_,hx⟩:=hcs b z;exact⟨e1,I.freeC x b hx⟩
cases e:(hidT s.heap (uW X.base cs)).get? L with
|none=>rfl
|some o=>
 obtain⟨e1,z⟩:=inv e;rcases z with⟨o',z⟩|z
 ·rw[n]at z;cases z
 obtain⟨x,hf,hx⟩:=hcs L z;rcases kR.mp (I.stkSub L hL)with y|y
 ·exact absurd y (I.cne x L hx)
 obtain⟨_,o2,ho,_⟩:=I.ok.funs.mem y;exact absurd (kM ho) (cH.mpr (I.ok.cab x L hf hx)))
noncomputable def q4X(cells:List (Str×Addr))(σ:St)(base':Heap)(ix:List (Nat×Str)):Prop:=∀p∈ix,∀v,σ[p.1]?=some (some v)→∃c u,cells.lookup p.2=some c∧RelV v u∧base'.IsCell c (some u)
noncomputable def qHL(T:Addr)(pos:Pos)(qual:Str)(params:Arguments)(body:Expr)(scope:Scope)(clos:List (Str×Addr))(pm:Value):TE:=λσ H Q=>∃ps,H T=some (.tbl ps)∧TriplesOk ps.toList∧codeAmong pos ps.toList=none∧∀(f c':Addr) (ctv:Value),H f=none→H c'=none→f≠c'→Q (.ref f) (upd (upd (upd H T (.tbl (ps++#[rawInt pos.line,rawInt pos.col,.ref c']))) c' (cdO c' qual)) f (fnO f (kla_fn "<lambda>" qual params body scope clos pm (.ref c') ctv)))
theorem qDU{X:Cx}{c T:Addr}{params:Arguments}{body:Expr}{scope:Scope}{pos:Pos}{clos:List (Str×Addr)}(hcode:X.env.code=.ref c)(hcd:codeHdIn X.K c T=true)(B:BmIn X.base X.mg)(hcl:closureFor scope X.env=pure clos)(hdef:defaultsOf params X.env=([],[])):
 PE X (.Lambda params body scope pos) (qHL T pos (X.env.qual++"<lambda>") params body scope clos ((X.mg "__name__").getD .none)):=by(
intro pins s σ H Q I hZ
obtain⟨ps,hT,ht,hnf,q⟩:=hZ
have hP:s.heap.get? T=some (tabObj ps):=I.hok T _ hT
have hgs:s.heap.Ns mainGlobals X.mg:=I.ok.mod.glob.keeps I.bk
obtain⟨bm,ob,b1,b2,b3,b4,b5,b6⟩:=B
have b3':=I.bk _ _ b3
have hgP:mainGlobals≠T:=λz=>by obtain⟨o,es,ep,e,hd,_⟩:=hgs;rw[z,hP]at e;cases e;cases hd
have hbP:bm≠T:=λz=>by rw[z,hP]at b3';cases b3';cases b4
have hbG:bm≠mainGlobals:=λz=>by obtain⟨o,es,ep,e,hd,_⟩:=hgs;rw[z,e]at b3';cases b3';rw[hd]at b6;cases b6
refine kla_eval hdef (kla_makeFunction (clos:=clos) hcl I.ok.glob hgs hcode (nJ I.kIn hcd) hP ht hnf hgP ⟨bm,ob,b1,b2,hbG,hbP,b3',b4,b5,b6⟩ λc' ctv h' tk hx hge hlt hrec htb=>?_)
have trk:∀b u,s.heap.get? b=some u→b≠T→∀o,(h'.push o).get? b=some u:=λb u e n o=>hU _ (hx b u n e)
have sz:s.heap.objs.size≤h'.objs.size:=mI hge (wY hlt)
have nF:H h'.objs.size=none:=I.hok.fresh sz
have nC:H c'=none:=I.hok.fresh hge
have fc:h'.objs.size≠c':=d0 hlt
have other:∀{b:Addr},b≠T→b≠c'→b≠h'.objs.size→∀u:HO,(upd (upd (upd H T (.tbl (ps++#[rawInt pos.line,rawInt pos.col,.ref c']))) c' (cdO c' (X.env.qual++"<lambda>"))) h'.objs.size (fnO h'.objs.size (kla_fn "<lambda>" (X.env.qual++"<lambda>") params body scope clos ((X.mg "__name__").getD .none) (.ref c') ctv))) b=H b:=fun {b} z1 z2 z3 _=>by rw[qC z3,qC z2,qC z1]
refine⟨.ref h'.objs.size,_,?_,rfl,q _ c' ctv nF nC fc⟩
refine I.un (t':=tk) ⟨λb o e n _ _=>trk b o e (qF hT n).symm _,λb o e n _ _=>⟨o.slots,trk b o e (qF hT n).symm _⟩,λb o e n _=>?_,λb o e _=>?_,λb xs e=>?_,λb o u e=>?_,λb qs e=>?_⟩ λb u e=>?_
·have hb:b<s.heap.objs.size:=kM e;rw[other (qF hT n).symm (mF (kZ hb hge)) (mF (kZ hb sz)) (.lst [])];exact n
·by_cases z:b=T
 ·subst z;exact⟨_,hU _ htb⟩
 exact⟨o,trk b o e z _⟩
·rw[other (λz=>by rw[z,hT]at e;cases e) (qF e nC) (qF e nF) (.lst [])];exact e
·rw[other (λz=>by rw[z,hT]at e;cases e) (qF e nC) (qF e nF) (.lst [])];exact e
·by_cases z:b=T
 ·subst z;rw[hT]at e;cases e;refine⟨#[rawInt pos.line,rawInt pos.col,.ref c'],?_⟩;rw[qC (qF hT nF),qC (qF hT nC)];exact qH
 exact⟨#[],by rw[other z (qF e nC) (qF e nF) (.lst []),e];simp⟩
by_cases z3:b=h'.objs.size
·subst z3;rw[qH]at e;cases e;exact qCD (kY _ rfl)
by_cases z2:b=c'
·subst z2;rw[qC z3,qH]at e;cases e;exact qG8 (hrec.push _)
by_cases z:b=T
·subst z;rw[qC z3,qC z2,qH]at e;cases e;exact hU _ htb
rw[other z z2 z3 (.lst [])]at e
refine(I.hok b u e).stay (λd v hd r=>trk d v r (λy=>?_) _) (λd r=>?_) λd xs r=>?_
·rcases hd with hd|hd
 ·exact z (hd▸y)
 rw[y,hT]at hd;cases hd
·rw[other (λy=>by rw[y,hT]at r;cases r) (qF r nC) (qF r nF) (.lst [])];exact r
rw[other (λy=>by rw[y,hT]at r;cases r) (qF r nC) (qF r nF) (.lst [])];exact r)
noncomputable abbrev envL(qual:Str)(scope:Scope)(clos:List (Str×Addr))(L f:Addr)(cd:Value):Env:=newEnv scope L mainGlobals clos (qual++".<locals>.") (some f) cd none builtinsNs
noncomputable def qCE(CX:CXT)(P:Program)(w:World)(K:PySem.W.Frag)(mg:Str→Option Value)(base:Heap)(N:List Str)(qual:Str)(scope:Scope)(clos:List (Str×Addr))(f:Addr)(cd:Value)(A:Around)(outer:List Env)(s:Shared)(H:Hp)(E:XK):Cx where
prog:=P
w:=w
K:=K
mg:=mg
base:=base
A:=A.deeper (envL qual scope clos s.heap.objs.size f cd)
N:=N
s₀:=s
H₀:=H
env:=envL qual scope clos s.heap.objs.size f cd
outer:=outer
stack:=envL qual scope clos s.heap.objs.size f cd::outer
ex:=[]
calm:=true
fn:=λ_=>false
pn:=[]
xe:=λe s'=>wpAny (model P w) (A.deeper (envL qual scope clos s.heap.objs.size f cd)) (leaving (envL qual scope clos s.heap.objs.size f cd) e) (λ_ s''=>CX outer H s E e s'') (λe' s''=>CX outer H s E e' s'') s'
structure LamSc(scope:Scope)(x0:Str)(clos:List (Str×Addr))(fvs:List V)(base:Heap):Prop where
kind:scope.kind=.function
co:scope.isCoroutine=false
gen:scope.isGenerator=false
par:scope.names.lookup x0=some .local
nocell:∀y∈scope.names,y.2≠ .cell
free:∀y,scope.names.lookup y=some .free→∃c,clos.lookup y=some c
inj:∀x y c,clos.lookup x=some c→clos.lookup y=some c→x=y
at':∀(j:Nat) (x:Str) (c:Addr),clos[j]?=some (x,c)→scope.names.lookup x=some .free∧clos.lookup x=some c∧∃v u,fvs[j]?=some v∧RelV v u∧base.IsCell c (some u)
len:fvs.length=clos.length
theorem qDV{CX:CXT}{P:Program}{w:World}{K:PySem.W.Frag}{mg:Str→Option Value}{base:Heap}{k:Nat}{f c:Addr}{name qual:Str}{params:Arguments}{body:Expr}{scope:Scope}{pm ct:Value}{x0:Str}{clos:List (Str×Addr)}{fvs:List V}{sp:Sp}(S:LamSc scope x0 clos fvs base)
 (len:∀vs H Q E,sp vs H Q E→vs.length=1) (hf:∀vs H Q E,sp vs H Q E→H f=some (fnO f (kla_fn name qual params body scope clos pm (.ref c) ct))∧H c=some (cdO c qual))
 (hbody:∀(A:Around) (outer:List Env) (s:Shared) (H:Hp) (v0:V) (Q:VK) (E:XK),Room k (A.deeper (envL qual scope clos s.heap.objs.size f (.ref c)))→sp [v0] H Q E→∃t,PE (qCE CX P w K mg base (x0::clos.map (·.1)) qual scope clos f (.ref c) A outer s H E) body t∧t (some v0::fvs.map some) H Q):
 FnOk P w K mg base CX (k+1) f (kla_fn name qual params body scope clos pm (.ref c) ct) [x0] sp:=by(
refine⟨len,λA outer s H args us vs Q E hr e0 hb r hsp=>?_⟩
have hl:=len _ _ _ _ hsp
obtain⟨v0,rfl⟩:∃v0,vs=[v0]:=match vs,hl with| [v],_=>⟨v,rfl⟩
obtain⟨u0,rfl,r0⟩:=vU r
have lim:s.heap.NoLimit:=e0.mod.nolimit.keeps λb o e=>(e0.bs b o e).1
obtain⟨hf1,hc1⟩:=hf _ _ _ _ hsp
refine kla_callFunE hr.depth (qG9 e0.hok hf1) rfl S.co S.gen rfl (qGA e0.hok hc1) (hb _ _ _ _ ?_)
refine pQ S.nocell (λy hy=>?_) (λh' hn hs=>?_) S.kind
·obtain rfl:y=(x0,u0):=by simpa using hy
 exact S.par
have hk:∀b o,s.heap.get? b=some o→h'.get? b=some o:=λb o e=>by have:=hs.2 b (mF (kM e));rw[this];exact hU _ e
refine⟨lim.keeps hk,kla_codeExpr ?_⟩
obtain⟨t,ht,hq⟩:=hbody A outer s H v0 Q E (hr.deeper _) hsp
have noA:∀b:Addr,b∉(qCE CX P w K mg base (x0::clos.map (·.1)) qual scope clos f (.ref c) A outer s H E).ex:=λb z=>absurd (show b∈([]:List Addr)from z) (by simp)
have cat:∀y d,clos.lookup y=some d→∃u,base.IsCell d (some u):=λy d e=>by obtain⟨j,hj,ej⟩:=p6 (mU e);obtain⟨_,_,v,u,_,_,hu⟩:=S.at' j y d (kD.mpr ⟨hj,ej⟩);exact⟨u,hu⟩
have I:Inv (qCE CX P w K mg base (x0::clos.map (·.1)) qual scope clos f (.ref c) A outer s H E) [] (some v0::fvs.map some) H { s with heap:=h',toks:=s.toks + [(x0,u0)].length }:=by
 refine⟨⟨e0.mod,S.kind,rfl,rfl,kH _,S.inj,λy hy=>?_,λy c z _=>absurd (show false=true from z) (by decide),λ_=>hr.hd,pM e0.frames,.inr ⟨rfl,rfl⟩,λb z=>absurd z (noA b),e0.bs,e0.bsz,λb _ _=>noA b,λb z=>absurd z (noA b),e0.funs,e0.frf⟩,rfl,e0.bare,Un.kept hk,⟨_,hn,λi y v h1 h2 h3=>?_⟩,λy d e=>?_,e0.hok.fresh (kH _),λy d e=>?_,λp hp=>absurd (show p∈([]:List (Addr×Obj))from hp) (by simp),e0.hok.kept hk,?_⟩
 ·have hy:scope.names.lookup y=some .cell∨scope.names.lookup y=some .free:=hy;rcases hy with hy|hy
  ·exact absurd rfl (S.nocell _ (mU hy))
  exact S.free y hy
 ·cases i with
  |zero=>obtain rfl:=kP h1;obtain rfl:=kP (kP h2);refine⟨u0,r0,.inl ⟨S.par,?_⟩⟩;show([(x0,u0)]:List (Str×Value)).reverse.lookup x0=some u0;simp
  |succ j=>have h1:(clos.map (·.1))[j]?=some y:=h1;have h2:(fvs.map some)[j]?=some (some v):=h2;rw[mC]at h1 h2;obtain⟨⟨y',d⟩,hd,rfl⟩:=mY.mp h1;obtain⟨v',hv,ev⟩:=mY.mp h2;obtain rfl:=kP ev;obtain⟨a1,a2,v2,u,a3,a4,a5⟩:=S.at' j _ d hd;rw[hv]at a3;obtain rfl:=kP a3;exact⟨u,a4,.inr ⟨.inr a1,d,a2,a5.keeps λb o e=>hk b o (e0.bs b o e).1⟩⟩
 ·obtain⟨u,hu⟩:=cat y d e;exact⟨_,hu.keeps λb o e=>hk b o (e0.bs b o e).1⟩
 ·obtain⟨u,o,ho,_⟩:=cat y d e;exact(e0.bs _ _ ho).2
 show(some v0::fvs.map some).length=(x0::clos.map (·.1)).length;rw[mQ,mQ,hV,hV,S.len]
exact gJ (ht [] _ _ H _ I hq) (λu s' ⟨v,H',J,rv,q⟩=>⟨v,H',J.os,J.bare,J.base,J.hok,rv,q⟩) λe s' hs=>hs)
end L2
namespace L2
open PySem PySem.Spec PyProof.Rows
section
variable{X:Cx}{pins:List (Addr×Obj)}{σ:St}{H:Hp}{s:Shared}{a:Addr}
theorem Inv.freeze{kvs:List (Key×V)}{o:Obj}(I:Inv X pins σ H s)(e:H a=some (.dK kvs))(ho:s.heap.get? a=some o):Inv X pins σ (upd H a (.frz o (.dK kvs))) s:=by(
have ne:∀b u,H b=some u→u≠ .dK kvs→b≠a:=λb u q n z=>by rw[z,e]at q;exact n (kP q).symm
have nn:∀b,H b=none→b≠a:=λb q z=>by rw[z,e]at q;cases q
refine⟨I.ok,I.os,I.bare,I.base.trans ⟨λb u q _ _ _=>q,λb u q _ _ _=>⟨u.slots,q⟩,λb u q n _=>by rw[qC (nn b n)];exact n,λb u q _=>⟨u,q⟩,λb xs q=>by rw[qC (ne b _ q (by intro z;cases z))];exact q,λb u v q=>by rw[qC (ne b _ q (by intro z;cases z))];exact q,λb ps q=>⟨#[],by rw[qC (ne b _ q (by intro z;cases z)),q];simp⟩⟩,I.loc,I.cell,by rw[qC (nn _ I.free)];exact I.free,λx c q=>by rw[qC (nn _ (I.freeC x c q))];exact I.freeC x c q,λp hp=>?_,λb u q=>?_,I.len⟩
·obtain⟨q1,q2,q3⟩:=I.pin p hp;exact⟨q1,by rw[qC (nn _ q2)];exact q2,q3⟩
have st:∀b u,jP X.prog X.w H s.heap b u→jP X.prog X.w (upd H a (.frz o (.dK kvs))) s.heap b u:=λb u q=>q.stay (λ_ _ _ z=>z) (λc z=>by rw[qC (ne c _ z (by intro z;cases z))];exact z) (λc xs z=>by rw[qC (ne c _ z (by intro z;cases z))];exact z)
by_cases hb:b=a
·subst hb;rw[qH]at q;cases q;exact⟨ho,st b _ (I.hok b _ e)⟩
rw[qC hb]at q
exact st b u (I.hok b u q))
theorem Inv.thaw{o:Obj}{u:HO}(I:Inv X pins σ H s)(hne:∀o u,X.H₀ a≠some (.frz o u))(e:H a=some (.frz o u)):Inv X pins σ (upd H a u) s:=by(
have ne:∀b v,H b=some v→v≠ .frz o u→b≠a:=λb v q n z=>by rw[z,e]at q;exact n (kP q).symm
have nn:∀b,H b=none→b≠a:=λb q z=>by rw[z,e]at q;cases q
have nf:∀b v,X.H₀ b=some v→(∃o' u',v=.frz o' u')→b≠a:=λb v q ⟨o',u',z⟩ w=>by rw[w,z]at q;exact hne o' u' q
refine⟨I.ok,I.os,I.bare,⟨I.base.keep,I.base.slot,λb v q n hx=>?_,I.base.there,λb xs q=>?_,λb v w q=>?_,λb ps q=>?_⟩,I.loc,I.cell,by rw[qC (nn _ I.free)];exact I.free,λx c q=>by rw[qC (nn _ (I.freeC x c q))];exact I.freeC x c q,λp hp=>?_,λb v q=>?_,I.len⟩
·have:=I.base.free b v q n hx;rw[qC (nn b this)];exact this
·have:=I.base.tups b xs q;rw[qC (ne b _ this (by intro z;cases z))];exact this
·rw[qC (nf b _ q ⟨_,_,rfl⟩)];exact I.base.frzs b v w q
·obtain⟨more,q2⟩:=I.base.tbls b ps q;exact⟨more,by rw[qC (ne b _ q2 (by intro z;cases z))];exact q2⟩
·obtain⟨q1,q2,q3⟩:=I.pin p hp;exact⟨q1,by rw[qC (nn _ q2)];exact q2,q3⟩
have st:∀b v,jP X.prog X.w H s.heap b v→jP X.prog X.w (upd H a u) s.heap b v:=λb v q=>q.stay (λ_ _ _ z=>z) (λc z=>by rw[qC (ne c _ z (by intro z;cases z))];exact z) (λc xs z=>by rw[qC (ne c _ z (by intro z;cases z))];exact z)
by_cases hb:b=a
·subst hb;rw[qH]at q;cases q;exact st b _ (I.hok b _ e).2
rw[qC hb]at q
exact st b v (I.hok b v q))
end
noncomputable def Itd(a:Addr)(o:Obj)(kvs:List (Key×V)):It:=⟨λi H=>H a=some (.frz o (.dK kvs))∧i<kvs.length,λi H x H'=>H'=H∧∃kv,kvs[i]?=some kv∧x=kV kv.1,λi H=>H a=some (.frz o (.dK kvs))∧kvs.length≤i⟩
theorem qAY{P:Program}{w:World}{K:PySem.W.Frag}{tg:Expr}(a it:Addr)(o:Obj){kvs:List (Key×V)}{vs:List (Key×Value)}{ep:Nat}(rel:KV kvs vs)(hD:∀h:Heap,h.get? a=some o→h.DictAt (qX P w) a vs ep):
 Turn P w K tg (Itd a o kvs) [it] it (λi h=>h.IsKeyIter it a i vs.length ep) where
mem:=by simp
obj:=λi h st b hb=>by
 have e:b=it:=by simpa using hb
 subst e;obtain⟨o',e,c,d⟩:=st;exact⟨o',e,λv z=>by rw[d]at z;cases z⟩
keep:=λi h h' st k=>st.at λo e=>k it (by simp) o e
item:=by
 intro X hP hw hK hc i pins s σ H E I hf st hg;subst hP hw hK;obtain⟨ha,hi⟩:=hg;obtain⟨ho,_⟩:=I.hok a _ ha;have hl:=rel.length;have hi':i<vs.length:=by lia
 obtain⟨f0,f1,f2,f3,f4,f5⟩:=hf it (by simp);refine wpAny_pyNext_dict_item (k:=vs[i].1) (v:=vs[i].2) st (hD _ ho) (hX hi') λkey h' hk st' sb=>?_;have I1:Inv X pins σ H { s with heap:=h' }:=I.turned (t':=s.toks) (λb o hb e=>(sb.2 b hb).trans e) f0 f1 f3 f4 f5;obtain⟨o',e',c',d'⟩:=id st';refine⟨key,rfl,q9P (s:={ s with heap:=h' }) e' c' d' (by decide) ⟨kV kvs[i].1,H,I1,?_,⟨rfl,kvs[i],hX hi,rfl⟩,st',λb hb=>(hf b hb).1⟩⟩;have ek:=dS (λl=>l[i]?) rel.keys;simp only[mC,hX hi,hX hi',nO]at ek;rw[kP ek];exact qEU hk
done:=by intro X hP hw hK hc i pins s σ H E I hf st hg;subst hP hw hK;obtain⟨ha,hi⟩:=hg;obtain⟨ho,_⟩:=I.hok a _ ha;have hl:=rel.length;obtain⟨f0,f1,f2,f3,f4,f5⟩:=hf it (by simp);exact wpAny_pyNext_dict_end (I.ok.hd hc) st (hD _ ho) (dL (by lia)) λh' eb=>⟨rfl,I.turned (t':=s.toks) (λb o hb e=>eb b o hb e) f0 f1 f3 f4 f5⟩
self:=λ_ _ _ _ _ st h=>wpAny_pyIter_keyiter st h
section
variable{X:Cx}{tg:Expr}
noncomputable def iDct(td:TE):TI:=λσ H R=>td σ H λx H1=>∃a kvs,x=.ref a∧H1 a=some (.dK kvs)∧∀o,R (Itd a o kvs) (upd H1 a (.frz o (.dK kvs)))
theorem qDW{d:Expr}{td:TE}(hd:PE X d td):PI X tg d (iDct td):=by(
intro pins s σ H R I h
refine thn (hd pins s σ H _ I h) λv s1 hZ=>?_
obtain⟨x,H1,I1,r1,q1⟩:=hZ
obtain⟨a,kvs,e,ha,q⟩:=q1
subst e
cases r1
obtain⟨z,lo,vs,rel,dd⟩:=q6E I1.hok ha
obtain⟨ep,hat⟩:=dd.dictAt
obtain⟨o,es,ho,hr⟩:=id hat
have I2:=I1.freeze ha ho
refine wpAny_pyIter_dict lo hat ?_
refine⟨s1.heap.objs.size,[s1.heap.objs.size],_,_,_,rfl,I2.kept (t':=s1.toks) λb o e=>hU _ e,qAY a _ o rel (λh' h=>⟨o,es,h,hr⟩),⟨_,kY _ rfl,rfl,rfl⟩,λb hb=>?_,q o⟩
have e:b=s1.heap.objs.size:=by simpa using hb
subst e
exact I2.fpOk (kH _) (I2.hok.fresh (kH _)))
theorem qGB{pins:List (Addr×Obj)}{σ:St}{H:Hp}{s:Shared}{a:Addr}{kvs:List (Key×V)}(I:Inv X pins σ H s)(e:H a=some (.dK kvs)):∀o u,X.H₀ a≠some (.frz o u):=λo u q=>by have:=I.base.frzs a o u q;rw[e]at this;cases this
noncomputable def qHM(t:TE):TE:=λσ H Q=>∃a kvs,H a=some (.dK kvs)∧t σ H λv H'=>∃o u,H' a=some (.frz o u)∧Q v (upd H' a u)
theorem qA3{e:Expr}{t:TE}(h:PE X e t):PE X e (qHM t):=by(
intro pins s σ H Q I hZ
obtain⟨a,kvs,ha,q⟩:=hZ
have nf:=qGB I ha
refine thn (h pins s σ H _ I q) λu s' ⟨v,H',I',r,o,w,e,q⟩=>⟨v,_,I'.thaw nf e,r,q⟩)
theorem qDX{a:Addr}{o:Obj}{kvs:List (Key×V)}{D:Addr}{H2:Hp}{g:TG}{tc:TT}{te:TE}{σ0:St}{Q:VK}(Pv:Nat→Hp→Prop)(h0:Pv 0 H2)(hl:∀i H,Pv i H→H a=some (.frz o (.dK kvs)))
 (hs:∀(i:Nat) kv H,kvs[i]?=some kv→Pv i H→g (kV kv.1) σ0 H λσ5 H5=>tc σ5 H5 λb H6=>if b=true then te σ5 H6 (λv H7=>∃vs,H7 D=some (.lst vs)∧vs.length<sizeLine∧Pv (i+1) (upd H7 D (.lst (vs++[v]))))else Pv (i+1) H6) (hd:∀H,Pv kvs.length H→Q (.ref D) H):
 ∃W:Nat→Nat→Hp→Prop,(∃m,W 0 m H2)∧∀i m H3,W i m H3→((Itd a o kvs).stop i H3∧Q (.ref D) H3)∨((Itd a o kvs).go i H3∧∃N:Hp→Prop,(∀H',N H'→∃m',m'<m∧W (i+1) m' H')∧∀x H4,(Itd a o kvs).yld i H3 x H4→g x σ0 H4 λσ5 H5=>tc σ5 H5 λb H6=>
   if b=true then te σ5 H6 (λv H7=>∃vs,H7 D=some (.lst vs)∧vs.length<sizeLine∧N (upd H7 D (.lst (vs++[v]))))else N H6):=by(
refine⟨λi m H=>m=kvs.length-i∧i≤kvs.length∧Pv i H,⟨kvs.length,by simp,mJ _,h0⟩,?_⟩
rintro i m H ⟨rfl,hi,p⟩
have q:=hl i H p
by_cases hlt:i<kvs.length
·refine .inr ⟨⟨q,hlt⟩,Pv (i+1),λH' z=>⟨kvs.length-(i+1),by lia,rfl,by lia,z⟩,?_⟩;rintro v H' ⟨rfl,kv,hk,rfl⟩
 exact hs i kv _ hk p
obtain rfl:i=kvs.length:=by lia
exact .inl ⟨⟨q,kH _⟩,hd _ p⟩)
end
noncomputable def q3P(v a:Addr):HO:=.ext λh=>h.IsItemsView v a
theorem qCF{P:Program}{w:World}{H:Hp}{h:Heap}{v a:Addr}(e:h.IsItemsView v a):jP P w H h v (q3P v a):=by obtain⟨o,e1,e2,e3⟩:=id e;exact⟨e,⟨_,e1⟩,λ_ _ ⟨o,a1,a2⟩ k=>⟨o,k _ a1,a2⟩⟩
theorem qCG{P:Program}{w:World}{H:Hp}{h:Heap}{v a:Addr}(ok:HOk P w H h)(e:H v=some (q3P v a)):h.IsItemsView v a:=(ok v _ e).1
noncomputable def qGC:V→List V→Hp→VK→Prop:=λx vs H Q=>∃a kvs,x=.ref a∧vs=[]∧H a=some (.dK kvs)∧∀v,H v=none→Q (.ref v) (upd H v (q3P v a))
theorem qCH{X:Cx}:MtR X "dict.items" qGC:=by(
intro pins s σ H x vs v us Q I rx rv hZ
obtain⟨a,kvs,ex,ev,ha,q⟩:=hZ
subst ex ev
cases rx
have hus:=rv.zero
subst hus
obtain⟨z,lo,ws,rel,dd⟩:=q6E I.hok ha
refine c8 cX dd.typeIs PySem.F.entry_dict_items (PySem.F.args_dict_items_1 _) (meets_dict_items (qX X.prog X.w) a lo) ⟨⟨ws,dd⟩,?_⟩
exact⟨.ref s.heap.objs.size,_,I.laid (t':=s.toks) (λb o e=>hU _ e) (kH _) (qCF ⟨_,kY _ rfl,rfl,rfl⟩),rfl,q _ (I.hok.fresh (kH _))⟩)
theorem q4Y:entryFor table "dict_itemiterator.__iter__"=some Builtin.«dict_keyiterator.__iter__»:=entryFor_alias (id':="dict_keyiterator.__iter__") (by kernel_rfl) (by first|decide+kernel|rfl|(unfold String.splitOn;simp+decide [String.splitOnAux])) (by decide+kernel) (by kernel_rfl)
noncomputable def Iti(a:Addr)(o:Obj)(kvs:List (Key×V)):It:=⟨λi H=>H a=some (.frz o (.dK kvs))∧i<kvs.length,λi H v H'=>∃T kv,v=.ref T∧H T=none∧H'=upd H T (.tup [kV kv.1,kv.2])∧kvs[i]?=some kv,λi H=>H a=some (.frz o (.dK kvs))∧kvs.length≤i⟩
theorem q97{P:Program}{w:World}{K:PySem.W.Frag}{elts:List Expr}{x1}{pos:Pos}(a it:Addr)(o:Obj){kvs:List (Key×V)}{vs:List (Key×Value)}{ep:Nat}(rel:KV kvs vs)(hD:∀h:Heap,h.get? a=some o→h.DictAt (qX P w) a vs ep):
 Turn P w K (.Tuple elts x1 pos) (Iti a o kvs) [it] it (λi h=>∃k0 v0,IsItemIter h it a i vs.length ep k0 v0) where
mem:=by simp
obj:=λi h st b hb=>by
 have e:b=it:=by simpa using hb
 subst e;obtain⟨k0,v0,e⟩:=st;exact⟨_,e,λv z=>by cases z⟩
keep:=λi h h' st k=>let⟨k0,v0,e⟩:=st;⟨k0,v0,k it (by simp) _ e⟩
item:=by
 intro X hP hw hK hc i pins s σ H E I hf st hg;subst hP hw hK;obtain⟨ha,hi⟩:=hg;obtain⟨ho,_⟩:=I.hok a _ ha;have hl:=rel.length;have hi':i<vs.length:=by lia
 obtain⟨k0,v0,st⟩:=st;obtain⟨f0,f1,f2,f3,f4,f5⟩:=hf it (by simp);refine wpAny_pyNext_items_item (k:=vs[i].1) (v:=vs[i].2) st (hD _ ho) (hX hi') λkey h' hk b1 b5 b6 b7=>?_;refine⟨_,rfl,wpAny_letOwnedTupleGo_items (s:={ s with heap:=h' }) b1 λh'' c1 c2=>?_⟩;have kk:∀b o,b∉[it]→s.heap.get? b=some o→h''.get? b=some o:=λb o hb e=>by have nb:b≠it:=λz=>hb (kC.mpr z);exact c2.extBut _ _ nb (b7 b o nb e)
 have I1:Inv X pins σ H { s with heap:=h'' }:=I.turnedN (t':=s.toks) kk hf;have fr:H s.heap.objs.size=none:=I.hok.fresh (kH _);have yg:=I.young (a:=s.heap.objs.size) (wN (kH _));have nit:s.heap.objs.size≠it:=d0 (kM st);have ek:=dS (λl=>l[i]?) rel.keys;simp only[mC,hX hi,hX hi',nO]at ek;have rk:RelV (kV kvs[i].1) key:=by rw[kP ek];exact qEU hk
 have rv:RelV kvs[i].2 vs[i].2:=by obtain⟨q,hq,z1,z2⟩:=Paired.at rel (hX hi);rw[hX hi']at hq;rw[kP hq];exact z2
 have I2:=I1.trackG (o:=.tup [kV kvs[i].1,kvs[i].2]) fr yg (d0 I.lt) (λx' c' w q'=>by obtain⟨v,o',ho,_⟩:=I.cell x' c' w;exact absurd (kM ho) (by rw[q'];exact gS _)) ⟨by rw[gK,mQ,mQ,pC];lia,[key,vs[i].2],.cons rk (.cons rv .nil),⟨_,c2.extBut _ _ nit b5,rfl,_,rfl⟩⟩;refine⟨.ref s.heap.objs.size,_,I2,rfl,⟨_,kvs[i],rfl,fr,rfl,hX hi⟩,⟨_,_,c1⟩,λb hb=>?_⟩;have e:b=it:=by simpa using hb
 subst e;rw[qC (dD nit)];exact(hf b hb).1
done:=by intro X hP hw hK hc i pins s σ H E I hf st hg;subst hP hw hK;obtain⟨ha,hi⟩:=hg;obtain⟨ho,_⟩:=I.hok a _ ha;have hl:=rel.length;obtain⟨k0,v0,st⟩:=st;obtain⟨f0,f1,f2,f3,f4,f5⟩:=hf it (by simp);exact wpAny_pyNext_items_end (I.ok.hd hc) st (hD _ ho) (dL (by lia)) λh' eb=>⟨rfl,I.turned (t':=s.toks) (λb o hb e=>eb b o hb e) f0 f1 f3 f4 f5⟩
self:=λA i s Q E ⟨k0,v0,st⟩ h=>by have ty:s.TypeIs (.ref it) "dict_itemiterator":=⟨_,st,rfl⟩;refine wpAny_pyIter_slot ty rT (wpAny_call_entry rT ty q4Y ?_ (PySem.F.args_dict_itemiterator_iter_1 _));show wpAny _ _ (ret (.ref it)) _ _ s;exact kX ⟨_,rfl,"dict_itemiterator",_,ty,PySem.F.slot_dict_itemiterator_next.lookup,h⟩
section
variable{X:Cx}
noncomputable def iItm(td:TE):TI:=λσ H R=>td σ H λx H1=>∃v a kvs,x=.ref v∧H1 v=some (q3P v a)∧H1 a=some (.dK kvs)∧∀o,R (Iti a o kvs) (upd H1 a (.frz o (.dK kvs)))
theorem qGD{elts:List Expr}{x1}{pos:Pos}{d:Expr}{td:TE}(hd:PE X d td):PI X (.Tuple elts x1 pos) d (iItm td):=by(
intro pins s σ H R I h
refine thn (hd pins s σ H _ I h) λv s1 hZ=>?_
obtain⟨x,H1,I1,r1,q1⟩:=hZ
obtain⟨vw,a,kvs,e,hv,ha,q⟩:=q1
subst e
cases r1
obtain⟨z,lo,vs,rel,dd⟩:=q6E I1.hok ha
obtain⟨ep,hat⟩:=dd.dictAt
obtain⟨o,es,ho,hr⟩:=id hat
have I2:=I1.freeze ha ho
refine wpAny_pyIter_items (qCG I1.hok hv) hat ?_
refine⟨s1.heap.objs.size,[s1.heap.objs.size],_,_,_,rfl,I2.kept (t':=s1.toks) λb o e=>hU _ e,q97 a _ o rel (λh' h=>⟨o,es,h,hr⟩),⟨_,_,kY _ rfl⟩,λb hb=>?_,q o⟩
have e:b=s1.heap.objs.size:=by simpa using hb
subst e
exact I2.fpOk (kH _) (I2.hok.fresh (kH _)))
end
theorem qDY{a:Addr}{o:Obj}{kvs:List (Key×V)}{D:Addr}{H2:Hp}{g:TG}{tc:TT}{te:TE}{σ0:St}{R:Hp→Prop}(Pv:Nat→Hp→Prop)(h0:Pv 0 H2)(hl:∀i H,Pv i H→H a=some (.frz o (.dK kvs)))
 (hs:∀(i:Nat) kv T H,kvs[i]?=some kv→Pv i H→H T=none→g (.ref T) σ0 (upd H T (.tup [kV kv.1,kv.2])) λσ5 H5=>tc σ5 H5 λb H6=>if b=true then te σ5 H6 (λv H7=>∃vs,H7 D=some (.lst vs)∧vs.length<sizeLine∧Pv (i+1) (upd H7 D (.lst (vs++[v]))))else Pv (i+1) H6) (hd:∀H,Pv kvs.length H→R H):
 ∃W:Nat→Nat→Hp→Prop,(∃m,W 0 m H2)∧∀i m H3,W i m H3→((Iti a o kvs).stop i H3∧R H3)∨((Iti a o kvs).go i H3∧∃N:Hp→Prop,(∀H',N H'→∃m',m'<m∧W (i+1) m' H')∧∀x H4,(Iti a o kvs).yld i H3 x H4→g x σ0 H4 λσ5 H5=>tc σ5 H5 λb H6=>
   if b=true then te σ5 H6 (λv H7=>∃vs,H7 D=some (.lst vs)∧vs.length<sizeLine∧N (upd H7 D (.lst (vs++[v]))))else N H6):=by(
refine⟨λi m H=>m=kvs.length-i∧i≤kvs.length∧Pv i H,⟨kvs.length,by simp,mJ _,h0⟩,?_⟩
rintro i m H ⟨rfl,hi,p⟩
have q:=hl i H p
by_cases hlt:i<kvs.length
·refine .inr ⟨⟨q,hlt⟩,Pv (i+1),λH' z=>⟨kvs.length-(i+1),by lia,rfl,by lia,z⟩,?_⟩;rintro v H' ⟨T,kv,rfl,nT,rfl,hk⟩
 exact hs i kv T _ hk p nT
obtain rfl:i=kvs.length:=by lia
exact .inl ⟨⟨q,kH _⟩,hd _ p⟩)
end L2
namespace L2
open PySem PySem.W PyProof.Rows
noncomputable def hT{α:Type}(c:Nat→Nat→Bool)(n:Nat):KasT α→(α→Prop)→Prop
| .ret a,Q=>Q a
| .ask i j k,Q=>i<n∧j<n∧hT c n (k (c i j)) Q
theorem yQ{α:Type}{c:Nat→Nat→Bool}{n:Nat}{Q Q':α→Prop}(h:∀a,Q a→Q' a):∀t:KasT α,hT c n t Q→hT c n t Q'
| .ret a,q=>h a q
| .ask i j k,q=>⟨q.1,q.2.1,yQ h (k (c i j)) q.2.2⟩
theorem q17{α β:Type}{c:Nat→Nat→Bool}{n:Nat}{f:α→KasT β}{Q:β→Prop}:∀t:KasT α,hT c n t (λa=>hT c n (f a) Q)→hT c n (t.bind f) Q
| .ret a,q=>q
| .ask i j k,q=>⟨q.1,q.2.1,q17 (k (c i j)) q.2.2⟩
theorem qEV{α:Type}{c:Nat→Nat→Bool}{n:Nat}{cmp:Nat→Nat→(Bool→Shared→Prop)→Shared→Prop}{G:α→Shared→Prop}{s:Shared}(hc:∀i j C,i<n→j<n→C (c i j) s→cmp i j C s):
 ∀t:KasT α,hT c n t (λa=>G a s)→t.kasWp cmp G s
| .ret a,q=>q
| .ask i j k,q=>hc i j _ q.1 q.2.1 (qEV hc (k (c i j)) q.2.2)
section
variable{r:Nat→Int}{n:Nat}
noncomputable abbrev rc(r:Nat→Int):Nat→Nat→Bool:=λi j=>decide (r i<r j)
noncomputable abbrev kk(r:Nat→Int)(p:Array Nat)(i:Nat):Int:=r (p.getD i 0)
noncomputable def Srt(r:Nat→Int)(p:Array Nat)(m:Nat):Prop:=∀i j,i≤j→j<m→kk r p i≤kk r p j
noncomputable def Dec(r:Nat→Int)(p:Array Nat)(m:Nat):Prop:=∀i j,i≤j→j<m→kk r p j≤kk r p i
noncomputable def Gp(n:Nat)(p:Array Nat):Prop:=p.Perm (List.range n).toArray
theorem Gp.size{p:Array Nat}(g:Gp n p):p.size=n:=by have:=g.size_eq;simpa using this
theorem Gp.lt{p:Array Nat}(g:Gp n p){i:Nat}(h:i<n):p.getD i 0<n:=by(
have hi:i<p.size:=by rw[g.size];exact h
have e:p.getD i 0=p[i]:=by simp[Array.getD,hi]
have:p[i]∈(List.range n).toArray:=g.mem_iff.mp (Array.getElem_mem hi)
rw[e]
simpa using this)
theorem Srt.more{p:Array Nat}{m:Nat}(h:Srt r p m)(e:kk r p (m-1)≤kk r p m):Srt r p (m+1):=λi j hij hj=>by(
by_cases z:j<m
·exact h i j hij z
have ej:j=m:=by lia
subst ej
by_cases z2:i=j
·subst z2;exact rN _
exact sX (h i (j-1) (by lia) (by lia)) e)
theorem Dec.more{p:Array Nat}{m:Nat}(h:Dec r p m)(e:kk r p m≤kk r p (m-1)):Dec r p (m+1):=λi j hij hj=>by(
by_cases z:j<m
·exact h i j hij z
have ej:j=m:=by lia
subst ej
by_cases z2:i=j
·subst z2;exact rN _
exact sX e (h i (j-1) (by lia) (by lia)))
theorem q2J{p q:Array Nat}{i j:Nat}(h:p[i]?=q[j]?):p.getD i 0=q.getD j 0:=by rw[cB,cB,h]
theorem q98{p:Array Nat}{i j:Nat}(hj:j≤p.size)(k:Nat):(kas_rev p i j).getD k 0=if i≤k∧k<j then p.getD (i+j-1-k) 0 else p.getD k 0:=by(
unfold kas_rev
by_cases h:i≤k∧k<j
·rw[kJ h];exact q2J (by rw[p7 hj,kJ h])
rw[kI h]
exact q2J (by rw[p7 hj,kI h]))
theorem Gp.rev{p:Array Nat}(g:Gp n p)(i j:Nat):Gp n (kas_rev p i j):=(mirror_perm _ _ _ _).trans g
theorem q99{p:Array Nat}(g:Gp n p):∀(f m:Nat),1≤m→m+f≤n→Srt r p m→hT (rc r) n (kas_asc p f m) (λe=>m≤e∧e≤m+f∧Srt r p e∧(e<m+f→kk r p e<kk r p (e-1)))
|0,m,h1,hz,h=>⟨kH _,kH _,h,λz=>absurd z (gS _)⟩
|f+1,m,h1,hz,h=>by
 refine⟨g.lt (by lia),g.lt (by lia),?_⟩;by_cases e:r (p.getD m 0)<r (p.getD (m-1) 0)
 ·rw[show rc r (p.getD m 0) (p.getD (m-1) 0)=true from hI e];dsimp only;rw[kJ rfl];exact⟨kH _,by lia,h,λ_=>e⟩
 rw[show rc r (p.getD m 0) (p.getD (m-1) 0)=false from hG e];dsimp only;rw[kI kL];refine yQ ?_ _ (q99 g f (m+1) (by lia) (by lia) (h.more (by show r _≤r _;lia)));rintro a ⟨a1,a2,a3,a4⟩
 exact⟨by lia,by lia,a3,λz=>a4 (by lia)⟩
noncomputable def Eql(r:Nat→Int)(p:Array Nat)(a b:Nat):Prop:=∀k,a≤k→k<b→kk r p k=kk r p (b-1)
theorem q71{p:Array Nat}{i j:Nat}(hj:j≤p.size)(h:Eql r p i j)(k:Nat):kk r (kas_rev p i j) k=kk r p k:=by(
show r _=r _
rw[q98 hj]
by_cases z:i≤k∧k<j
·rw[kJ z];exact(h _ (by lia) (by lia)).trans (h k z.1 z.2).symm
rw[kI z])
theorem q4C:∀(f:Nat) (p:Array Nat) (m q:Nat),Gp n p→q+1≤m→m+f≤n→Dec r p m→Eql r p (m-(q+1)) m→hT (rc r) n (kas_desc f p m q) (λz=>Gp n z.1∧m≤z.2.1∧z.2.1≤m+f∧Dec r z.1 z.2.1∧z.2.2+1≤z.2.1∧Eql r z.1 (z.2.1-(z.2.2+1)) z.2.1)
|0,p,m,q,g,hq,hz,d,e=>⟨g,kH _,kH _,d,hq,e⟩
|f+1,p,m,q,g,hq,hz,d,e=>by
 have hs:=g.size;refine⟨g.lt (by lia),g.lt (by lia),?_⟩;by_cases c:r (p.getD m 0)<r (p.getD (m-1) 0)
 ·rw[show rc r (p.getD m 0) (p.getD (m-1) 0)=true from hI c];dsimp only;rw[kJ rfl];by_cases q0:q>0
  ·rw[kJ q0];have kq:=q71 (r:=r) (p:=p) (i:=m-(q+1)) (j:=m) (by lia) e;have d1:Dec r (kas_rev p (m-(q+1)) m) (m+1):=λi j hij hj=>by rw[kq,kq];exact d.more (cC c) i j hij hj
   refine yQ ?_ _ (q4C f _ (m+1) 0 (g.rev _ _) (by lia) (by lia) d1 λk h1 h2=>by rw[show k=m by lia];rfl);rintro a ⟨a1,a2,a3,a4⟩
   exact⟨a1,by lia,by lia,a4⟩
  rw[kI q0];refine yQ ?_ _ (q4C f p (m+1) 0 g (by lia) (by lia) (d.more (cC c)) λk h1 h2=>by rw[show k=m by lia];rfl);rintro a ⟨a1,a2,a3,a4⟩
  exact⟨a1,by lia,by lia,a4⟩
 rw[show rc r (p.getD m 0) (p.getD (m-1) 0)=false from hG c];dsimp only;rw[kI kL];refine⟨g.lt (by lia),g.lt (by lia),?_⟩;by_cases c2:r (p.getD (m-1) 0)<r (p.getD m 0)
 ·rw[show rc r (p.getD (m-1) 0) (p.getD m 0)=true from hI c2];dsimp only;rw[kJ rfl];exact⟨g,kH _,Nat.le_add_right _ _,d,hq,e⟩
 rw[show rc r (p.getD (m-1) 0) (p.getD m 0)=false from hG c2];dsimp only;rw[kI kL];have ee:r (p.getD m 0)=r (p.getD (m-1) 0):=by lia
 refine yQ ?_ _ (q4C f p (m+1) (q+1) g (by lia) (by lia) (d.more (Int.le_of_eq ee)) λk h1 h2=>?_)
 ·rintro a ⟨a1,a2,a3,a4⟩
  exact⟨a1,by lia,by lia,a4⟩
 show r (p.getD k 0)=r (p.getD m 0);by_cases z:k=m
 ·rw[z]
 rw[ee];exact e k (by lia) (by lia)
theorem qA4{p:Array Nat}{m:Nat}(g:Gp n p)(h1:1≤m)(hm:m≤n)(d:Dec r p m):hT (rc r) n (kas_tail3 m n p) (λz=>Gp n z.2∧1≤z.1∧z.1≤n∧Srt r z.2 z.1):=by(
have hs:=g.size
have sr:Srt r (kas_rev p 0 m) m:=λi j hij hj=>by show r _≤r _;rw[q98 (by lia),q98 (by lia),kJ ⟨mJ _,by lia⟩,kJ ⟨mJ _,hj⟩];exact d _ _ (by lia) (by lia)
refine q17 _ (yQ ?_ _ (q99 (g.rev 0 m) (n-m) m h1 (by lia) sr))
rintro a ⟨a1,a2,a3,_⟩
exact⟨g.rev _ _,by lia,by lia,a3⟩)
theorem qA5{p:Array Nat}{m:Nat}(g:Gp n p)(hm:m+1≤n)(d:Dec r p (m+1)):hT (rc r) n (kas_descPart m n p) (λz=>Gp n z.2∧1≤z.1∧z.1≤n∧Srt r z.2 z.1):=by(
refine q17 _ (yQ ?_ _ (q4C (n-(m+1)) p (m+1) 0 g (by lia) (by lia) d λk h1 h2=>by rw[show k=m by lia];rfl))
rintro⟨p',m',q'⟩ ⟨a1,a2,a3,a4,a5,a6⟩
dsimp only at a1 a2 a3 a4 a5 a6 ⊢
have hs:=a1.size
by_cases q0:q'>0
·rw[kJ q0];have kq:=q71 (r:=r) (p:=p') (i:=m'-(q'+1)) (j:=m') (by lia) a6;exact qA4 (a1.rev _ _) (by lia) (by lia) λi j hij hj=>by rw[kq,kq];exact a4 i j hij hj
rw[kI q0]
exact qA4 a1 (by lia) (by lia) a4)
theorem qCI{p:Array Nat}(g:Gp n p)(h1:1≤n):hT (rc r) n (kas_count n p) (λz=>Gp n z.2∧1≤z.1∧z.1≤n∧Srt r z.2 z.1):=by(
have hs:=g.size
have s1:Srt r p 1:=λi j hij hj=>by rw[show i=j by lia];exact rN _
refine q17 _ (yQ ?_ _ (q99 g (n-1) 1 (kH _) (by lia) s1))
rintro m ⟨a1,a2,a3,a4⟩
try dsimp only
by_cases e:m=n
·rw[kJ (by rw[d4];exact e)];exact⟨g,a1,by lia,a3⟩
rw[kI (by rw[d4];exact e)]
have lt:=a4 (by lia)
by_cases m1:m>1
·rw[kJ m1];refine⟨g.lt (by lia),g.lt (by lia),?_⟩;by_cases c:r (p.getD 0 0)<r (p.getD (m-1) 0)
 ·rw[show rc r (p.getD 0 0) (p.getD (m-1) 0)=true from hI c];dsimp only;rw[kJ rfl];exact⟨g,a1,by lia,a3⟩
 rw[show rc r (p.getD 0 0) (p.getD (m-1) 0)=false from hG c];dsimp only;rw[kI kL];have eq:Eql r p 0 m:=λk _ hk=>by have z1:=a3 0 k (mJ _) hk;have z2:=a3 k (m-1) (by lia) (by lia);show r _=r _;have z1:r (p.getD 0 0)≤r (p.getD k 0):=z1;have z2:r (p.getD k 0)≤r (p.getD (m-1) 0):=z2;lia
 have kq:=q71 (r:=r) (p:=p) (i:=0) (j:=m) (by lia) eq;refine qA5 (g.rev _ _) (by lia) λi j hij hj=>?_;rw[kq,kq];refine Dec.more (m:=m) (λi j hij hj=>?_) (cC lt) i j hij hj;rw[eq i (mJ _) (by lia),eq j (mJ _) hj];exact rN _
rw[kI m1]
have:m=1:=by lia
subst this
refine qA5 g (by lia) (Dec.more (λi j hij hj=>?_) (cC lt))
rw[show i=j by lia]
exact rN _)
theorem q4Z{p:Array Nat}(g:Gp n p){k:Nat}(hk:k<n)(sr:Srt r p k):∀(f l u:Nat),u-l≤f→l≤u→u≤k→(∀i,i<l→kk r p i≤kk r p k)→(∀i,u≤i→i<k→kk r p k<kk r p i)→hT (rc r) n (kas_place p k f l u) (λm=>m≤k∧(∀i,i<m→kk r p i≤kk r p k)∧∀i,m≤i→i<k→kk r p k<kk r p i)
|0,l,u,hf,hl,hu,a,b=>⟨by lia,a,λi h1 h2=>b i (by lia) h2⟩
|f+1,l,u,hf,hl,hu,a,b=>by
 unfold kas_place;by_cases e:l≥u
 ·rw[kJ e];exact⟨by lia,a,λi h1 h2=>b i (by lia) h2⟩
 rw[kI e];refine⟨g.lt hk,g.lt (by lia),?_⟩;by_cases c:r (p.getD k 0)<r (p.getD ((l+u) / 2) 0)
 ·rw[show rc r (p.getD k 0) (p.getD ((l+u) / 2) 0)=true from hI c];dsimp only;rw[kJ rfl];refine q4Z g hk sr f l ((l+u) / 2) (by lia) (by lia) (by lia) a λi h1 h2=>?_;exact Int.lt_of_lt_of_le c (sr _ _ h1 h2)
 rw[show rc r (p.getD k 0) (p.getD ((l+u) / 2) 0)=false from hG c];dsimp only;rw[kI kL];refine q4Z g hk sr f ((l+u) / 2+1) u (by lia) (by lia) hu (λi h1=>?_) b;exact sX (sr i ((l+u) / 2) (by lia) (by lia)) (by show r _≤r _;lia)
theorem qGE{p:Array Nat}{k l:Nat}(hk:k<p.size)(hl:l≤k)(i:Nat):(bubble p k (k-l)).getD i 0=if i=l then p.getD k 0 else if l<i∧i≤k then p.getD (i-1) 0 else p.getD i 0:=by(
have e:=getElem?_bubble hk (k-l) (by lia) i
rw[show k-(k-l)=l by lia]at e
by_cases h1:i=l
·rw[kJ h1]at e ⊢;exact q2J e
rw[kI h1]at e ⊢
by_cases h2:l<i∧i≤k
·rw[kJ h2]at e ⊢;exact q2J e
rw[kI h2]at e ⊢
exact q2J e)
theorem qCJ:∀(f:Nat) (p:Array Nat) (k:Nat),Gp n p→k+f≤n→Srt r p k→hT (rc r) n (kas_bin f p k) (λq=>Gp n q∧Srt r q (k+f))
|0,p,k,g,hz,sr=>⟨g,sr⟩
|f+1,p,k,g,hz,sr=>by
 have hs:=g.size;refine q17 _ (yQ ?_ _ (q4Z g (show k<n by lia) sr k 0 k (by lia) (mJ _) (kH _) (λi h=>absurd h (Nat.not_lt_zero _)) λi h1 h2=>absurd h2 (by lia)));rintro l ⟨a1,a2,a3⟩
 have at':=qGE (p:=p) (k:=k) (l:=l) (by lia) a1;refine yQ ?_ _ (qCJ f _ (k+1) ((bubble_perm _ _ _).trans g) (by lia) λi j hij hj=>?_)
 ·rintro q ⟨b1,b2⟩
  exact⟨b1,by rw[show k+(f+1)=k+1+f by lia];exact b2⟩
 show r _≤r _;rw[at',at'];by_cases i1:i=l
 ·rw[kJ i1];by_cases j1:j=l
  ·rw[kJ j1];exact rN _
  rw[kI j1,kJ ⟨by lia,by lia⟩];exact cC (a3 (j-1) (by lia) (by lia))
 rw[kI i1];by_cases i2:l<i∧i≤k
 ·rw[kJ i2,kI (by lia),kJ ⟨by lia,by lia⟩];exact sr _ _ (by lia) (by lia)
 rw[kI i2];by_cases j1:j=l
 ·rw[kJ j1];exact a2 i (by lia)
 rw[kI j1];by_cases j2:l<j∧j≤k
 ·rw[kJ j2];exact sr _ _ (by lia) (by lia)
 rw[kI j2];exact sr _ _ hij (by lia)
theorem qDZ(h1:1≤n):hT (rc r) n (kas_sort n) (λp=>Gp n p∧Srt r p n):=by(
refine q17 _ (yQ ?_ _ (qCI (p:=(List.range n).toArray) (Array.Perm.refl _) h1))
rintro⟨m,p⟩ ⟨a1,a2,a3,a4⟩
dsimp only at a1 a2 a3 a4 ⊢
by_cases e:m<n
·rw[kJ e];refine yQ ?_ _ (qCJ (n-max m 1) p (max m 1) a1 (by lia) (by rw[Nat.max_eq_left a2];exact a4));rintro q ⟨b1,b2⟩
 exact⟨b1,by rw[show max m 1+(n-max m 1)=n by lia]at b2;exact b2⟩
rw[kI e]
have:m=n:=by lia
subst this
exact⟨a1,a4⟩)
end
end L2
namespace L2
open PySem PySem.W PySem.Spec PyProof.Rows
section
variable{prog:Program}{w:World}{A:Around}{E:Value→Shared→Prop}{s:Shared}
structure RkAt(prog:Program)(w:World)(A:Around)(vs:List Value)(κ:SortKind)(r:Nat→Int)(s:Shared):Prop where
kind:∀(Q:SortKind→Shared→Prop) (E:Value→Shared→Prop),Q κ s→wpAny (model prog w) A (keyKind' vs.toArray) Q E s
lt:∀i j (C:Bool→Shared→Prop),i<vs.length→j<vs.length→C (decide (r i<r j)) s→wpAny (model prog w) A (keyLt' κ (vs.getD i Value.none) (vs.getD j Value.none)) C (λ_ _=>False) s
end
noncomputable def lx:List Int→List Int→Bool
|a::r,b::s=>if a=b then lx r s else decide (a<b)
| [],_::_=>true
|_,[]=>false
theorem q9A:∀a:List Int,lx a a=false
| []=>rfl
|a::r=>by show(if a=a then lx r r else decide (a<a))=false;rw[kJ rfl];exact q9A r
theorem q0H:∀a b c:List Int,lx a b=true→lx b c=true→lx a c=true
| [],[],c,h,_=>by cases h
| [],_::_,[],_,h=>by cases h
| [],_::_,_::_,_,_=>rfl
|_::_,[],c,h,_=>by cases h
|_::_,_::_,[],_,h=>by cases h
|a::r,b::s,c::t,h,g=>by
 have h:(if a=b then lx r s else decide (a<b))=true:=h;have g:(if b=c then lx s t else decide (b<c))=true:=g;show(if a=c then lx r t else decide (a<c))=true;by_cases e1:a=b
 ·subst e1;rw[kJ rfl]at h;by_cases e2:a=c
  ·subst e2;rw[kJ rfl]at g ⊢;exact q0H r s t h g
  rw[kI e2]at g ⊢;exact g
 rw[kI e1,k9]at h;by_cases e2:b=c
 ·subst e2;rw[kI e1];exact hI h
 rw[kI e2,k9]at g;rw[kI (by lia)];exact hI (by lia)
theorem q72:∀a b:List Int,lx a b=false→lx b a=false→a=b
| [],[],_,_=>rfl
| [],_::_,h,_=>by cases h
|_::_,[],_,h=>by cases h
|a::r,b::s,h,g=>by
 have h:(if a=b then lx r s else decide (a<b))=false:=h;have g:(if b=a then lx s r else decide (b<a))=false:=g;by_cases e:a=b
 ·subst e;rw[kJ rfl]at h g;rw[q72 r s h g]
 rw[kI e,decide_eq_false_iff_not]at h;rw[kI (λz=>e z.symm),decide_eq_false_iff_not]at g;lia
theorem q8D{α:Type}{p q:α→Bool}:∀{l:List α} {x:α},(∀y∈l,p y=true→q y=true)→x∈l→q x=true→p x=false→l.countP p<l.countP q
|a::l,x,h,hx,h1,h2=>by
 have ml:l.countP p≤l.countP q:=pJ λy hy=>h y (hZ _ hy);rw[nE,nE];rcases kR.mp hx with e|hx
 ·subst e;rw[h1,h2,kI kL,kJ rfl];lia
 have ih:=q8D (λy hy=>h y (hZ _ hy)) hx h1 h2;have ha:=h a (kU ..);cases pa:p a with
 |false=>rw[kI kL];lia
 |true=>rw[ha pa];lia
noncomputable def rkOf(ks:List (List Int))(k:List Int):Int:=((ks.countP λy=>lx y k:Nat):Int)
theorem qCK{ks:List (List Int)}{k k':List Int}(h:k∈ks)(h':k'∈ks):rkOf ks k<rkOf ks k'↔lx k k'=true:=by(
constructor
·intro lt;cases e:lx k k' with
 |true=>rfl
 |false=>
  have:ks.countP (λy=>lx y k')≤ks.countP (λy=>lx y k):=pJ λy _ hy=>by
   cases g:lx k' k with
   |true=>exact q0H _ _ _ hy g
   |false=>rw[q72 k k' e g];exact hy
  unfold rkOf at lt;lia
intro e
have:=q8D (p:=λy=>lx y k) (q:=λy=>lx y k') (l:=ks) (x:=k) (λy _ hy=>q0H _ _ _ hy e) h e (q9A k)
unfold rkOf
lia)
section
variable{prog:Program}{w:World}{A:Around}{E:Value→Shared→Prop}{s:Shared}
theorem qE0{b:Bool}{x y:Int}{t u:Tok}{Q:Bool→Shared→Prop}(h:Q (decide (x<y)) s):wpAny (model prog w) A (oneLt' b (.int x t) (.int y u)) Q E s:=by(
cases b with
|true=>have z:=kat_lt_int (prog:=prog) (w:=w) (A:=A) (E:=E) (t:=t) (u:=u) h;rw[keyLt'_oneType]at z;exact z
|false=>refine kat_one _ _ ?_;exact lt_int h)
theorem q8E{b:Bool}{Q:Bool→Shared→Prop}:∀{ns ms:List Int} {us vs:List Value} (i:Nat),IntsAre us ns→IntsAre vs ms→ns.length=ms.length→Q (lx ns ms) s→KatLex prog w A b false Q (us.zip vs) i s
| [],[],_,_,i,.nil,.nil,_,h=>h
|n::ns,m::ms,_,_,i,.cons _ t hn,.cons _ u hm,hl,h=>by
 refine kat_cons (wpAny_eqBool_int ?_);have h:Q (if n=m then lx ns ms else decide (n<m)) s:=h;by_cases e:n=m
 ·rw[kJ e]at h;rw[show(n==m)=true by rw[d4];exact e];exact kat_yes (q8E (i+1) hn hm (by simpa using hl) h)
 rw[kI e]at h;rw[show(n==m)=false by rw[g9];exact e];exact kat_no (qE0 h)
| [],_::_,_,_,_,_,_,hl,_=>by simp at hl
|_::_,[],_,_,_,_,_,hl,_=>by simp at hl
noncomputable def IsTI(h:Heap)(v:Value)(k:List Int):Prop:=∃a us,v=.ref a∧h.IsTuple a us.toArray∧IntsAre us k
theorem qA6{h:Heap}:∀{vs:List Value} {ks:List (List Int)},Paired (IsTI h) vs ks→(∀k∈ks,0<k.length)→∃fs,KatTups h vs fs∧fs.length=ks.length∧∀v∈fs,∃i t,v=.int i t
| [],[],.nil,_=>⟨[],trivial,rfl,λv hv=>by cases hv⟩
|v::vs,k::ks,.cons x t,hp=>by
 obtain⟨fs,r,hl,hi⟩:=qA6 t λk hk=>hp k (hZ _ hk);obtain⟨a,us,rfl,⟨o,ho,hc,n,hd⟩,iu⟩:=x;have h0:=hp k (kU ..);cases iu with
 |nil=>simp at h0
 |cons i t0 hr=>
  refine⟨.int i t0::fs,KatTups.cons ho hc hd (by simp) r,by simp[hl],λv hv=>?_⟩;rcases kR.mp hv with rfl|hv
  ·exact⟨i,t0,rfl⟩
  exact hi v hv
theorem qE1{vs:List Value}{ks:List (List Int)}{m:Nat}(h:Paired (IsTI s.heap) vs ks)(hw:∀k∈ks,k.length=m)(hm:0<m)(h2:2≤vs.length):RkAt prog w A vs (tuples' true) (λi=>rkOf ks (ks.getD i [])) s:=by(
have hl:=h.len
constructor
·intro Q E' q;obtain⟨fs,t,e,hi⟩:=qA6 h λk hk=>by rw[hw k hk];exact hm
 exact kat_kind (T:=Value.type "int") t (by lia) (λv hv=>by obtain⟨i,t0,rfl⟩:=hi v hv;exact .now) rfl q
intro i j C hi hj c
have e1:vs[i]?=some (vs.getD i Value.none):=by rw[hX hi];simp[hi]
have e2:vs[j]?=some (vs.getD j Value.none):=by rw[hX hj];simp[hj]
obtain⟨k1,g1,a1,us1,q1,⟨o1,ho1,_,n1,d1⟩,i1⟩:=Paired.at h e1
obtain⟨k2,g2,a2,us2,q2,⟨o2,ho2,_,n2,d2⟩,i2⟩:=Paired.at h e2
have m1:k1∈ks:=gH g1
have m2:k2∈ks:=gH g2
have z1:ks.getD i []=k1:=by rw[kO,g1];rfl
have z2:ks.getD j []=k2:=by rw[kO,g2];rfl
have ll:k1.length=k2.length:=by rw[hw _ m1,hw _ m2]
have c:C (lx k1 k2) s:=by
 have y:decide (rkOf ks (ks.getD i [])<rkOf ks (ks.getD j []))=lx k1 k2:=by rw[z1,z2,rD,k9];exact qCK m1 m2
 rw[←y];exact c
rw[q1,q2]
refine kat_lt ho1 d1 ho2 d2 ?_
have f:decide (us1.toArray.size<us2.toArray.size)=false:=by rw[kQ,kQ,i1.length,i2.length,ll];exact hG (gS _)
rw[f]
exact q8E 0 i1 i2 ll c)
end
section
variable{X:Cx}
noncomputable def TupI(K:PySem.W.Frag)(H:Hp)(v:V)(k:List Int):Prop:=∃a,v=.ref a∧SqT K H a (k.map V.int)
theorem qA7{pins:List (Addr×Obj)}{σ:St}{H:Hp}{s:Shared}(I:Inv X pins σ H s):∀{xs:List V} {us:List Value} {ks:List (List Int)},Vals xs us→Paired (TupI X.K H) xs ks→Paired (IsTI s.heap) us ks
| [],_,_,.nil,.nil=>.nil
|x::xs,u::us,_,.cons r t,.cons ⟨a,e,h⟩ y=>by subst e;obtain rfl:u=Value.ref a:=r;obtain⟨its,rv,p,_⟩:=I.tuple h;exact .cons ⟨a,its,rfl,p,q4A rv⟩ (qA7 I t y)
theorem q6M{xs:List V}{us:List Value}(r:Vals xs us):∀{q:List Nat},(∀i∈q,i<xs.length)→Vals (q.map λi=>xs.getD i .non) (q.map λi=>us.getD i Value.none)
| [],_=>.nil
|i::q,h=>by have hi:=h i (kU ..);have hl:=r.length;refine .cons ?_ (q6M r λj hj=>h j (hZ _ hj));obtain⟨x,e,z⟩:=r.atN (j:=i) (by lia);show RelV (xs.getD i .non) (us.getD i Value.none);rw[kO,e,kO,hX (by lia)];exact z
end
section
variable{X:Cx}{pins:List (Addr×Obj)}{σ:St}
noncomputable def TupD(H:Hp)(v:V)(k:List Int):Prop:=∃a,v=.ref a∧H a=some (.tup (k.map V.int))
theorem TupD.i{K:PySem.W.Frag}{H:Hp}{v:V}{k:List Int}(h:TupD H v k):TupI K H v k:=let⟨a,e,z⟩:=h;⟨a,e,SqT.of z⟩
theorem TupD.same{H H':Hp}{v:V}{k:List Int}(h:TupD H v k)(s:Same H H'):TupD H' v k:=let⟨a,e,z⟩:=h;⟨a,e,s _ _ z⟩
noncomputable def dI(ks:List (Int×Int)):List (Key×V):=ks.map λp=>((.inl p.1:Key),V.int p.2)
theorem q18:∀{ks:List (Int×Int)} {n m:Int},(ks.map (·.1)).Nodup→(n,m)∈ks→valV (dI ks) (.inl n:Key)=some (.int m)
|p::ks,n,m,nd,h=>by
 obtain⟨n1,n2⟩:=m6.mp nd;show valV (((.inl p.1:Key),V.int p.2)::dI ks) (.inl n)=_;rcases kR.mp h with rfl|h
 ·exact uR rfl
 have ne:p.1≠n:=λe=>n1 (by show p.1∈_;rw[e];exact List.mem_map_of_mem (f:=λx:Int×Int=>x.1) h);rw[uF (λe=>ne (cK e))];exact q18 n2 h
theorem zW:∀{ks:List (Int×Int)} {n:Int},n∉ks.map (·.1)→valV (dI ks) (.inl n:Key)=none
| [],n,_=>rfl
|p::ks,n,h=>by
 show valV (((.inl p.1:Key),V.int p.2)::dI ks) (.inl n)=_;have h':n≠p.1∧n∉ks.map (·.1):=by simpa using h
 rw[uF (λe=>h'.1 (cK e).symm)];exact zW h'.2
end
end L2
namespace W1
theorem q2K{α:Type}(l:List α)(i j:Nat)(x d:α):(l.set i x).getD j d=if i=j∧i<l.length then x else l.getD j d:=by(
rw[kO,List.getElem?_set,kO]
by_cases h:i=j
·subst h;rw[kJ rfl];by_cases h2:i<l.length
 ·rw[kJ h2,kJ ⟨rfl,h2⟩];rfl
 rw[kI h2,kI (λz=>h2 z.2),dL (by lia)]
rw[kI h,kI (λz=>h z.1)])
theorem q73{P b j:Nat}(h:j<P):(b*P+j) / P=b:=by rw[wD,Nat.mul_add_div (by lia),Nat.div_eq_of_lt h,Nat.add_zero]
theorem qGF{P p:Nat}(h:0<P):p=p / P*P+p%P∧p%P<P:=⟨by rw[wD];exact(Nat.div_add_mod p P).symm,Nat.mod_lt _ h⟩
theorem q74{α:Type}[DecidableEq α]:∀{l m:List α},l.Nodup→m.Nodup→(∀x,x∈l↔x∈m)→l.Perm m
| [],m,_,_,h=>by
 cases m with
 |nil=>exact .nil
 |cons a m=>exact absurd ((h a).mpr kU) (by simp)
|a::l,m,h1,h2,h=>by
 have ha:=(h a).mp kU;obtain⟨n1,n2⟩:=m6.mp h1;refine List.Perm.trans (List.Perm.cons a (q74 n2 (h2.erase a) λx=>?_)) (List.perm_cons_erase ha).symm;rw[List.Nodup.mem_erase_iff h2];constructor
 ·intro hx;exact⟨λe=>n1 (e▸hx),(h x).mp (hZ _ hx)⟩
 rintro⟨ne,hx⟩
 exact(kR.mp ((h x).mpr hx)).resolve_left ne
theorem q8F{α:Type}[DecidableEq α]:∀{l m:List α},l.Nodup→(∀x∈l,x∈m)→l.length≤m.length
| [],_,_,_=>mJ _
|a::l,m,h1,h=>by obtain⟨n1,n2⟩:=m6.mp h1;have ha:=h a kU;have:=q8F (m:=m.erase a) n2 λx hx=>(List.mem_erase_of_ne (show x≠a from λe=>n1 (e▸hx))).mpr (h x (hZ _ hx));rw[List.length_erase_of_mem ha]at this;have h0:=List.length_pos_of_mem ha;rw[mQ];lia
noncomputable abbrev Mp:=List (Int×Int)
noncomputable def yE(W:Mp)(n:Int):Mp:=W.filter λq=>decide (q.1≠n)
noncomputable def putW(W:Mp)(n p:Int):Mp:=if(W.any λq=>decide (q.1=n))=true then W.map (λq=>if q.1=n then(q.1,p)else q)else W++[(n,p)]
theorem jD{W:Mp}{n:Int}{q:Int×Int}:q∈yE W n↔q∈W∧q.1≠n:=by unfold yE;rw[gM,k9]
theorem q50{W:Mp}{n:Int}(h:(W.map (·.1)).Nodup):((yE W n).map (·.1)).Nodup:=(h.sublist ((p8 ..).map _))
theorem yO{W:Mp}{n p:Int}(h:(W.map (·.1)).Nodup){q:Int×Int}:q∈putW W n p↔q=(n,p)∨q∈yE W n:=by(
unfold putW
by_cases e:(W.any λq=>decide (q.1=n))=true
·rw[kJ e,mB];obtain⟨r,hr,er⟩:=dZ.mp e;have er:r.1=n:=gL er;constructor
 ·rintro⟨x,hx,rfl⟩
  by_cases ex:x.1=n
  ·rw[kJ ex];exact .inl (by rw[ex])
  rw[kI ex];exact .inr (jD.mpr ⟨hx,ex⟩)
 rintro(rfl|h2)
 ·exact⟨r,hr,by rw[kJ er,er]⟩
 obtain⟨a,b⟩:=jD.mp h2;exact⟨q,a,kI b⟩
rw[kI e,mO,kC]
have no:∀x∈W,x.1≠n:=λx hx z=>e (dZ.mpr ⟨x,hx,hI z⟩)
constructor
·rintro(h1|h1)
 ·exact .inr (jD.mpr ⟨h1,no _ h1⟩)
 exact .inl h1
rintro(h1|h1)
·exact .inr h1
exact .inl (jD.mp h1).1)
theorem q19{W:Mp}{n p:Int}(h:(W.map (·.1)).Nodup):((putW W n p).map (·.1)).Nodup:=by(
unfold putW
by_cases e:(W.any λq=>decide (q.1=n))=true
·rw[kJ e,gZ];have:(λx:Int×Int=>x.1) ∘ (λq:Int×Int=>if q.1=n then(q.1,p)else q)=λx=>x.1:=by funext x;show(if x.1=n then(x.1,p)else x).1=x.1;split<;>rfl
 rw[this];exact h
rw[kI e,mE]
refine mW.mpr ⟨h,by simp,λa ha b hb z=>e ?_⟩
obtain⟨x,hx,rfl⟩:=mB.mp ha
have hb:b=n:=by simpa using hb
exact dZ.mpr ⟨x,hx,hI (by rw[z,hb])⟩)
theorem qE2{W:Mp}{n:Int}(h:∀q∈W,q.1≠n):yE W n=W:=p9.mpr λq hq=>hI (h q hq)
structure BM where
P:Nat
B:Nat
ns:List Int
W:Mp
V:Mp
nx:Int
bs:List (Option Int)
ss:List Int
lv:List Int
fi:List Int
bo:List Int
namespace BM
variable{m:BM}
noncomputable def lvF(P:Nat)(V:Mp)(lv:List Int)(n:Int):List Int:=match V.find? λq=>decide (q.1=n)with
|some q=>lv.set (q.2 / (P:Int)).toNat (lv.getD (q.2 / (P:Int)).toNat 0-1)
|none=>lv
end BM
end W1
namespace L2
open PySem PySem.W PySem.Spec PyProof.Rows
section
variable{X:Cx}{pins:List (Addr×Obj)}{σ:St}{H:Hp}{s:Shared}
theorem Inv.adopt{D:Addr}{o:HO}(I:Inv X pins σ H s)(f:FpOk X pins H D)(hD:X.s₀.heap.objs.size≤D)(ok:jP X.prog X.w (upd H D o) s.heap D o):Inv X pins σ (upd H D o) s:=by(
have low:∀b ob,X.s₀.heap.get? b=some ob→b≠D:=λb ob e=>mF (kZ (kM e) hD)
have trk:∀b u,H b=some u→b≠D:=λb u e=>qF e f.1
refine⟨I.ok,I.os,I.bare,⟨I.base.keep,I.base.slot,λb ob e n x=>?_,I.base.there,λb xs e=>?_,λb ob u e=>?_,λb ps e=>?_⟩,I.loc,I.cell,?_,λx c e=>?_,λp hp=>?_,λb u e=>?_,I.len⟩
·rw[qC (low b ob e)];exact I.base.free b ob e n x
·have z:=I.base.tups b xs e;rw[qC (trk _ _ z)];exact z
·have z:=I.base.frzs b ob u e;rw[qC (trk _ _ z)];exact z
·obtain⟨m,z⟩:=I.base.tbls b ps e;exact⟨m,by rw[qC (trk _ _ z)];exact z⟩
·rw[qC (λz=>f.2.1 z.symm)];exact I.free
·rw[qC (f.2.2.2.2.1 x c e)];exact I.freeC x c e
·obtain⟨a1,a2,a3⟩:=I.pin p hp;exact⟨a1,by rw[qC (f.2.2.2.2.2 p hp)];exact a2,a3⟩
by_cases hb:b=D
·subst hb;rw[qH]at e;cases e;exact ok
rw[qC hb]at e
exact(I.hok b u e).stay (λ_ _ _ q=>q) (λc q=>by rw[qC (trk _ _ q)];exact q) λc xs q=>by rw[qC (trk _ _ q)];exact q)
theorem Inv.near(I:Inv X pins σ H s){A':Around}(h1:A'.handled=X.A.handled)(h2:A'.frames=X.A.frames)(xe:Value→Shared→Prop):Inv { X with A:=A',xe:=xe } pins σ H s:=⟨{ mod:=I.ok.mod,kind:=I.ok.kind,glob:=I.ok.glob,blt:=I.ok.blt,above:=I.ok.above,inj:=I.ok.inj,has:=I.ok.has,cab:=I.ok.cab,hd:=λc=>h1.trans (I.ok.hd c),frames:=h2.trans I.ok.frames,stk:=I.ok.stk,exf:=I.ok.exf,bs:=I.ok.bs,bsz:=I.ok.bsz,noex:=I.ok.noex,exfs:=I.ok.exfs,funs:=I.ok.funs,frf:=I.ok.frf },I.os,I.bare,I.base,I.loc,I.cell,I.free,I.freeC,I.pin,I.hok,I.len⟩
theorem q8G{P:PySem.Fin→Shared→Prop}{EE:Value→Shared→Prop}{A:Around}{a kS:Addr}{st:SortSt}{e1 e:Nat}{ks:List Value}{out:List Value}{us:List V}(I:Inv X pins σ H s)(fa:FpOk X pins H a)(fk:FpOk X pins H kS)(ha:X.s₀.heap.objs.size≤a)(ne:kS≠a)
 (ga:s.heap.get? a=some (seqObj "list" #[] e1)) (gk:s.heap.get? kS=some (seqObj "list" ks.toArray e)) (hk:ks.length<64) (hout:(arrOf st).map (·.2)=out.toArray) (ho:out.length<64) (hf:failedOf st=none) (rv:Vals us out)
 (h:∀s',Inv X pins σ (upd H a (.lst us)) s'→P (.done (.ret .none)) s'):wpAny (model X.prog X.w) A (ksk_tail a false e1 (.ref kS) st) P EE s:=by(
unfold ksk_tail
try dsimp only
rw[hout]
refine kG (cU gk rfl ?_ (by rw[kQ,gK];lia) (mJ _))
refine kG (wpAny_letGo ?_)
have ga':(s.heap.update kS (Obj.mapSeq λ_=>(#[]:Array Value))).get? a=some (seqObj "list" #[] e1):=(mG _ _ ne).trans ga
refine kG (seqEpoch_at ga' rfl ?_)
refine kG (cU ga' rfl ?_ (mJ _) (by rw[kI kL,kQ,gK];lia))
rw[hf]
simp only[bne_self_eq_false,Bool.false_eq_true,if_false]
refine kX (h _ ?_)
obtain⟨c2,g2⟩:∃c2,((s.heap.update kS (Obj.mapSeq λ_=>(#[]:Array Value))).update a (Obj.mapSeq λ_=>out.toArray)).get? a=some (seqObj "list" out.toArray c2):=⟨_,pD ga' λ_=>out.toArray⟩
have I2:Inv X pins σ H { s with heap:=(s.heap.update kS (Obj.mapSeq λ_=>(#[]:Array Value))).update a (Obj.mapSeq λ_=>out.toArray),toks:=s.toks }:=I.turnedN (fp:=[kS,a]) (λb o hb eb=>by
  simp only[kR,gQ,wQ,not_or]at hb;exact(mG _ _ (dD hb.2)).trans ((mG _ _ (dD hb.1)).trans eb)) (λb hb=>by
  simp only[kR,gQ,wQ]at hb;rcases hb with rfl|rfl
  ·exact fk
  exact fa)
exact I2.adopt fa ha (show jP X.prog X.w _ _ _ (.lst us)from⟨by rw[rv.length,gK];lia,out,c2,rv,g2⟩))
theorem qE3{P:PySem.Fin→Shared→Prop}{EE:Value→Shared→Prop}{A:Around}{a kS:Addr}{e1 e:Nat}{ks vs:List Value}{us zs:List V}{kk:List (List Int)}{m:Nat}(I:Inv X pins σ H s)(fa:FpOk X pins H a)(fk:FpOk X pins H kS)(ha:X.s₀.heap.objs.size≤a)(ne:kS≠a)
 (ga:s.heap.get? a=some (seqObj "list" #[] e1)) (gk:s.heap.get? kS=some (seqObj "list" ks.toArray e)) (rz:Vals zs ks) (rv:Vals us vs) (hl:zs.length=us.length) (h64:us.length<64) (hti:Paired (TupI X.K H) zs kk) (hw:∀k∈kk,k.length=m) (hm:0<m)
 (h:∀q:List Nat,q.Perm (List.range us.length)→(q.map λi=>kk.getD i []).Pairwise (λa b=>lx b a=false)→∀s',Inv X pins σ (upd H a (.lst (q.map λi=>us.getD i .non))) s'→P (.done (.ret .none)) s'):
 wpAny (model X.prog X.w) A (ksk_end a false vs.toArray e1 (.ref kS) ks.toArray) P EE s:=by(
have l1:=rz.length
have l2:=rv.length
have l3:=hti.len
have hlk:ks.length=vs.length:=by lia
unfold ksk_end
try dsimp only
rw[kI kL]
by_cases h2:vs.toArray.size<2
·rw[kJ h2,kJ h2];refine kG (kX ?_);rw[StateT.run_pure];refine kG (kX ?_);try dsimp only
 have hn2:vs.length<2:=by rw[kQ]at h2;exact h2
 refine q8G (out:=vs) (us:=us) I fa fk ha ne ga gk (by lia) ?_ (by lia) rfl rv λs' I'=>?_
 ·rw[kI kL];show(ks.toArray.zip vs.toArray).map (·.2)=vs.toArray;apply Array.toList_inj.mp;rw[Array.toList_map,Array.toList_zip];show(ks.zip vs).map Prod.snd=vs;exact List.map_snd_zip (by lia)
 have e:(List.range us.length).map (λi=>us.getD i .non)=us:=by refine rQ (by simp) λi h1 h3=>?_;rw[dF,dJ,kO,hX h3];rfl
 have z:=h (List.range us.length) (lA _) (by rw[wF,dQ];intro i j hi hj hij;rw[mL]at hi hj;lia);rw[e]at z;exact z s' I'
rw[kI h2,kI h2]
have h2':2≤ks.length:=by rw[kQ]at h2;lia
have K:=qE1 (prog:=X.prog) (w:=X.w) (A:=A) (s:=s) (qA7 I rz hti) hw hm h2'
refine kG (K.kind _ _ ?_)
rw[kI kL]
refine kG (gJ (kat_run (κ:=tuples' true) (G:=λp s'=>s'=s∧Gp vs.length p∧Srt (λi=>rkOf kk (kk.getD i [])) p vs.length) (Q:=λst' s'=>∃p:Array Nat,arrOf st'=p.map (kas_item (ks.toArray.zip vs.toArray))∧failedOf st'=none∧s'=s∧Gp vs.length p∧Srt (λi=>rkOf kk (kk.getD i [])) p vs.length) hlk (by lia) (by lia) (λp' st' s' _ a2 a3 a4=>⟨p',a2,a3,a4⟩) ?_) ?_ λ_ _ x=>x)
·refine qEV (c:=rc λi=>rkOf kk (kk.getD i [])) (n:=vs.length) (λi j C hi hj c=>K.lt i j C (by lia) (by lia) c) _ (yQ (λp q=>⟨rfl,q⟩) _ (qDZ (by lia)))
rintro⟨⟨⟩,st'⟩ s' ⟨p,har,hf,rfl,gp,sr⟩
try dsimp only
have pp:p.toList.Perm (List.range vs.length):=by have:=Array.perm_iff_toList_perm.mp gp;simpa using this
have hin:∀i∈p.toList,i<us.length:=λi hi=>by rw[l2];exact kW.mp (pp.mem_iff.mp hi)
have pw:(p.toList.map λi=>kk.getD i []).Pairwise (λx y=>lx y x=false):=by
 rw[wF,dQ];intro i j hi hj hij;rw[gC,gp.size]at hi hj;have z:rkOf kk (kk.getD (p.getD i 0) [])≤rkOf kk (kk.getD (p.getD j 0) []):=sr i j (by lia) hj;have gi:p.getD i 0=p.toList[i]'(by rw[gC,gp.size];exact hi):=by simp[Array.getD,gp.size,hi]
 have gj:p.getD j 0=p.toList[j]'(by rw[gC,gp.size];exact hj):=by simp[Array.getD,gp.size,hj]
 rw[gi,gj]at z;have mem:∀x,x<kk.length→kk.getD x []∈kk:=λx hx=>by rw[kO,hX hx];exact wL hx
 cases g:lx (kk.getD (p.toList[j]'(by rw[gC,gp.size];exact hj)) []) (kk.getD (p.toList[i]'(by rw[gC,gp.size];exact hi)) [])with
 |false=>rfl
 |true=>have b1:=hin _ (wL (show j<p.toList.length by rw[gC,gp.size];exact hj));have b2:=hin _ (wL (show i<p.toList.length by rw[gC,gp.size];exact hi));have lt:=(qCK (mem _ (by lia)) (mem _ (by lia))).mpr g;lia
exact q8G (out:=p.toList.map λi=>vs.getD i Value.none) (us:=p.toList.map λi=>us.getD i .non) I fa fk ha ne ga gk (by lia) (kat_snds hlk har) (by rw[hV,pp.length_eq,mL];lia) hf (q6M rv hin) λs' I'=>h p.toList (by rw[l2];exact pp) pw s' I')
end
end L2
namespace W1
open PySem L2
theorem lx2{a b c d:Int}:lx [a,b] [c,d]=(if a=c then(if b=d then false else decide (b<d))else decide (a<c)):=rfl
end W1
namespace L2
open PySem PySem.Spec PyProof.Rows
theorem qE4{X:Cx}{K:PySem.W.Frag}{es:List Expr}{k:Nat}{t:TGs}{n:Nat}{pos:Pos}(e:X.K=K)(hc:X.calm=true)(h:PGs X es t)(hn:(assignEach es X.env).length=n)(hst:(assignEach es X.env).findIdx? (·.1)=none):PG X (.Tuple es k pos) (gTup K n t):=by subst e;exact q2Z hc h hn hst
theorem q75{n j:Nat}(h:j<n):ixN n (j:Int)=some j:=by(
unfold ixN
have a:(0:Int)≤j:=by lia
have b:(j:Int)<n:=by lia
simp[a,b,h])
theorem qCL{V:List (Int×Int)}{n:Int}:q4P (dI V) (Sum.inl n:Key)=dI (W1.yE V n):=by(
unfold q4P dI W1.yE
rw[List.filter_map]
congr 1
apply cP
intro q _
show decide ((Sum.inl q.1:Key)≠Sum.inl n)=decide (q.1≠n)
by_cases e:q.1=n<;>simp[e])
theorem q76{W:List (Int×Int)}{n p:Int}:putK (dI W) (Sum.inl n:Key) (.int p)=dI (W1.putW W n p):=by(
unfold putK dI W1.putW
have e:((W.map λp=>((Sum.inl p.1:Key),V.int p.2)).any λkv=>decide (kv.1=Sum.inl n))=W.any λq=>decide (q.1=n):=by
 rw[List.any_map];congr 1;funext q;show decide ((Sum.inl q.1:Key)=Sum.inl n)=decide (q.1=n);by_cases e:q.1=n
 ·rw[e];simp
 rw[hG e,hG (λz=>e (cK z))]
rw[e]
by_cases h:(W.any λq=>decide (q.1=n))=true
·rw[kJ h,kJ h,gZ,gZ];apply dA;intro q _;show(if(Sum.inl q.1:Key)=Sum.inl n then((Sum.inl q.1:Key),V.int p)else((Sum.inl q.1:Key),V.int q.2))=_;by_cases e:q.1=n
 ·rw[kJ (by rw[e])];show _=(λp:Int×Int=>((Sum.inl p.1:Key),V.int p.2)) (if q.1=n then(q.1,p)else q);rw[kJ e]
 rw[kI (λz=>e (cK z))];show _=(λp:Int×Int=>((Sum.inl p.1:Key),V.int p.2)) (if q.1=n then(q.1,p)else q);rw[kI e]
rw[kI h,kI h,mE]
rfl)
theorem qAZ{V:List (Int×Int)}{n p:Int}:W1.putW (W1.yE V n) n p=W1.yE V n++[(n,p)]:=by(
unfold W1.putW
rw[kI]
intro h
obtain⟨q,hq,e⟩:=dZ.mp h
exact(W1.jD.mp hq).2 (gL e))
theorem setV{ns:List Int}{c:Nat}{x:Int}:(ns.map V.int).set c (.int x)=(ns.set c x).map V.int:=by rw[lQ]
theorem atV{ns:List Int}{c:Nat}(h:c<ns.length):atI (ns.map V.int) (c:Int)=some (.int (ns.getD c 0)):=by refine uE ?_;rw[mC,hX h,kO,hX h];rfl
theorem qCM:∀{A B:List (List Int)},A.Perm B→A.Pairwise (λa b=>lx b a=false)→B.Pairwise (λa b=>lx b a=false)→A=B
| [],B,p,_,_=>(List.nil_perm.mp p).symm▸rfl
|a::A,[],p,_,_=>absurd p.length_eq (by simp)
|a::A,b::B,p,h1,h2=>by
 have e:a=b:=by
  by_cases e:a=b
  ·exact e
  have hb:b∈A:=(kR.mp (p.mem_iff.mpr kU)).resolve_left (λz=>e z.symm);have ha:a∈B:=(kR.mp (p.mem_iff.mp kU)).resolve_left e;exact q72 a b ((rZ.mp h2).1 a ha) ((rZ.mp h1).1 b hb)
 subst e;rw[qCM ((List.perm_cons a).mp p) (rZ.mp h1).2 (rZ.mp h2).2]
theorem qCN{a:Addr}{o:Obj}{kvs:List (Key×V)}{D:Addr}{H2:Hp}{g:TG}{tc:TT}{te:TE}{σ0:St}{R:Hp→Prop}(Pv:Nat→Hp→Prop)(h0:Pv 0 H2)(hl:∀i H,Pv i H→H a=some (.frz o (.dK kvs)))
 (hs:∀(i:Nat) kv H,kvs[i]?=some kv→Pv i H→g (kV kv.1) σ0 H λσ5 H5=>tc σ5 H5 λb H6=>if b=true then te σ5 H6 (λv H7=>∃vs,H7 D=some (.lst vs)∧vs.length<sizeLine∧Pv (i+1) (upd H7 D (.lst (vs++[v]))))else Pv (i+1) H6) (hd:∀H,Pv kvs.length H→R H):
 ∃W:Nat→Nat→Hp→Prop,(∃m,W 0 m H2)∧∀i m H3,W i m H3→((Itd a o kvs).stop i H3∧R H3)∨((Itd a o kvs).go i H3∧∃N:Hp→Prop,(∀H',N H'→∃m',m'<m∧W (i+1) m' H')∧∀x H4,(Itd a o kvs).yld i H3 x H4→g x σ0 H4 λσ5 H5=>tc σ5 H5 λb H6=>if b=true then te σ5 H6 (λv H7=>∃vs,H7 D=some (.lst vs)∧vs.length<sizeLine∧N (upd H7 D (.lst (vs++[v]))))else N H6):=qDX (Q:=λ_ H=>R H) Pv h0 hl hs hd
theorem q9B{H H':Hp}{us:List V}{ks:List (List Int)}(h:Paired (TupD H) us ks)(s:Same H H'):Paired (TupD H') us ks:=Paired.mapP h λ_ _ z=>z.same s
theorem qE5{K:PySem.W.Frag}{H:Hp}{us:List V}{ks:List (List Int)}(h:Paired (TupD H) us ks):Paired (TupI K H) us ks:=Paired.mapP h λ_ _ z=>z.i
theorem qB0{lo:Int}{n:Nat}{D:Addr}{H2:Hp}{g:TG}{tc:TT}{te:TE}{σ0:St}{R:Hp→Prop}(Pv:Nat→Hp→Prop)(h0:Pv 0 H2)
 (hs:∀(i:Nat) H,i<n→Pv i H→g (.int (lo+i)) σ0 H λσ5 H5=>tc σ5 H5 λb H6=>if b=true then te σ5 H6 (λv H7=>∃vs,H7 D=some (.lst vs)∧vs.length<sizeLine∧Pv (i+1) (upd H7 D (.lst (vs++[v]))))else Pv (i+1) H6) (hd:∀H,Pv n H→R H):
 ∃W:Nat→Nat→Hp→Prop,(∃m,W 0 m H2)∧∀i m H3,W i m H3→((Itr lo n).stop i H3∧R H3)∨((Itr lo n).go i H3∧∃N:Hp→Prop,(∀H',N H'→∃m',m'<m∧W (i+1) m' H')∧∀x H4,(Itr lo n).yld i H3 x H4→g x σ0 H4 λσ5 H5=>tc σ5 H5 λb H6=>if b=true then te σ5 H6 (λv H7=>∃vs,H7 D=some (.lst vs)∧vs.length<sizeLine∧N (upd H7 D (.lst (vs++[v]))))else N H6):=q8A (Q:=λ_ H=>R H) Pv h0 hs hd
theorem qCO{H H3:Hp}{a:Addr}{u:HO}(ha:H a=some u)(k:∀b o,b≠a→H b=some o→H3 b=some o):Same H (upd H3 a u):=λb o e=>by(
by_cases z:b=a
·rw[z,qH,←ha,←z];exact e
rw[qC z]
exact k b o z e)
theorem q2L{X:Cx}{K:PySem.W.Frag}{e:Expr}{ta:TE}{f:Str}{pos:Pos}(eK:X.K=K)(he:PE X e ta)(hb:attributeBase e f X.env (eval e X.env)=eval e X.env):PE X (.Attribute e f pos) (tFld K ta f):=by subst eK;exact qJ he hb
end L2
namespace L2
open PySem PySem.W PySem.Spec PyProof.Rows
theorem qE6{scope:Scope}{env:Env}(h:(scope.names.all λy=>decide (y.2≠ .free)||(env.cells.lookup y.1).isSome)=true):closureFor scope env=pure (clOf env scope.names []):=q4U λy hy hf=>by(
 have q:=gR.mp h y hy;rw[rE,k9]at q;rcases q with q|q
 ·exact absurd hf q
 exact rS.mp q)
theorem qB1{scope:Scope}{x0 y:Str}{ca:Addr}{v:V}{u:Value}{base:Heap}(hk:scope.kind=.function)(hco:scope.isCoroutine=false)(hg:scope.isGenerator=false)(hp:scope.names.lookup x0=some .local)
 (hn:(scope.names.all λz=>decide (z.2≠ .cell)&&(decide (z.2≠ .free)||decide (z.1=y)))=true) (hf:scope.names.lookup y=some .free) (r:RelV v u) (hc:base.IsCell ca (some u)):LamSc scope x0 [(y,ca)] [v] base:=by(
have at1:∀z∈scope.names,z.2≠ .cell∧(z.2≠ .free∨z.1=y):=λz hz=>by have q:=gR.mp hn z hz;rw[mH,rE,k9,k9,k9]at q;exact q
have lk:([(y,ca)]:List (Str×Addr)).lookup y=some ca:=by simp
have one:∀x c,([(y,ca)]:List (Str×Addr)).lookup x=some c→x=y∧c=ca:=λx c e=>by have m:=mU e;simpa using m
refine⟨hk,hco,hg,hp,λz hz=>(at1 z hz).1,λz hz=>?_,λa b c h1 h2=>?_,λj x c h=>?_,rfl⟩
·have m:=(at1 _ (mU hz)).2;rcases m with m|m
 ·exact absurd rfl m
 exact⟨ca,by rw[show z=y from m];exact lk⟩
·rw[(one _ _ h1).1,(one _ _ h2).1]
match j,h with
|0,h=>
 obtain⟨rfl,rfl⟩:y=x∧ca=c:=by simpa using h
 exact⟨hf,lk,v,u,rfl,r,hc⟩
|j+1,h=>exact absurd h (by simp))
theorem q8H{env:Env}{names:List (Str×NameKind)}{y:Str}{ca:Addr}(e:env.cells.lookup y=some ca)(h:clOf env names []=match env.cells.lookup y with|some a=>[(y,a)] |none=>[]):clOf env names []=[(y,ca)]:=by rw[h,e]
noncomputable def qGG(T:Addr)(pos:Pos)(qual:Str)(params:Arguments)(body:Expr)(scope:Scope)(clos:List (Str×Addr))(pm:Value):TE:=λσ H Q=>∃ps c',H T=some (.tbl ps)∧TriplesOk ps.toList∧codeAmong pos ps.toList=some (.ref c')∧∀(f:Addr) (ctv:Value),H f=none→Q (.ref f) (upd H f (fnO f (kla_fn "<lambda>" qual params body scope clos pm (.ref c') ctv)))
theorem qCP{X:Cx}{c T:Addr}{params:Arguments}{body:Expr}{scope:Scope}{pos:Pos}{clos:List (Str×Addr)}(hcode:X.env.code=.ref c)(hcd:codeHdIn X.K c T=true)(B:BmIn X.base X.mg)(hcl:closureFor scope X.env=pure clos)(hdef:defaultsOf params X.env=([],[])):
 PE X (.Lambda params body scope pos) (qGG T pos (X.env.qual++"<lambda>") params body scope clos ((X.mg "__name__").getD .none)):=by(
intro pins s σ H Q I hZ
obtain⟨ps,c',hT,ht,hnf,q⟩:=hZ
have hP:s.heap.get? T=some (tabObj ps):=I.hok T _ hT
have hgs:s.heap.Ns mainGlobals X.mg:=I.ok.mod.glob.keeps I.bk
obtain⟨bm,ob,b1,b2,b3,b4,b5,b6⟩:=B
have b3':=I.bk _ _ b3
have hbP:bm≠T:=λz=>by rw[z,hP]at b3';cases b3';cases b4
have hbG:bm≠mainGlobals:=λz=>by obtain⟨o,es,ep,e,hd,_⟩:=hgs;rw[z,e]at b3';cases b3';rw[hd]at b6;cases b6
refine kla_eval hdef (kla_makeFunctionHit (clos:=clos) hcl I.ok.glob hgs hcode (nJ I.kIn hcd) hP ht hnf ⟨bm,ob,b1,b2,hbG,hbP,b3',b4,b5,b6⟩ λctv h' tk hx sz=>?_)
have trk:∀b u,s.heap.get? b=some u→∀o,(h'.push o).get? b=some u:=λb u e o=>hU _ (hx b u e)
have nF:H h'.objs.size=none:=I.hok.fresh sz
refine⟨.ref h'.objs.size,_,?_,rfl,q _ ctv nF⟩
refine I.un (t':=tk) ⟨λb o e n _ _=>trk b o e _,λb o e n _ _=>⟨o.slots,trk b o e _⟩,λb o e n _=>?_,λb o e _=>⟨o,trk b o e _⟩,λb xs e=>?_,λb o u e=>?_,λb qs e=>?_⟩ λb u e=>?_
·rw[qC (mF (kZ (kM e) sz))];exact n
·rw[qC (qF e nF)];exact e
·rw[qC (qF e nF)];exact e
·exact⟨#[],by rw[qC (qF e nF),e];simp⟩
by_cases z3:b=h'.objs.size
·subst z3;rw[qH]at e;cases e;exact qCD (kY _ rfl)
rw[qC z3]at e
refine(I.hok b u e).stay (λd v hd r=>trk d v r _) (λd r=>?_) λd xs r=>?_
·rw[qC (qF r nF)];exact r
rw[qC (qF r nF)];exact r)
noncomputable def qHN(T:Addr)(pos:Pos)(qual:Str)(params:Arguments)(body:Expr)(scope:Scope)(clos:List (Str×Addr))(pm:Value):TE:=λσ H Q=>∃ps,H T=some (.tbl ps)∧TriplesOk ps.toList∧((codeAmong pos ps.toList=none∧∀(f c':Addr) (ctv:Value) (H':Hp),H f=none→H' f=some (fnO f (kla_fn "<lambda>" qual params body scope clos pm (.ref c') ctv))→H' c'=some (cdO c' qual)→H' T=some (.tbl (ps++#[rawInt pos.line,rawInt pos.col,.ref c']))→(∀b o,b≠T→H b=some o→H' b=some o)→Q (.ref f) H')∨∃c',codeAmong pos ps.toList=some (.ref c')∧∀(f:Addr) (ctv:Value) (H':Hp),H f=none→H' f=some (fnO f (kla_fn "<lambda>" qual params body scope clos pm (.ref c') ctv))→Same H H'→Q (.ref f) H')
theorem qE7{X:Cx}{c T:Addr}{params:Arguments}{body:Expr}{scope:Scope}{pos:Pos}{clos:List (Str×Addr)}(hcode:X.env.code=.ref c)(hcd:codeHdIn X.K c T=true)(B:BmIn X.base X.mg)(hcl:closureFor scope X.env=pure clos)(hdef:defaultsOf params X.env=([],[])):
 PE X (.Lambda params body scope pos) (qHN T pos (X.env.qual++"<lambda>") params body scope clos ((X.mg "__name__").getD .none)):=λpins s σ H Q I ⟨ps,hT,ht,h⟩=>by(
rcases h with⟨hn,q⟩|⟨c',hn,q⟩
·exact qDU hcode hcd B hcl hdef pins s σ H Q I ⟨ps,hT,ht,hn,λf c' ctv nf nc fc=>q f c' ctv _ nf qH (by rw[qC fc.symm];exact qH) (by rw[qC (qF hT nf),qC (qF hT nc)];exact qH) λb o nb e=>by rw[qC (qF e nf),qC (qF e nc),qC nb];exact e⟩
exact qCP hcode hcd B hcl hdef pins s σ H Q I ⟨ps,c',hT,ht,hn,λf ctv nf=>q f ctv _ nf qH (Same.upd nf)⟩)
theorem qE8{X:Cx}{CX:CXT}{k:Nat}{f:Addr}{fd:FuncData}{ps:List Str}{sp:Heap→Sp}{dvs:List V}{ds:List Value}{E:XK}{pins:List (Addr×Obj)}{σ:St}{H:Hp}{s:Shared}{Q:VK}{us:List Value}{vs:List V}(ix:List (Nat×Str))
 (hix:∀p∈ix,X.N[p.1]?=some p.2∧X.env.scope.names.lookup p.2=some .cell∧X.fn p.2=true)
 (F:∀base',(∀b o,X.base.get? b=some o→base'.get? b=some o)→q4X X.env.cells σ base' ix→FnOk X.prog X.w X.K X.mg base' CX k f fd ps (sp base')) (hr:Room k X.A) (hb:yC X.K fd ps ds) (hd:Vals dvs ds) (hx:zC CX X E)
 (I:Inv X pins σ H s) (r:Vals vs us) (h:∀base',(∀b o,X.base.get? b=some o→base'.get? b=some o)→q4X X.env.cells σ base' ix→sp base' (vs++dvs) H Q E):wpAny (model X.prog X.w) X.A (call (.ref f) us) (EP X pins σ Q) X.xe s:=by(
have r2:Vals (vs++dvs) (us++ds):=r.append hd
obtain⟨e0,up,cel⟩:=I.env0C (ix.filterMap λp=>X.env.cells.lookup p.2) (λc hc=>by obtain⟨p,hp,e⟩:=rW.mp hc;exact⟨p.2,(hix p hp).2.2,e⟩)
have cv:q4X X.env.cells σ (hidT s.heap (uW X.base (ix.filterMap λp=>X.env.cells.lookup p.2))) ix:=λp hp v hv=>by
 obtain⟨h1,h2,h3⟩:=hix p hp;obtain⟨m,_,hl⟩:=I.loc;obtain⟨u,ru,lk⟩:=hl p.1 p.2 v h1 hv (.inr (.inl h2));rcases lk with⟨z,_⟩|⟨_,c,hc,o,ho,hd⟩
 ·have z:X.env.scope.names.lookup p.2=some .local:=z;rw[h2]at z;cases z
 exact⟨c,u,hc,ru,o,cel c (rW.mpr ⟨p,hp,hc⟩) o ho,hd⟩
have q:=h _ up cv
have hl:(us++ds).length=ps.length:=by rw[←r2.length];exact(F _ up cv).len _ _ _ _ q
refine rX (dU ((F _ up cv).run X.A X.stack s H ⟨us,[]⟩ (us++ds) (vs++dvs) Q E hr e0 (hb s us I.kIn hl) r2 q) λr s' hq=>?_)
cases r with
|error e=>exact hx pins σ H s e s' I hq
|ok fl=>
 cases fl with
 |ret u=>exact I.after hq
 |next=>exact False.elim hq
 |brk=>exact False.elim hq
 |cont=>exact False.elim hq)
section
variable{X:Cx}{pins:List (Addr×Obj)}{σ:St}{H:Hp}{s:Shared}
theorem qB2{P:PySem.Fin→Shared→Prop}{EE:Value→Shared→Prop}{a f:Addr}{n:Nat}{vs:List Value}{us:List V}(I:Inv X pins σ H s)
 (ho:s.heap.get? a=some (seqObj "list" vs.toArray n)) (fa:FpOk X pins H a) (ha:X.s₀.heap.objs.size≤a) (rv:Vals us vs) (h64:us.length<64)
 (Pv:Nat→List V→Hp→Prop) (h0:Pv 0 [] H) (hs:∀i x zs H' pins' s' u,us[i]?=some x→RelV x u→Pv i zs H'→Inv { X with A:=X.A.in1.in1,xe:=λ_ _=>False } pins' σ H' s'→wpAny (model X.prog X.w) X.A.in1.in1 (call (.ref f) [u]) (EP { X with A:=X.A.in1.in1,xe:=λ_ _=>False } pins' σ (λz H''=>Pv (i+1) (zs++[z]) H'')) (λ_ _=>False) s')
 (hd:∀zs H',H' a=none→zs.length=us.length→Pv us.length zs H'→∃kk m,Paired (TupI X.K H') zs kk∧(∀k∈kk,k.length=m)∧0<m∧∀q:List Nat,q.Perm (List.range us.length)→(q.map λi=>kk.getD i []).Pairwise (λa b=>lx b a=false)→∀s',Inv X pins σ (upd H' a (.lst (q.map λi=>us.getD i .non))) s'→P (.done (.ret .none)) s'):
 wpAny (model X.prog X.w) X.A.in1.in1 (ksk_tree a (.ref f) false) P EE s:=by(
have hal:a<s.heap.objs.size:=kM ho
have hl:=rv.length
obtain⟨e1,g1⟩:∃e1,(s.heap.update a (Obj.mapSeq λ_=>(#[]:Array Value))).get? a=some (seqObj "list" #[] e1):=⟨_,pD ho λ_=>#[]⟩
unfold ksk_tree
refine kG (listItems_at ho rfl (kG (cU ho rfl (kG (seqEpoch_at g1 rfl ?_)) (by rw[kQ,gK];lia) (mJ _))))
refine kG (wpAny_newTuple (kG (wpAny_newList (gY ?_) (mJ _))) (by show vs.length≤_;rw[gK];lia))
have hks:((s.heap.update a (Obj.mapSeq λ_=>(#[]:Array Value))).push (seqObj "tuple" vs.toArray 0)).objs.size=s.heap.objs.size+1:=by rw[size_push',nG]
obtain⟨kS,eks⟩:∃kS:Addr,kS=((s.heap.update a (Obj.mapSeq λ_=>(#[]:Array Value))).push (seqObj "tuple" vs.toArray 0)).objs.size:=⟨_,rfl⟩
have ksz:s.heap.objs.size≤kS:=by rw[eks,hks];exact dW _
have ne:kS≠a:=d0 (kZ hal ksz)
show wpAny (model X.prog X.w) X.A.in1.in1 (ksk_rest a (.ref f) false vs.toArray e1 (.ref ((s.heap.update a (Obj.mapSeq λ_=>(#[]:Array Value))).push (seqObj "tuple" vs.toArray 0)).objs.size)) P EE { s with heap:=((s.heap.update a (Obj.mapSeq λ_=>(#[]:Array Value))).push (seqObj "tuple" vs.toArray 0)).push (seqObj "list" #[] 0) }
rw[←eks]
have gk0:(((s.heap.update a (Obj.mapSeq λ_=>(#[]:Array Value))).push (seqObj "tuple" vs.toArray 0)).push (seqObj "list" #[] 0)).get? kS=some (seqObj "list" #[] 0):=by rw[eks];exact kY _ rfl
have ga0:=hU (seqObj "list" #[] 0) (hU (seqObj "tuple" vs.toArray 0) g1)
have I0:Inv X pins σ H { s with heap:=((s.heap.update a (Obj.mapSeq λ_=>(#[]:Array Value))).push (seqObj "tuple" vs.toArray 0)).push (seqObj "list" #[] 0),toks:=s.toks }:=I.turnedN (fp:=[a]) (λb o hb' e=>hU _ (hU _ ((mG _ _ (λz=>hb' (kC.mpr z.symm))).trans e))) (λb hb'=>by rw[kC.mp hb'];exact fa)
have fk0:FpOk X pins H kS:=I.fpOk ksz (I.hok.fresh ksz)
have fp:∀{H':Hp} {b:Addr},FpOk X pins H b→H' b=none→FpOk X pins H' b:=λf e=>⟨e,f.2⟩
unfold ksk_rest
refine kG (wpAny_rule ?_)
first
 |rw[List.forIn_toArray]
 |(rw[←Array.forIn_toList];simp only[sD])
refine kG (ksk_fold (I:=λi s'=>∃H' zs ks e,Inv X pins σ H' s'∧s'.heap.get? a=some (seqObj "list" #[] e1)∧s'.heap.get? kS=some (seqObj "list" (List.toArray ks) e)∧Vals zs ks∧zs.length=i∧Pv i zs H'∧H' a=none∧H' kS=none) vs 0 _ ⟨H,[],[],0,I0,ga0,gk0,.nil,rfl,h0,fa.1,fk0.1⟩ (λj x s' hx hJ=>?_) λs' hJ=>?_)
·obtain⟨H',zs,ks,e,I1,ga,gk,rz,lz,pv,na,nk⟩:=hJ;rw[Nat.zero_add]at lz pv ⊢;have hj:j<vs.length:=(kD.mp hx).1;obtain⟨y,ey,ry⟩:=rv.atN (j:=j) hj;obtain rfl:vs[j]=x:=(kD.mp hx).2;have I2:=(I1.near (A':=X.A.in1.in1) rfl rfl λ_ _=>False).pinned (fp:=[a,kS]) (λb hb'=>by
  simp only[kR,gQ,wQ]at hb';rcases hb' with rfl|rfl
  ·exact fp fa na
  ·exact fp fk0 nk) (λb hb'=>by
  simp only[kR,gQ,wQ]at hb';rcases hb' with rfl|rfl
  ·exact⟨_,ga,λv z=>by cases z⟩
  exact⟨_,gk,λv z=>by cases z⟩)
 refine kG (sF (gJ (hs j y zs H' _ _ _ ey ry pv I2) (λu s'' hq=>?_) λ_ _ z=>z.elim));obtain⟨z,H'',I3,ru,q⟩:=hq;have pa:=I3.pin (a,seqObj "list" #[] e1) (kN _ (kN _ (uJ (by simp) ga)));have pk:=I3.pin (kS,seqObj "list" (List.toArray ks) e) (kN _ (kN _ (uJ (by simp) gk)));have lk:=rz.length;have ea:(List.toArray ks).push u=List.toArray (ks++[u]):=by simp
 obtain⟨c2,g2⟩:∃c2,(s''.heap.update kS (Obj.mapSeq (·.push u))).get? kS=some (seqObj "list" (List.toArray (ks++[u])) c2):=⟨_,by rw[←ea];exact pD pk.1 (·.push u)⟩;try dsimp only
 refine kG (cU pk.1 rfl ?_ (by rw[kQ,gK];lia) (mI (cA (Array.size_push ..)) (by rw[kQ,gK];lia)));have I4:Inv X pins σ H'' s'':=(I3.unpinned).near (A':=X.A) rfl rfl X.xe;have I5:Inv X pins σ H'' { s'' with heap:=s''.heap.update kS (Obj.mapSeq (·.push u)),toks:=s''.toks }:=I4.turnedN (fp:=[kS]) (λb o hb' e=>(mG _ _ (λz=>hb' (kC.mpr z.symm))).trans e) (λb hb'=>by rw[kC.mp hb'];exact fp fk0 pk.2.1);exact kX ⟨rfl,H'',zs++[z],ks++[u],c2,I5,(mG _ _ ne).trans pa.1,g2,rz.append (.cons ru .nil),by rw[mP,lz];rfl,q,pa.2.1,pk.2.1⟩
obtain⟨H',zs,ks,e,I1,ga,gk,rz,lz,pv,na,nk⟩:=hJ
rw[Nat.zero_add,←hl]at lz pv
obtain⟨kk,m,hti,hw,hm,fin⟩:=hd zs H' na lz pv
try dsimp only
refine kG (listItems_at gk rfl ?_)
exact qE3 I1 (fp fa na) (fp fk0 nk) ha ne ga gk rz rv lz h64 hti hw hm fin)
end
noncomputable def oneQ(R:V→Hp→Prop):List V→Hp→Prop
| [v],H=>R v H
|_,_=>False
theorem qE9{R:V→Hp→Prop}:∀{xs:List V} {H:Hp},oneQ R xs H→∃v,xs=[v]∧R v H
| [v],_,h=>⟨v,rfl,h⟩
| [],_,h=>h.elim
|_::_::_,_,h=>h.elim
noncomputable def tSL(P:Program)(w:World)(K:PySem.W.Frag)(mg:Str→Option Value)(base:Heap)(cells:List (Str×Addr))(ix:List (Nat×Str))(k:Nat)(x:Str)(tl:TE)(ta:TA):TE:=λσ H Q=>ta σ H λvs H1=>tl σ H1 λfv H2=>∃(f:Addr) (fd:FuncData) (sp:Heap→Sp),fv=.ref f∧(∀base',(∀b o,base.get? b=some o→base'.get? b=some o)→q4X cells σ base' ix→FnOk P w K mg base' CX0 k f fd [x] (sp base'))∧yC K fd [x] []∧∃(l:Addr) (us:List V) (Pv:Nat→List V→Hp→Prop),vs=[.ref l]∧SqL K H2 l us∧us.length<64∧Pv 0 [] H2∧(∀base' i x zs H',q4X cells σ base' ix→us[i]?=some x→Pv i zs H'→sp base' [x] H' (λz H''=>Pv (i+1) (zs++[z]) H'') E0)∧∀zs H',zs.length=us.length→Pv us.length zs H'→∃kk m,Paired (TupI K H') zs kk∧(∀k∈kk,k.length=m)∧0<m∧∀q:List Nat,q.Perm (List.range us.length)→(q.map λi=>kk.getD i []).Pairwise (λa b=>lx b a=false)→NewO H' (.lst (q.map λi=>us.getD i .non)) Q
theorem q9C{X:Cx}{k:Nat}{x:Str}{e le:Expr}{tl:TE}{ta:TA}{p kp pos:Pos}(ix:List (Nat×Str))(hix:∀p∈ix,X.N[p.1]?=some p.2∧X.env.scope.names.lookup p.2=some .cell∧X.fn p.2=true)(hr:Room (k+2) X.A)(hg:Gl X "sorted")(hm:X.mg "sorted"=none)(hl:PE X le tl)(ha:PA X [e] ta)
 (he:starEach [e] X.env=[(false,eval e X.env)]:=by rfl) (hse:starEach ([]:List Expr) X.env=[]:=by rfl):
 PE X (.Call (.Name "sorted" p) [e] [⟨some "key",le,kp⟩] pos) (tSL X.prog X.w X.K X.mg X.base X.env.cells ix k x tl ta):=by(
intro pins s σ H Q I h
refine dH (q4G I hg hm (u:=.builtin "sorted") (by kernel_rfl) ?_ (by decide) (by decide))
refine callWith_kw (thn (ha pos pins s σ H _ I h) λus s1 ⟨vs,H1,I1,r1,q1⟩=>?_) (by rw[he,hse];rfl) (by rw[he];rfl)
have pk:PK X [⟨some "key",le,kp⟩] (qBK tl tNil):=qDA hl qF9
refine thn (pk pos pins s1 σ H1 (oneQ _) I1 q1) λws s2 hZ=>?_
obtain⟨xs,H2,I2,r2,q2⟩:=hZ
obtain⟨v,rfl,f,fd,sp,rfl,F,hb,q2⟩:=qE9 q2
obtain⟨w,rfl,rw⟩:=vU r2
obtain rfl:w=Value.ref f:=rw
obtain⟨l,us',Pv,ev,hq,h64,p0,hs,hd⟩:=q2
subst ev
obtain⟨u,rfl,ru⟩:=vU r1
obtain rfl:u=Value.ref l:=ru
obtain⟨its,rv,pl,hz⟩:=I2.list hq
have hlen:=rv.length
show wpAny (model X.prog X.w) X.A (call (.builtin "sorted") [.ref l] [(Str.ofString "key",.ref f)]) _ _ _
refine call_function_entry_kw kind_sorted plain_sorted entry_sorted (ksk_s1 _ _) ?_
unfold Builtin.«sorted»
refine kG (m:=checkCount "sorted" 1 1 _) (kX (kG (collect_list pl.isList (kG (wpAny_newList ?_ (by rw[gK];show its.length≤_;lia))))))
have hsz:((s2.heap.push (seqObj "list" #[] 0)).update s2.heap.objs.size (Obj.mapSeq (· ++its.toArray))).objs.size=s2.heap.objs.size+1:=by rw[nG,size_push']
have g:(((s2.heap.push (seqObj "list" #[] 0)).update s2.heap.objs.size (Obj.mapSeq (· ++its.toArray))).push (seqObj "list" its.toArray 0)).get? (s2.heap.objs.size+1)=some (seqObj "list" its.toArray 0):=by rw[←hsz];exact kY _ rfl
show wpAny _ _ _ _ _ { s2 with heap:=((s2.heap.push (seqObj "list" #[] 0)).update s2.heap.objs.size (Obj.mapSeq (· ++its.toArray))).push (seqObj "list" its.toArray 0) }
rw[hsz]
have I3:Inv X pins σ H2 { s2 with heap:=((s2.heap.push (seqObj "list" #[] 0)).update s2.heap.objs.size (Obj.mapSeq (· ++its.toArray))).push (seqObj "list" its.toArray 0),toks:=s2.toks }:=I2.kept (t':=s2.toks) λb o e=>hU _ ((mG _ _ (d0 (kM e))).trans (hU _ e))
refine kG (gY (wpAny_call_entry_kw slot_list_sort ⟨_,g,rfl⟩ entry_list_sort ?_ (ksk_l1 _ _)))
rw[ksk_t1]
have fr:s2.heap.objs.size≤s2.heap.objs.size+1:=dW _
refine qB2 I3 g (I2.fpOk fr (I2.hok.fresh fr)) (mI I2.sz fr) rv h64 Pv p0 (λi x zs H' pins' s' u hx rx pv I'=>qE8 (X:={ X with A:=X.A.in1.in1,xe:=λ_ _=>False }) (dvs:=[]) (ds:=[]) (E:=E0) ix hix F hr.in1.in1 hb .nil qK I' (.cons rx .nil) (λbase' up cv=>hs base' i x zs H' cv hx pv)) λzs H' na lz pv=>?_
obtain⟨kk,m,a1,a2,a3,a4⟩:=hd zs H' lz pv
refine⟨kk,m,a1,a2,a3,λq b1 b2 s' I'=>⟨_,rfl,kX ⟨_,rfl,.ref _,_,I',rfl,(a4 q b1 b2).at _ na⟩⟩⟩)
end L2
namespace W1
open PySem L2
structure QM where
P:Nat
B:Nat
nx:Int
V:Mp
lv:List Int
fi:List Int
bo:List Int
namespace QM
structure Ok(m:QM):Prop where
p1:1≤m.P
p2:m.P≤16
b2:m.B≤16
ll:m.lv.length=m.B
lf:m.fi.length=m.B
lo:m.bo.length=m.B
nd:(m.V.map (·.1)).Nodup
nm:∀q∈m.V,0≤q.1∧q.1≤64
blk:∀q∈m.V,∃b:Nat,b<m.B∧q.2 / (m.P:Int)=(b:Int)
wr:∀b,b<m.B→∃f:Nat,m.fi.getD b 0=(f:Int)∧f≤m.P
variable{m:QM}
theorem Ok.lenV(h:m.Ok):m.V.length≤65:=by
 have:=q8F (l:=m.V.map (·.1)) (m:=(List.range 65).map λi:Nat=>(i:Int)) h.nd λx hx=>by obtain⟨q,hq,rfl⟩:=mB.mp hx;have:=h.nm q hq;exact mB.mpr ⟨q.1.toNat,kW.mpr (by lia),by lia⟩
 rw[hV,hV,mL]at this;exact this
noncomputable def forget(m:QM)(n:Int):QM:={ m with V:=yE m.V n,lv:=BM.lvF m.P m.V m.lv n }
theorem find_V{n:Int}:(∃p,(n,p)∈m.V∧m.V.find? (λq=>decide (q.1=n))=some (n,p))∨((∀q∈m.V,q.1≠n)∧m.V.find? (λq=>decide (q.1=n))=none):=by(
cases e:m.V.find? (λq=>decide (q.1=n))with
|none=>refine .inr ⟨λq hq z=>?_,rfl⟩;have:=d9.mp e q hq;exact this (hI z)
|some q=>
 have h1:q.1=n:=by have:=nP e;simpa using this
 have h2:=cJ e;refine .inl ⟨q.2,by rw[←h1];exact h2,by rw[←h1]⟩)
theorem qA8{n:Int}:(BM.lvF m.P m.V m.lv n).length=m.lv.length:=by(
unfold BM.lvF
split
·rw[m7]
rfl)
theorem Ok.forget(h:m.Ok)(n:Int):(m.forget n).Ok:={ h with ll:=by show(BM.lvF m.P m.V m.lv n).length=m.B;rw[qA8];exact h.ll,nd:=q50 h.nd,nm:=λq hq=>h.nm q (jD.mp hq).1,blk:=λq hq=>h.blk q (jD.mp hq).1 }
noncomputable def put(m:QM)(b f:Nat)(n:Int):QM:={ m with V:=yE m.V n++[(n,((b*m.P+f:Nat):Int))],lv:=(BM.lvF m.P m.V m.lv n).set b ((BM.lvF m.P m.V m.lv n).getD b 0+1),bo:=if m.fi.getD b 0=0 then m.bo.set b m.nx else m.bo,fi:=m.fi.set b (m.fi.getD b 0+1),nx:=m.nx+1 }
theorem Ok.put(h:m.Ok){b f:Nat}{n:Int}(hb:b<m.B)(hf:f<m.P)(ef:m.fi.getD b 0=(f:Int))(n0:0≤n)(n1:n≤64):(m.put b f n).Ok where
p1:=h.p1
p2:=h.p2
b2:=h.b2
ll:=by show(List.set _ _ _).length=m.B;rw[m7,qA8];exact h.ll
lf:=by show(List.set _ _ _).length=m.B;rw[m7];exact h.lf
lo:=by
 show(if m.fi.getD b 0=0 then m.bo.set b m.nx else m.bo).length=m.B;split
 ·rw[m7];exact h.lo
 exact h.lo
nd:=by
 show((yE m.V n++[(n,((b*m.P+f:Nat):Int))]).map (·.1)).Nodup;rw[mE];refine mW.mpr ⟨q50 h.nd,by simp,λa ha c hc=>?_⟩;obtain⟨q,hq,rfl⟩:=mB.mp ha;have hc:c=n:=by simpa using hc
 rw[hc];exact(jD.mp hq).2
nm:=λq hq=>by
 rcases mO.mp hq with hq|hq
 ·exact h.nm q (jD.mp hq).1
 rw[kC.mp hq];exact⟨n0,n1⟩
blk:=λq hq=>by
 rcases mO.mp hq with hq|hq
 ·exact h.blk q (jD.mp hq).1
 rw[kC.mp hq];refine⟨b,hb,?_⟩;show((b*m.P+f:Nat):Int) / (m.P:Int)=_;rw[←nH,q73 hf]
wr:=λc hc=>by
 show ∃g:Nat,(m.fi.set b (m.fi.getD b 0+1)).getD c 0=(g:Int)∧g≤m.P;rw[q2K];split
 ·exact⟨f+1,by rw[ef];rfl,hf⟩
 exact h.wr c hc
end QM
noncomputable def vn(b:Nat):V:=.int (b:Int)
noncomputable def vL(B:Nat)(br:List Bool):List Nat:=(List.range B).filter λb=>!(br.getD b false)
noncomputable def yL(B:Nat)(br:List Bool)(fi:List Int):List Nat:=(vL B br).filter λb=>decide (fi.getD b 0=0)
noncomputable def keyN(cl:List Int)(b:Nat):List Int:=[cl.getD b 0,(b:Int)]
structure FreeIs(B:Nat)(br:List Bool)(cl fi:List Int)(l:List Nat):Prop where
pm:l.Perm (yL B br fi)
so:(l.map (keyN cl)).Pairwise λa b=>lx b a=false
theorem qEA{cl:List Int}{a b:Nat}(h:keyN cl a=keyN cl b):a=b:=by(
unfold keyN at h
injection h with _ h
injection h with h _
lia)
theorem qA9{α β:Type}{f:α→β}(hf:∀a b,f a=f b→a=b):∀{l m:List α},l.map f=m.map f→l=m
| [],[],_=>rfl
| [],_::_,h=>by cases h
|_::_,[],h=>by cases h
|a::l,b::m,h=>by
 rw[mM,mM]at h;injection h with h1 h2
 rw[hf _ _ h1,qA9 hf h2]
theorem FreeIs.one{B:Nat}{br:List Bool}{cl fi:List Int}{l l':List Nat}(h:FreeIs B br cl fi l)(h':FreeIs B br cl fi l'):l=l':=qA9 (f:=keyN cl) (λ_ _=>qEA) (qCM ((h.pm.trans h'.pm.symm).map _) h.so h'.so)
theorem q2M{B:Nat}{br:List Bool}{b:Nat}:b∈vL B br↔b<B∧br.getD b false=false:=by unfold vL;rw[gM,kW,wE]
theorem q6N{B:Nat}{br:List Bool}{fi:List Int}{b:Nat}:b∈yL B br fi↔(b<B∧br.getD b false=false)∧fi.getD b 0=0:=by unfold yL;rw[gM,q2M,k9]
theorem q8I{B:Nat}{br:List Bool}:(vL B br).length≤B:=mI (gD _ _) (by rw[mL];exact kH _)
theorem qB3{B:Nat}{br:List Bool}{fi:List Int}:(yL B br fi).length≤B:=mI (gD _ _) q8I
theorem FreeIs.mem{B:Nat}{br:List Bool}{cl fi:List Int}{l:List Nat}(h:FreeIs B br cl fi l){b:Nat}(hb:b∈l):b<B∧br.getD b false=false∧fi.getD b 0=0:=by have:=q6N.mp (h.pm.mem_iff.mp hb);exact⟨this.1.1,this.1.2,this.2⟩
noncomputable def zE(P:Nat)(fi:List Int)(b:Nat):Bool:=decide (0<fi.getD b 0)&&decide (fi.getD b 0<(P:Int))
noncomputable def q1L(B P:Nat)(br:List Bool)(fi:List Int):Option Nat:=(vL B br).find? (zE P fi)
theorem q51{B P:Nat}{br:List Bool}{fi:List Int}{b:Nat}(h:q1L B P br fi=some b):b<B∧br.getD b false=false∧0<fi.getD b 0∧fi.getD b 0<(P:Int):=by(
have h1:=q2M.mp (cJ h)
have h2:=nP h
unfold zE at h2
rw[mH,k9,k9]at h2
exact⟨h1.1,h1.2,h2.1,h2.2⟩)
noncomputable def vX(B P:Nat)(br:List Bool)(fi:List Int)(l:List Nat):Option Nat:=match q1L B P br fi with
|some b=>some b
|none=>l.head?
theorem qCQ{B P:Nat}{br:List Bool}{cl fi:List Int}{l:List Nat}(hl:FreeIs B br cl fi l)(hP:1≤P){b:Nat}(h:vX B P br fi l=some b):b<B∧br.getD b false=false∧0≤fi.getD b 0∧fi.getD b 0<(P:Int):=by(
unfold vX at h
split at h
·rename_i b' e;cases h;have:=q51 e;exact⟨this.1,this.2.1,by lia,this.2.2.2⟩
cases l with
|nil=>cases h
|cons c r=>cases h;have:=hl.mem kU;exact⟨this.1,this.2.1,by lia,by lia⟩)
noncomputable def pgV(P:Nat)(fi:List Int):Option Nat→V
|none=>.non
|some b=>.int ((b:Int)*(P:Int)+fi.getD b 0)
noncomputable def oV:Option Nat→V
|none=>.non
|some b=>.int (b:Int)
theorem q52{α β:Type}{L:List α}{f:α→β}{d:β}{e:α}:∀{q:List Nat},(∀i∈q,i<L.length)→(q.map λi=>(L.map f).getD i d)=(q.map λi=>L.getD i e).map f
| [],_=>rfl
|i::q,h=>by have hi:=h i kU;rw[mM,mM,mM,q52 (q:=q) λj hj=>h j (hZ _ hj)];congr 1;rw[kO,kO,mC,hX hi];rfl
theorem q9D{α:Type}{L:List α}{e:α}{q:List Nat}(h:q.Perm (List.range L.length)):(q.map λi=>L.getD i e).Perm L:=by(
have:=h.map λi=>L.getD i e
refine this.trans ?_
have eq:(List.range L.length).map (λi=>L.getD i e)=L:=by refine rQ (by simp) λi h1 h2=>?_;rw[dF,dJ,kO,hX h2];rfl
rw[eq])
theorem qEB{B:Nat}{br:List Bool}{cl fi:List Int}{q:List Nat}(h:q.Perm (List.range (yL B br fi).length))(so:(q.map λi=>((yL B br fi).map (keyN cl)).getD i []).Pairwise λa b=>lx b a=false):FreeIs B br cl fi (q.map λi=>(yL B br fi).getD i 0):=by(
have hin:∀i∈q,i<(yL B br fi).length:=λi hi=>kW.mp (h.mem_iff.mp hi)
refine⟨q9D h,?_⟩
rw[q52 (e:=0) hin]at so
exact so)
theorem q6O{α β:Type}{L:List α}{f:α→β}{i:Nat}{x:α}(h:L[i]?=some x):(L.take (i+1)).map f=(L.take i).map f++[f x]:=by(
have hi:=(kD.mp h).1
obtain rfl:L[i]=x:=(kD.mp h).2
rw[←m9 hi,mE]
rfl)
theorem qEC{a b:List Int}(h:lx a b=true):lx b a=false:=by(
cases z:lx b a with
|false=>rfl
|true=>have:=q0H a b a h z;rw[q9A]at this;cases this)
theorem qHO{a b c:List Int}(h1:lx b a=false)(h2:lx c b=false):lx c a=false:=by(
cases z:lx c a with
|false=>rfl
|true=>
 cases y:lx a b with
 |true=>have:=q0H c a b z y;rw[h2]at this;cases this
 |false=>have e:=q72 a b y h1;rw[e]at z;rw[h2]at z;cases z)
theorem FreeIs.ex(B:Nat)(br:List Bool)(cl fi:List Int):∃l,FreeIs B br cl fi l:=by(
refine⟨(yL B br fi).mergeSort λa b=>!(lx (keyN cl b) (keyN cl a)),List.mergeSort_perm _ _,?_⟩
have:=List.pairwise_mergeSort (le:=λa b=>!(lx (keyN cl b) (keyN cl a))) (λa b c h1 h2=>by
 rw[wE]at h1 h2 ⊢;exact qHO h1 h2) (λa b=>by
 cases z:lx (keyN cl b) (keyN cl a)with
 |false=>rfl
 |true=>rw[qEC z];rfl) (yL B br fi)
rw[wF]
exact this.imp λh=>by rw[wE]at h;exact h)
theorem rep8{α:Type}{n i:Nat}{y:α}:(List.replicate n y).getD i y=y:=by rw[kO,g0];split<;>rfl
noncomputable def linF(B P n:Nat):List Int:=(List.range B).map λb=>((min (n-b*P) P:Nat):Int)
theorem q2N{B P n:Nat}:(linF B P n).length=B:=by unfold linF;rw[hV,mL]
theorem q1A{B P n b:Nat}(hb:b<B):(linF B P n).getD b 0=((min (n-b*P) P:Nat):Int):=by unfold linF;rw[kO,mC,dB hb];rfl
theorem qGH{B P:Nat}:linF B P 0=List.replicate B 0:=by(
unfold linF
refine rQ (by simp) λi h1 h2=>?_
rw[dF,List.getElem_replicate]
simp)
theorem q53{B:Nat}:vL B (List.replicate B false)=List.range B:=by(
unfold vL
refine p9.mpr λb _=>?_
rw[rep8]
rfl)
theorem q1B{P n:Nat}(hP:0<P):n=n / P*P+n%P∧n%P<P:=qGF hP
theorem q8J{B P n:Nat}(hP:0<P)(hn:n<B*P):n / P<B∧(linF B P n).getD (n / P) 0=((n%P:Nat):Int):=by(
obtain⟨e,l⟩:=q1B (P:=P) (n:=n) hP
have hb:n / P<B:=wR (by rw[wD];exact hn)
refine⟨hb,?_⟩
rw[q1A hb]
congr 1
lia)
theorem qED{B P n:Nat}(hP:0<P)(hn:n<B*P):(linF B P n).set (n / P) ((linF B P n).getD (n / P) 0+1)=linF B P (n+1):=by(
obtain⟨e,l⟩:=q1B (P:=P) (n:=n) hP
obtain⟨hb,ef⟩:=q8J hP hn
rw[ef]
refine rQ (by rw[m7,q2N,q2N]) λi h1 h2=>?_
rw[q2N]at h2
have g:∀m,(h:i<(linF B P m).length)→(linF B P m)[i]=((min (m-i*P) P:Nat):Int):=λm h=>by have z:=q1A (B:=B) (P:=P) (n:=m) (b:=i) (by rw[q2N]at h;exact h);rw[kO,hX h]at z;exact z
rw[List.getElem_set]
by_cases z:n / P=i
·rw[kJ z,g];have:min (n+1-i*P) P=n%P+1:=by rw[←z];lia
 rw[this];rfl
rw[kI z,g,g]
congr 1
rcases cI z with y|y
·have:(n / P+1)*P≤i*P:=rO _ y;rw[cQ,cR]at this;lia
have:(i+1)*P≤n / P*P:=rO _ y
rw[cQ,cR]at this
lia)
theorem q54{p:Nat→Bool}:∀{B k:Nat},k<B→p k=true→(∀j,j<k→p j=false)→(List.range B).find? p=some k:=fun {B k} hk hp hn=>by rw[List.find?_range_eq_some];exact⟨hp,kW.mpr hk,λj hj=>by rw[hn j hj];rfl⟩
theorem qCR{B P n:Nat}{l:List Nat}(hP:0<P)(hn:n≤B*P)(hl:FreeIs B (List.replicate B false) (List.replicate B 0) (linF B P n) l):vX B P (List.replicate B false) (linF B P n) l=if n<B*P then some (n / P)else none:=by(
obtain⟨e,r⟩:=q1B (P:=P) (n:=n) hP
have cand:FreeIs B (List.replicate B false) (List.replicate B 0) (linF B P n) (yL B (List.replicate B false) (linF B P n)):=by
 refine⟨lA _,?_⟩;rw[wF];unfold yL;rw[q53];refine((List.pairwise_lt_range (n:=B)).filter _).imp fun {a b} h=>?_
 unfold keyN;rw[rep8,rep8,lx2,kJ rfl,kI (by lia)];exact hG (by lia)
obtain rfl:=hl.one cand
have ip:∀b,b<B→zE P (linF B P n) b=decide (b=n / P∧n%P≠0):=λb hb=>by
 unfold zE;rw[q1A hb,←Bool.decide_and];refine wM.mpr ⟨λh=>?_,λh=>?_⟩
 ·have h1:b*P<n:=by lia
  have h2:n<b*P+P:=by lia
  have e2:n / P=b:=by rw[Nat.div_eq_of_lt_le (k:=b) (by lia) (by rw[cQ,cR];exact h2)]
  refine⟨e2.symm,?_⟩;rw[e2]at e;lia
 obtain⟨rfl,h⟩:=h;lia
unfold vX q1L
rw[q53]
by_cases z:n%P=0
·have np:(List.range B).find? (zE P (linF B P n))=none:=by rw[d9];intro b hb;rw[ip b (kW.mp hb),hG (λy=>y.2 z)];decide
 rw[np];show(yL B (List.replicate B false) (linF B P n)).head?=_;unfold yL;rw[q53,List.head?_filter];by_cases y:n<B*P
 ·rw[kJ y];have hb:n / P<B:=wR (by rw[wD];exact y);refine q54 hb ?_ λj hj=>?_
  ·rw[q1A hb];exact hI (by lia)
  have hj':j<B:=by lia
  have:(j+1)*P≤n / P*P:=rO _ hj;rw[cQ,cR]at this;rw[q1A hj'];exact hG (by lia)
 rw[kI y,d9];intro b hb;have hb:=kW.mp hb;have:(b+1)*P≤B*P:=rO _ hb;rw[cQ,cR]at this;rw[q1A hb,hG (by lia)];decide
have y:n<B*P:=by
 rcases Nat.lt_or_eq_of_le hn with y|y
 ·exact y
 rw[y,Nat.mul_mod_left]at z;exact absurd rfl z
have hb:n / P<B:=wR (by rw[wD];exact y)
have fp:(List.range B).find? (zE P (linF B P n))=some (n / P):=by
 refine q54 hb ?_ λj hj=>?_
 ·rw[ip _ hb];exact hI ⟨rfl,z⟩
 rw[ip j (by lia)];exact hG (λw=>by lia)
rw[fp,kJ y])
end W1
namespace L2
open PySem PySem.Spec PyProof.Rows
section
variable{H0:Hp}{σ:St}
theorem XAny.same{H H':Hp}{ea:Addr}{C:Value}{od:Option Addr}(s:Same H H')(h:XAny H ea C od):XAny H' ea C od:=h.imp (s _ _) (s _ _)
end
noncomputable def mK(k:Key)(a:List Key):Bool:=a.any λy=>decide (y=k)
theorem q37{k:Key}{a:List Key}:mK k a=true↔k∈a:=by(
unfold mK
rw[dZ]
constructor
·rintro⟨y,hy,e⟩
 exact gL e▸hy
exact λh=>⟨k,h,hI rfl⟩)
noncomputable def unS(a:List Key)(k:Key):List Key:=if mK k a=true then a else a++[k]
noncomputable def unl(ks:List Key):List Key:=ks.foldl unS []
theorem q77:∀(ks a:List Key),a.Nodup→(ks.foldl unS a).Nodup∧(∀x,x∈ks.foldl unS a↔x∈a∨x∈ks)∧(ks.foldl unS a).length≤a.length+ks.length
| [],a,n=>⟨n,by simp,by simp⟩
|k::r,a,n=>by
 have st:(unS a k).Nodup∧(∀x,x∈unS a k↔x∈a∨x=k)∧(unS a k).length≤a.length+1:=by
  unfold unS;split
  ·rename_i z;exact⟨n,λx=>⟨.inl,λy=>y.elim id λe=>e▸q37.mp z⟩,by lia⟩
  rename_i z;exact⟨mW.mpr ⟨n,by simp,λx hx y hy e=>z (q37.mpr (by rw[←kC.mp hy,←e];exact hx))⟩,by simp,by simp⟩
 obtain⟨h1,h2,h3⟩:=q77 r (unS a k) st.1;refine⟨h1,λx=>?_,?_⟩
 ·rw[pB,h2,st.2.1,kR,or_assoc]
 rw[pB,mQ];have:=st.2.2;lia
theorem qB4{ks:List Key}:(unl ks).Nodup:=(q77 ks [] rP).1
theorem q78{ks:List Key}{x:Key}:x∈unl ks↔x∈ks:=by rw[show(x∈unl ks)=(x∈ks.foldl unS [])from rfl,(q77 ks [] rP).2.1];simp
theorem qAA{ks:List Key}:(unl ks).length≤ks.length:=by have:=(q77 ks [] rP).2.2;simpa[unl]using this
theorem qCS{ks:List Key}{i:Nat}{k:Key}(h:ks[i]?=some k):unl (ks.take (i+1))=unS (unl (ks.take i)) k:=by(
obtain⟨hi,rfl⟩:=kD.mp h
unfold unl
rw[←m9 hi,List.foldl_append]
rfl)
theorem qEE:∀{k:Key} {v:Value},RelV (kV k) v→q29 k v=true∧v.scannable=true
| .inl i,v,h=>by obtain⟨t,rfl⟩:=h;exact⟨q61 i t,rfl⟩
| .inr x,v,h=>by obtain⟨t,rfl⟩:=h;exact⟨q62 x t,rfl⟩
section
variable{P:Program}{w:World}{A:Around}{E:Value→Shared→Prop}{s:Shared}{I:Addr}{fp wr:List Addr}{G:Array GenState→Array GenState→Prop}{n:Nat}{C:Nat→Value→Prop}{St:Nat→Shared→Prop}
theorem q1Z{h h':Heap}{a:Addr}{S:Key→Bool}{n:Nat}(x:h.SetOf (qX P w) a S n)(k:∀o,h.get? a=some o→h'.get? a=some o):h'.SetOf (qX P w) a S n:=by obtain⟨o,es,ep,tb,ho,r⟩:=x;exact⟨o,es,ep,tb,k o ho,r⟩
theorem qCT{R:Result→Shared→Prop}(W:WalksS P w A.in1 I fp wr G n C St)(a:Addr)(na:a∉fp)(ks:List Key)(ln:ks.length=n)(hv:∀i v,C i v→∃k,ks[i]?=some k∧RelV (kV k) v)(hb:n+1<scanBound):
 ∀(j i:Nat) (s:Shared),n-i=j→i≤n→St i s→s.heap.SetOf (qX P w) a (λx=>mK x (ks.take i)) (unl (ks.take i)).length→(∀s',Moved (a::wr) G s s'→s'.heap.SetOf (qX P w) a (λx=>mK x ks) (unl ks).length→R (.ok (.ret .none)) s')→codeAny (model P w) A (.builtin "set.update.loop" ⟨[.ref a,.ref I],[]⟩) R s:=by(
have nw:a∉wr:=λh=>na (W.sub _ h)
have sb:∀b∈wr,b∈a::wr:=λb hb=>hZ _ hb
intro j
induction j with
|zero=>
 intro i s hj hi st hS hR;obtain rfl:i=n:=by lia
 refine pE cY ?_;rw[pR wA _];refine kG (m:=pyNext (.ref I)) (W.done s _ _ st λs' hm=>?_);refine kX (hR s' (hm.mono sb) ?_);rw[←ln,dG]at hS;exact q1Z hS λo e=>hm.heap a _ nw e
|succ j ih=>
 intro i s hj hi st hS hR;have lt:i<n:=by lia
 refine pE cY ?_;rw[pR wA _];refine kG (m:=pyNext (.ref I)) (W.item i s _ _ lt st λv s' hC st' hm=>?_);obtain⟨k,hk,rk⟩:=hv i v hC;have hS':=q1Z hS λo e=>hm.heap a _ nw e;obtain⟨ki,sc⟩:=qEE rk;refine kG (m:=holding [v] (setAdd a v)) (gY ?_);unfold setAdd;refine gY (kG ((qX P w).pyHash (k:=k) ki ?_));have rm:(unl (ks.take i)).length+1<scanBound:=by have:=qAA (ks:=ks.take i);rw[dE]at this;lia
 refine wpAny_setAddHashed_of (knd:=qX P w) (s:={ s' with toks:=s'.toks+1 }) ki sc hS' rm λh' hsb h2=>?_;have e3:h'.SetOf (qX P w) a (λx=>mK x (ks.take (i+1))) (unl (ks.take (i+1))).length:=by
  have e1:(λx=>mK x (ks.take i)||decide (x=k))=λx=>mK x (ks.take (i+1)):=by funext x;obtain⟨hi',rfl⟩:=kD.mp hk;rw[←m9 hi'];unfold mK;rw[List.any_append,rG,List.any_nil,lL];congr 1;exact wM.mpr ⟨Eq.symm,Eq.symm⟩
  have e2:(if mK k (ks.take i)=true then(unl (ks.take i)).length else(unl (ks.take i)).length+1)=(unl (ks.take (i+1))).length:=by
   rw[qCS hk];unfold unS;by_cases z:k∈ks.take i
   ·rw[kJ (q37.mpr z),kJ (q37.mpr (q78.mpr z))]
   rw[kI (λy=>z (q37.mp y)),kI (λy=>z (q78.mp (q37.mp y))),mP];rfl
  rw[←e1,←e2];exact h2
 refine kX ⟨plainId_quiet wA _,ih (i+1) _ (by lia) lt (W.frame _ s' _ _ st' (dW _) λb hb o e=>?_) e3 λs'' m'' S''=>?_⟩
 ·rw[hsb.2 b (λz=>na (z▸hb))];exact e
 refine hR s'' (Moved.trans W.gtrans ((hm.mono sb).then_heap (dW _) λb o hb e=>?_) m'') S'';rw[hsb.2 b (λz=>hb (z▸kU))];exact e)
noncomputable abbrev setN(led:Bool):Obj:={ cls:=.type "set",dict:=none,data:=.set #[] 0 (.fresh 0 0 led) }
theorem q8K{l:Addr}{its:Array Value}{ks:List Key}{Q:Value→Shared→Prop}(hh:A.handled=none)(hl:s.heap.IsList l its)(hv:∀(i:Nat) (v:Value),its[i]?=some v→∃k,ks[i]?=some k∧RelV (kV k) v)(ln:ks.length=its.size)(hb:its.size+1<scanBound)
 (h:∀(h':Heap) (tk:Nat),h'.SetOf (qX P w) s.heap.objs.size (λx=>mK x ks) (unl ks).length→(∀b o,b<s.heap.objs.size→s.heap.get? b=some o→h'.get? b=some o)→Q (.ref s.heap.objs.size) { s with heap:=h',toks:=tk }):
 wpAny (model P w) A (call (.type "set") [.ref l]) Q E s:=by(
obtain⟨c,tl,hmro⟩:=rA.mro
have z1:=rA.made
have z2:=rA.sub
refine rX (codeAny_of_tree (show wpAny _ _ (callAny (.type "set") _) _ _ _ from kX ⟨Code.quiet_builtin _ (by decide+kernel),pE F.entry_type_call ?_⟩))
rw[Around.under_plain (weight_type_call_type "set" [.ref l] []) rfl]
have z3:=rA.notType
have z4:=rA.canCreate
have z5:=F.typeCall_set_1 (.ref l)
repeat (any_goals (first|assumption|wp_step))
refine dU (code_set_new_1 (.ref l) (E:=E) (Q₁:=λobj s₁=>∃led:Bool,obj=.ref s.heap.objs.size∧s₁= { s with heap:=s.heap.push (setN led) }) λled=>⟨led,rfl,rfl⟩) λr s₁ hr=>?_
cases r with
|error e=>exact hr
|ok fl=>
 cases fl with
 |ret obj=>
  obtain⟨led,rfl,rfl⟩:=hr;have hS:(s.heap.push (setN led)).get? s.heap.objs.size=some (setN led):=kY _ rfl;have hT:Shared.TypeIs { s with heap:=s.heap.push (setN led) } (.ref s.heap.objs.size) "set":=⟨_,hS,rfl⟩;have z6:=rA.init.lookup;have z7:=rA.init.bind (.ref s.heap.objs.size);repeat (any_goals (first|assumption|wp_step))
  refine dU (pP (R:=wants (λr s₂=>r=.none∧∃h' tk,s₂= { s with heap:=h',toks:=tk }∧h'.SetOf (qX P w) s.heap.objs.size (λx=>mK x ks) (unl ks).length∧(∀b o,b<s.heap.objs.size→s.heap.get? b=some o→h'.get? b=some o)) E) rA.init.plain F.entry_set_init (check_set_init_1 hT ?_)) λr₂ s₂ hr₂=>?_
  ·obtain⟨ol,hol,hcl,nl,hdl⟩:=hl;obtain⟨oc,od,oda,osl⟩:=ol;simp only at hcl hdl;subst hcl hdl;have hol':(s.heap.push (setN led)).get? l=some { cls:=.type "list",dict:=od,data:=.seq its nl,slots:=osl }:=hU _ hol;have z8:=F.sub_list_set;have z9:=F.sub_list_frozenset;have hne:(Value.type "list"==Value.type "dict")=false:=by decide
   have hl1:(s.heap.push (setN led)).IsList l its:=⟨_,hol',rfl,nl,rfl⟩;unfold Builtin.«set.__init__» noKeywords Builtin.Frozenset.updateFrom;generalize hPI:pyIter=PI;wp_walk
   subst hPI;refine cL hl1 (kG (wpAny_runValue ?_));have lS:l<s.heap.objs.size:=kM hol;have h3:A.in1.in1.in1.handled=none:=by simp[hh]
   have nI:l≠(s.heap.push (setN led)).objs.size:=by rw[rL];lia
   have nf:s.heap.objs.size∉[(s.heap.push (setN led)).objs.size,l]:=by rw[rL];simp;lia
   refine qCT ((nZ h3 _ l nI its).toS) s.heap.objs.size nf ks ln hv hb (its.size-0) 0 _ (by lia) (mJ _) ⟨⟨_,kY _ rfl,rfl,rfl⟩,hl1.push _⟩ ?_ ?_
   ·exact⟨_,#[],0,_,hU _ hS,⟨rfl,rfl,rfl⟩,rfl,λe he=>by simp at he,λk=>⟨λz=>(by cases z),λ⟨e,he,_⟩=>by simp at he⟩,by decide,rfl,rfl⟩
   intro s' hm hS';obtain⟨h',g',d',tk',os'⟩:=s';obtain rfl:g'=s.gens:=hm.gens;obtain rfl:d'=s.drawn:=hm.drawn;obtain rfl:os'=s.os:=hm.os;refine show wpAny _ _ _ _ _ _ from kX (show wpAny _ _ (ret Value.none) _ _ _ from kX ⟨rfl,h',tk',rfl,hS',λb o hb e=>?_⟩)
   refine hm.heap b o ?_ (hU _ (hU _ e));rw[rL];simp;lia
  cases r₂ with
  |error e=>exact hr₂
  |ok fl₂=>
   cases fl₂ with
   |ret r=>
    obtain⟨rfl,h',tk,rfl,hS',hk'⟩:=hr₂;repeat (any_goals (first|assumption|wp_step))
    exact h _ _ hS' hk'
   |_=>exact hr₂.elim
 |_=>exact hr.elim)
end
noncomputable def setO(P:Program)(w:World)(a:Addr)(n:Nat):HO:=.ext λh=>∃S,h.SetOf (qX P w) a S n
section
variable{X:Cx}
theorem qB5(hc:X.calm=true):v8 X (.type "set") (λxs H Q=>∃(p:Addr) (ks:List Key),xs=[.ref p]∧SqL X.K H p (ks.map kV)∧ks.length<1000∧∀a H',H a=none→Same H H'→H' a=some (setO X.prog X.w a (unl ks).length)→Q (.ref a) H'):=by(
intro pins s σ H xs us Q I r hZ
obtain⟨p,ks,ex,hq,h1,q⟩:=hZ
subst ex
obtain⟨u,rfl,rx⟩:=vU r
cases rx
obtain⟨its,rv,pl,hz⟩:=I.list hq
have hlen:its.length=ks.length:=by rw[←rv.length,hV]
have sb:(1001:Nat)<scanBound:=by decide
refine q8K (ks:=ks) (I.ok.hd hc) pl.isList (λi v hv=>?_) (by simp[hlen]) (by simp;lia) λh' tk hs hk=>?_
·have hv:its[i]?=some v:=by simpa using hv
 have hi:i<its.length:=(kD.mp hv).1;obtain⟨u,hu,ru⟩:=rv.get (i:=i) (x:=kV (ks[i]'(by lia))) (by rw[mC,hX (by lia)];rfl);rw[hv]at hu;cases hu;exact⟨_,hX (by lia),ru⟩
refine⟨.ref s.heap.objs.size,_,I.laid (λb o e=>hk b o (kM e) e) (kH _) (show jP X.prog X.w _ _ _ (setO X.prog X.w s.heap.objs.size (unl ks).length)from⟨⟨_,hs⟩,?_,λh1 h2 ⟨S,x⟩ k=>⟨S,q1Z x k⟩⟩),rfl,q _ _ (I.hok.fresh (kH _)) (Same.upd (I.hok.fresh (kH _))) qH⟩
obtain⟨o,_,_,_,e,_⟩:=hs
exact⟨o,e⟩)
theorem qB6:v8 X (.builtin "len") (λxs H Q=>∃a n,xs=[V.ref a]∧H a=some (setO X.prog X.w a n)∧n<1000∧Q (.int (n:Nat)) H):=by(
intro pins s σ H xs us Q I r hZ
obtain⟨a,n,ex,hq,h1,q⟩:=hZ
subst ex
obtain⟨u,rfl,rx⟩:=vU r
cases rx
obtain⟨⟨S,ho⟩,_⟩:=I.hok a _ hq
obtain⟨o,es,ep,t,a1,a2,a3,a4,a5,a6,a7,a8⟩:=ho
subst a8
exact call_len_set a1 a2 a3 a7 (by lia) ⟨.int _,H,I.kept λb o e=>e,⟨_,rfl⟩,q⟩)
theorem q6P:OpR X (compareOp .LtE) (λx y H Q=>∃i j,x=.str i∧y=.str j∧Q (.bl (!decide (j.cps.toList<i.cps.toList))) H):=by(
intro pins s σ H x y v u Q I rx ry h
obtain⟨i,j,rfl,rfl,q⟩:=h
obtain⟨t,rfl⟩:=rx
obtain⟨t',rfl⟩:=ry
exact PySem.P.le_str (jL I q rfl))
end
noncomputable def sg(c:Nat):V:=.str ⟨#[c]⟩
noncomputable def Its(x:Str):It:=⟨λi _=>i<x.cps.toList.length,λi H v H'=>H'=H∧∃c,x.cps.toList[i]?=some c∧v=sg c,λi _=>x.cps.toList.length≤i⟩
theorem qCU{P:Program}{w:World}{K:PySem.W.Frag}{tg:Expr}(x:Str)(t:Tok)(it:Addr){ty:String}(hty:ty="str_ascii_iterator"∨ty="str_iterator"):Turn P w K tg (Its x) [it] it (λi h=>h.IsStrIter it ty x t i) where
mem:=by simp
obj:=λi h st b hb=>by
 obtain rfl:b=it:=by simpa using hb
 obtain⟨o,e,c,d⟩:=st;exact⟨o,e,λv z=>by rw[d]at z;cases z⟩
keep:=λi h h' st k=>by obtain⟨o,e,r⟩:=st;exact⟨o,k it (by simp) o e,r⟩
item:=by
 intro X hP hw hK hc i pins s σ H E I hf st hg;subst hP hw hK;obtain⟨f0,f1,f2,f3,f4,f5⟩:=hf it (by simp);have hg:i<x.cps.toList.length:=hg;have e1:x.cps[i]?=some (x.cps.toList[i]):=by rw[←pK];exact hX hg
 have go:∀h':Heap,h'.IsStrIter it ty x t (i+1)→Heap.SameBut it s.heap h'→(["enumerate","zip","dict_itemiterator","dict_reverseitemiterator","odict_iterator","itertools.zip_longest","itertools.pairwise"].contains ty=false)→∃u,some (Value.str ⟨#[x.cps.toList[i]]⟩ s.toks)=some u∧wpAny (model X.prog X.w) X.A (letOwnedTupleGo tg (.ref it) u) (λ_ s2=>∃y H',Inv X pins σ H' s2∧RelV y u∧(Its x).yld i H y H'∧s2.heap.IsStrIter it ty x t (i+1)∧∀b∈[it],H' b=none) E { s with heap:=h',toks:=s.toks+1 }:=by intro h' st' sb hn;have I1:Inv X pins σ H { s with heap:=h',toks:=s.toks+1 }:=I.turned (t':=s.toks+1) (λb o hb e=>(sb.2 b hb).trans e) f0 f1 f3 f4 f5;obtain⟨o,e,c,d⟩:=id st';exact⟨_,rfl,q9P (s:={ s with heap:=h',toks:=s.toks+1 }) e c d hn ⟨sg _,H,I1,⟨_,rfl⟩,⟨rfl,_,hX hg,rfl⟩,st',λb hb=>(hf b hb).1⟩⟩
 rcases hty with rfl|rfl
 ·exact wpAny_pyNext_ascii_item st e1 λh' a b=>go h' a b (by decide)
 exact wpAny_pyNext_wide_item st e1 λh' a b=>go h' a b (by decide)
done:=by
 intro X hP hw hK hc i pins s σ H E I hf st hg;subst hP hw hK;obtain⟨f0,f1,f2,f3,f4,f5⟩:=hf it (by simp);have hg:x.cps.toList.length≤i:=hg;have e1:x.cps[i]?=none:=by rw[←pK];exact dL hg
 rcases hty with rfl|rfl
 ·exact wpAny_pyNext_ascii_end (I.ok.hd hc) st e1 λh' eb=>⟨rfl,I.turned (t':=s.toks) (λb o hb e=>eb b o hb e) f0 f1 f3 f4 f5⟩
 exact wpAny_pyNext_wide_end (I.ok.hd hc) st e1 λh' eb=>⟨rfl,I.turned (t':=s.toks) (λb o hb e=>eb b o hb e) f0 f1 f3 f4 f5⟩
self:=λ_ _ _ _ _ st h=>by
 rcases hty with rfl|rfl
 ·exact wpAny_pyIter_striter_ascii st h
 exact wpAny_pyIter_striter_wide st h
noncomputable def iStr(tl:TE):TI:=λσ H R=>tl σ H λx H1=>∃z,x=.str z∧R (Its z) H1
theorem qGI{X:Cx}{tg l:Expr}{tl:TE}(hl:PE X l tl):PI X tg l (iStr tl):=by(
intro pins s σ H R I h
refine thn (hl pins s σ H _ I h) λv s1 hZ=>?_
obtain⟨x,H1,I1,r1,q1⟩:=hZ
obtain⟨z,rfl,q⟩:=q1
obtain⟨t,rfl⟩:=r1
have fin:∀ty,(ty="str_ascii_iterator"∨ty="str_iterator")→PIE X pins σ tg R (.ref s1.heap.objs.size) { s1 with heap:=s1.heap.push { cls:=.type ty,data:=.fields #[.str z t,.int 0 0] } }:=by
 intro ty hty;refine⟨s1.heap.objs.size,[s1.heap.objs.size],_,_,H1,rfl,I1.kept (t':=s1.toks) λb o e=>hU _ e,qCU z t _ hty,⟨_,kY _ rfl,rfl,rfl⟩,λb hb=>?_,q⟩;obtain rfl:b=s1.heap.objs.size:=by simpa using hb
 exact I1.fpOk (kH _) (I1.hok.fresh (kH _))
cases ha:z.cps.all (· < 128)
·exact wpAny_pyIter_wide ha (fin _ (.inr rfl))
exact wpAny_pyIter_ascii ha (fin _ (.inl rfl)))
theorem qEF{x:Str}{D:Addr}{H2:Hp}{g:TG}{tc:TT}{te:TE}{σ0:St}{R:Hp→Prop}(Pv:Nat→Hp→Prop)(h0:Pv 0 H2)
 (hs:∀(i:Nat) c H,x.cps.toList[i]?=some c→Pv i H→g (sg c) σ0 H λσ5 H5=>tc σ5 H5 λb H6=>if b=true then te σ5 H6 (λv H7=>∃vs,H7 D=some (.lst vs)∧vs.length<sizeLine∧Pv (i+1) (upd H7 D (.lst (vs++[v]))))else Pv (i+1) H6) (hd:∀H,Pv x.cps.toList.length H→R H):
 ∃W:Nat→Nat→Hp→Prop,(∃m,W 0 m H2)∧∀i m H3,W i m H3→((Its x).stop i H3∧R H3)∨((Its x).go i H3∧∃N:Hp→Prop,(∀H',N H'→∃m',m'<m∧W (i+1) m' H')∧∀v H4,(Its x).yld i H3 v H4→g v σ0 H4 λσ5 H5=>tc σ5 H5 λb H6=>
   if b=true then te σ5 H6 (λv H7=>∃vs,H7 D=some (.lst vs)∧vs.length<sizeLine∧N (upd H7 D (.lst (vs++[v]))))else N H6):=by(
refine⟨λi m H=>m=x.cps.toList.length-i∧i≤x.cps.toList.length∧Pv i H,⟨_,rfl,mJ _,h0⟩,?_⟩
rintro i m H ⟨rfl,hi,p⟩
by_cases hlt:i<x.cps.toList.length
·refine .inr ⟨hlt,Pv (i+1),λH' z=>⟨x.cps.toList.length-(i+1),by lia,rfl,by lia,z⟩,?_⟩;rintro v H4 ⟨rfl,c,hc,rfl⟩
 exact hs i c _ hc p
obtain rfl:i=x.cps.toList.length:=by lia
exact .inl ⟨kH _,hd _ p⟩)
theorem qEG{x:Str}{k:Nat}{D:Addr}{H2:Hp}{te:TE}{σ0:St}{R:Hp→Prop}(Pv:Nat→Hp→Prop)(h0:Pv 0 H2)
 (hs:∀(i:Nat) c H,x.cps.toList[i]?=some c→Pv i H→te (σ0.set k (some (sg c))) H (λv H7=>∃vs,H7 D=some (.lst vs)∧vs.length<sizeLine∧Pv (i+1) (upd H7 D (.lst (vs++[v]))))) (hd:∀H,Pv x.cps.toList.length H→R H):
 ∃W:Nat→Nat→Hp→Prop,(∃m,W 0 m H2)∧∀i m H3,W i m H3→((Its x).stop i H3∧R H3)∨((Its x).go i H3∧∃N:Hp→Prop,(∀H',N H'→∃m',m'<m∧W (i+1) m' H')∧∀v H4,(Its x).yld i H3 v H4→vT k v σ0 H4 λσ5 H5=>q0F σ5 H5 λb H6=>if b=true then te σ5 H6 (λv H7=>∃vs,H7 D=some (.lst vs)∧vs.length<sizeLine∧N (upd H7 D (.lst (vs++[v]))))else N H6):=qEF Pv h0 (λi c H hc hp=>hs i c H hc hp) hd
noncomputable def key3:Option Key→Value→Bool
|none,.none=>true
|none,_=>false
|some k,v=>q29 k v
theorem q1C{k:Key}{v:Value}(h:key3 (some k) v=true):q29 k v=true:=h
theorem uA{v:Value}(h:key3 none v=true):v=.none:=by cases v<;>first|rfl|cases h
noncomputable def qHP(w:World):Option Key→Int
|none=>PySem.reduceHash 0xFCA86420
|some k=>keyH w k
noncomputable def qAB(P:Program)(w:World):PySem.KeyKind P w (Option Key) where
is:=key3
hash:=qHP w
inj:=λv a b ha hb=>by
 cases a with
 |none=>
  obtain rfl:=uA ha;cases b with
  |none=>rfl
  |some k=>rcases jM (q1C hb)with⟨_,_,_,e⟩|⟨_,_,_,e⟩<;>cases e
 |some k=>
  cases b with
  |none=>obtain rfl:=uA hb;rcases jM (q1C ha)with⟨_,_,_,e⟩|⟨_,_,_,e⟩<;>cases e
  |some j=>rw[(qX P w).inj v k j ha hb]
byValue:=λk v h=>by
 cases k with
 |none=>obtain rfl:=uA h;rfl
 |some k=>exact(qX P w).byValue k v h
pyHash:=fun {A E s k v Q} hv h=>by
 cases k with
 |none=>obtain rfl:=uA hv;unfold PySem.pyHash;exact PySem.W.pyHash_slot (T:="NoneType") rfl F.slot_NoneType_hash F.entry_NoneType_hash (F.args_NoneType_hash_1 _) (beq_builtin_none _) (.inl rfl) (kG (kX (kG (wpAny_mkInt (kX ⟨_,_,rfl,h⟩)))))
 |some k=>exact(qX P w).pyHash (k:=k) hv h
eqBool:=fun {A E s a b u v Q} hu hv h=>by
 cases a with
 |none=>
  obtain rfl:=uA hu;cases b with
  |none=>obtain rfl:=uA hv;exact wU _ _ _ _ _ h
  |some j=>
   rcases jM (q1C hv)with⟨i,t,rfl,rfl⟩|⟨x,t,rfl,rfl⟩
   ·exact pU _ _ _ _ _ _ h
   exact pV _ _ _ _ _ _ h
 |some k=>
  cases b with
  |none=>
   obtain rfl:=uA hv;rcases jM (q1C hu)with⟨i,t,rfl,rfl⟩|⟨x,t,rfl,rfl⟩
   ·exact pW _ _ _ _ _ _ h
   exact pX _ _ _ _ _ _ h
  |some j=>refine(qX P w).eqBool (a:=k) (b:=j) hu hv ?_;rw[show decide (k=j)=decide (some k=some j)from wM.mpr ⟨λe=>by rw[e],kP⟩];exact h
«strs»:=λk x t v h=>by
 cases k with
 |none=>exact absurd (uA h) (by intro e;cases e)
 |some k=>exact(qX P w).strs k x t v h
theorem map3{P:Program}{w:World}{h:Heap}{a:Addr}{vs:List (Key×Value)}(d:h.DictOf (qX P w) a vs):∃f,h.MapOf (qAB P w) a f∧f none=none:=by(
obtain⟨o,es,ep,ho,ex,hd,ks,pr,nd⟩:=d
refine⟨λk=>findBy (qAB P w).is es k,⟨o,es,ep,ho,ex,hd,λe he=>?_,λk=>rfl⟩,?_⟩
·obtain⟨k,h1,h2⟩:=ks e he;exact⟨some k,h1,h2⟩
have:∀e∈es,(qAB P w).is none e.key=false:=λe he=>by obtain⟨k,h1,_⟩:=ks e he;rcases jM h1 with⟨_,_,_,z⟩|⟨_,_,_,z⟩<;>(rw[z];rfl)
unfold findBy
simp
intro e he
exact this e he)
section
variable{X:Cx}{i o:Expr}{ty td:TE}
noncomputable def qCV(ty td:TE):TE:=λσ H Q=>ty σ H λy H1=>td σ H1 λx H2=>∃a,x=.ref a∧((∃o,DGet H2 a y o∧Q (.bl (!o.isSome)) H2)∨(y=.non∧(∃kvs,H2 a=some (.dK kvs))∧Q (.bl true) H2))
theorem q55(hu:X.A.units+1<cLine)(hi:PE X i ty)(ho:PE X o td):PC X .NotIn i o (qCV ty td):=by(
intro pins s σ H Q I h
refine thn (hi pins s σ H _ I h) λiv s1 ⟨y,H1,I1,ry,q1⟩=>thn (ho pins s1 σ H1 _ I1 q1) λu s2 hZ=>?_
obtain⟨x,H2,I2,rx,a,ex,q2⟩:=hZ
subst ex
obtain rfl:u=Value.ref a:=rx
rcases q2 with⟨ov,g,q⟩|⟨rfl,⟨kvs,e⟩,q⟩
·exact q9W hu I2 g ry λs3 I3=>⟨.bl (!ov.isSome),H2,I3,rfl,q⟩
obtain rfl:iv=Value.none:=ry
obtain⟨z,hd,vs,rel,dd⟩:=q2D I2.hok (.inl e)
obtain⟨f,mp,fn⟩:=map3 dd
refine wpAny_notIn_of (knd:=qAB X.prog X.w) (k:=none) rfl hd mp ?_
rw[fn]
exact⟨.bl true,H2,I2.tok _,rfl,q⟩)
end
end L2
namespace L2
open PySem
theorem q38{K:PySem.W.Frag}{a:Addr}{xs:List V}{g:TG}{tb:TS}{D:Ends}{σ:St}{H:Hp}(Pv:Nat→St→Hp→Prop)(h0:Pv 0 σ H)(hl:∀i σ H,i≤xs.length→Pv i σ H→SqL K H a xs)
 (hs:∀i x σ H (D':Ends),(∀σ' H',Pv (i+1) σ' H'→D'.nx σ' H')→xs[i]?=some x→Pv i σ H→g x σ H λσ2 H2=>tb D' σ2 H2) (hd:∀σ H,Pv xs.length σ H→D.nx σ H):
 ∃W:Nat→Nat→St→Hp→Prop,(∃m,W 0 m σ H)∧∀i m σ H,W i m σ H→((Itl K a).stop i H∧D.nx σ H)∨((Itl K a).go i H∧∃N:St→Hp→Prop,(∀σ' H',N σ' H'→∃m',m'<m∧W (i+1) m' σ' H')∧∀x H',(Itl K a).yld i H x H'→g x σ H' λσ2 H2=>tb { D with nx:=N,ct:=N,bk:=D.nx } σ2 H2):=q0D Pv h0 hl (λi x σ H hx p=>hs i x σ H _ (λ_ _ q=>q) hx p) hd
theorem zX{lo:Int}{n:Nat}{g:TG}{tb:TS}{D:Ends}{σ:St}{H:Hp}(Pv:Nat→St→Hp→Prop)(h0:Pv 0 σ H)
 (hs:∀i σ H (D':Ends),(∀σ' H',Pv (i+1) σ' H'→D'.nx σ' H')→i<n→Pv i σ H→g (.int (lo+i)) σ H λσ2 H2=>tb D' σ2 H2) (hd:∀σ H,Pv n σ H→D.nx σ H):
 ∃W:Nat→Nat→St→Hp→Prop,(∃m,W 0 m σ H)∧∀i m σ H,W i m σ H→((Itr lo n).stop i H∧D.nx σ H)∨((Itr lo n).go i H∧∃N:St→Hp→Prop,(∀σ' H',N σ' H'→∃m',m'<m∧W (i+1) m' σ' H')∧∀x H',(Itr lo n).yld i H x H'→g x σ H' λσ2 H2=>tb { D with nx:=N,ct:=N,bk:=D.nx } σ2 H2):=qAK Pv h0 (λi σ H hx p=>hs i σ H _ (λ_ _ q=>q) hx p) hd
theorem iV{σ:St}{i:Nat}{v:V}{Q:V→Prop}(e:σ[i]?=some (some v))(q:Q v):∃v,σ[i]?=some (some v)∧Q v:=⟨v,e,q⟩
theorem iF{K:PySem.W.Frag}{H:Hp}{f:Str}{a C d:Addr}{fs:List (Str×V)}{v:V}{Q:V→Prop}(o:H a=some (.ins C d fs))(cl:Cls K C)(na:qN K C f)(lk:fs.lookup f=some v)(q:Q v):
 ∃a' C dx fs v,V.ref a=.ref a'∧H a'=some (.ins C dx fs)∧Cls K C∧qN K C f∧fs.lookup f=some v∧Q v:=⟨a,C,d,fs,v,rfl,o,cl,na,lk,q⟩
theorem iM{H:Hp}{m:Str}{a C d:Addr}{fs:List (Str×V)}{q:Prop}(o:H a=some (.ins C d fs))(lk:fs.lookup m=none)(k:q):
 ∃a' dx fs,V.ref a=.ref a'∧H a'=some (.ins C dx fs)∧fs.lookup m=none∧q:=⟨a,d,fs,rfl,o,lk,k⟩
theorem iI{i j:Int}{Q:Int→Int→Prop}(q:Q i j):∃i' j',V.int i=.int i'∧V.int j=.int j'∧Q i' j':=⟨i,j,rfl,rfl,q⟩
theorem iL{K:PySem.W.Frag}{H:Hp}{p:Addr}{xs:List V}{k:Int}{v:V}{Q:V→Prop}(h:SqL K H p xs)(e:atI xs k=some v)(q:Q v):∃p' xs k' v,V.ref p=.ref p'∧V.int k=.int k'∧SqL K H p' xs∧atI xs k'=some v∧Q v:=⟨p,xs,k,v,rfl,rfl,h,e,q⟩
theorem iT{K:PySem.W.Frag}{H:Hp}{p:Addr}{xs:List V}{k:Int}{v:V}{Q:V→Prop}(h:SqT K H p xs)(e:atI xs k=some v)(q:Q v):∃p' xs k' v,V.ref p=.ref p'∧V.int k=.int k'∧SqT K H p' xs∧atI xs k'=some v∧Q v:=⟨p,xs,k,v,rfl,rfl,h,e,q⟩
end L2
namespace L2
open PySem PySem.Spec PyProof.Rows
structure RoomU(k:Nat)(A:Around):Prop where
dp:A.depth+3*k+5<recursionLimit
un:A.units+16*k+200<cLine
theorem Room.u{k:Nat}{A:Around}{v:Option Value}(r:Room k A):RoomU k (A.mark v):=⟨r.dp,r.un⟩
theorem RoomU.mono{j k:Nat}{A:Around}(r:RoomU k A)(h:j≤k):RoomU j A:=⟨by have:=r.dp;lia,by have:=r.un;lia⟩
theorem RoomU.deeper{k:Nat}{A:Around}(r:RoomU (k+1) A)(env:Env):RoomU k (A.deeper env):=⟨by have:=r.dp;show A.depth+1+3*k+5< _;lia,by have:=r.un;show A.units+3+16*k+200< _;lia⟩
theorem RoomU.depth{k:Nat}{A:Around}(r:RoomU k A):A.depth<recursionLimit:=by have:=r.dp;lia
structure FnOkU(P:Program)(w:World)(K:PySem.W.Frag)(mg:Str→Option Value)(base:Heap)(CX:CXT)(k:Nat)(f:Addr)(fd:FuncData)(ps:List Str)(sp:Sp):Prop where
len:∀vs H Q E,sp vs H Q E→vs.length=ps.length
run:∀(A:Around) (outer:List Env) (s:Shared) (H:Hp) (args:Args) (us:List Value) (vs:List V) (Q:VK) (E:XK),RoomU k A→Env0 P w K mg base A outer s H→BindsTo s fd args (ps.zip us)→Vals vs us→sp vs H Q E→codeAny (model P w) A (.call (.ref f) args) (CR CX outer P w H s Q E) s
theorem FnOkU.mono{P:Program}{w:World}{K:PySem.W.Frag}{mg:Str→Option Value}{base:Heap}{CX:CXT}{j k:Nat}{f:Addr}{fd:FuncData}{ps:List Str}{sp:Sp}(F:FnOkU P w K mg base CX j f fd ps sp)(h:j≤k:=by decide):
 FnOkU P w K mg base CX k f fd ps sp:=⟨F.len,λA outer s H args us vs Q E hr=>F.run A outer s H args us vs Q E (hr.mono h)⟩
noncomputable def q8L(CX:CXT)(P:Program)(w:World)(K:PySem.W.Frag)(mg:Str→Option Value)(base:Heap)(N:List Str)(qual:Str)(scope:Scope)(f:Addr)(cd:Value)(A:Around)(outer:List Env)(s:Shared)(H:Hp)(E:XK):Cx:={ cxOf CX P w K mg base N qual scope f cd A outer s H E with calm:=false }
theorem q9E{CX:CXT}{P:Program}{w:World}{K:PySem.W.Frag}{mg:Str→Option Value}{base:Heap}{N ps:List Str}{qual:Str}{scope:Scope}{f:Addr}{cd:Value}{A:Around}{outer:List Env}{s s1:Shared}{H:Hp}{E:XK}{us:List Value}{vs:List V}
 (S:FnScope N ps scope) (e0:Env0 P w K mg base A outer s H) (hl:vs.length=ps.length) (r:Vals vs us)
 (x:InCallC s s.heap.objs.size (bindL (envOfC qual scope s.heap.objs.size f cd).kindOf (ps.zip us) λ_=>none) (cellsFrom (s.heap.objs.size+1) scope.names []) (bindC (envOfC qual scope s.heap.objs.size f cd).kindOf (ps.zip us) λ_=>none) s1):
 Inv (q8L CX P w K mg base N qual scope f cd A outer s H E) [] (vH N vs) H s1:=by have e0':Env0 P w K mg base { A with handled:=none } outer s H:=⟨by first|exact e0.frames|simpa using e0.frames,e0.mod,e0.bs,e0.bsz,e0.funs,e0.frf,e0.hok,e0.bare⟩;have I:=q6B (CX:=CX) (E:=E) (A:={ A with handled:=none }) S rfl e0' hl r x;exact⟨{ I.ok with hd:=λz=>by cases z },I.os,I.bare,I.base,I.loc,I.cell,I.free,I.freeC,I.pin,I.hok,I.len⟩
theorem qGJ{CX:CXT}{P:Program}{w:World}{K:PySem.W.Frag}{mg:Str→Option Value}{base:Heap}{k:Nat}{f:Addr}{name qual:Str}{params:Arguments}{body:List Stmt}{scope:Scope}{dV kV doc pm cdv ct oc:Value}{an od:Option Addr}
 {osl:Array (Option Value)} {N ps:List Str} {sp:Sp} (lk:K.lookup f=some ⟨oc,od,.func (PySem.W.fnOf name qual params body scope dV kV doc pm an cdv ct),osl⟩) (hcd:PySem.W.codeIn K cdv qual=true) (S:FnScope N ps scope)
 (len:∀vs H Q E,sp vs H Q E→vs.length=ps.length)
 (hbody:∀(A:Around) (outer:List Env) (s:Shared) (H:Hp) (vs:List V) (Q:VK) (E:XK),RoomU k (A.deeper (envOfC qual scope s.heap.objs.size f cdv))→sp vs H Q E→∃t,PSs (q8L CX P w K mg base N qual scope f cdv A outer s H E) body t∧t { nx:=λ_ H'=>Q .non H',rt:=Q } (vH N vs) H):
 FnOkU P w K mg base CX (k+1) f (PySem.W.fnOf name qual params body scope dV kV doc pm an cdv ct) ps sp:=by(
refine⟨len,λA outer s H args us vs Q E hr e0 hb r hsp=>?_⟩
have hl:=len _ _ _ _ hsp
have KX:K.In s.heap:=e0.mod.kin.keeps λb o e=>(e0.bs b o e).1
have lim:s.heap.NoLimit:=e0.mod.nolimit.keeps λb o e=>(e0.bs b o e).1
have hkind:∀y∈ps.zip us,scope.names.lookup y.1=some .local∨(scope.names.lookup y.1=some .cell∧((cellsFrom (s.heap.objs.size+1) scope.names []).lookup y.1).isSome=true):=λ⟨n,v⟩ hy=>by
 rcases S.par n (wT hy).1 with q|q
 ·exact .inl q
 exact .inr ⟨q,wC _ _ _ (.inl q)⟩
refine pH hr.depth (KX _ _ lk) rfl S.co S.gen rfl (sK KX hcd) (hb _ _ _ _ ?_)
refine cF S.kind hkind λenv he s1 x=>?_
subst he
refine⟨lim.keeps x.toInCall.keep,codeAny_func ?_⟩
obtain⟨t,ht,hq⟩:=hbody A outer s H vs Q E (hr.deeper _) hsp
have I:Inv (q8L CX P w K mg base N qual scope f cdv A outer s H E) [] (vH N vs) H s1:=q9E S e0 hl r x
refine gJ (ht [] s1 (vH N vs) H _ I hq) (λfl s' hs=>?_) λe s' hs=>hs
have fin:∀{σ':St} {H':Hp} {v:V} {u:Value},Inv (q8L CX P w K mg base N qual scope f cdv A outer s H E) [] σ' H' s'→RelV v u→Q v H'→CE outer P w H s Q u s':=fun {σ' H' v u} J rv q=>⟨v,H',J.os,J.bare,J.base,J.hok,rv,q⟩
cases fl with
|ret u=>obtain⟨v,σ',H',J,rv,q⟩:=hs;exact fin J rv q
|next=>obtain⟨σ',H',J,q⟩:=hs;exact fin (v:=V.non) (u:=Value.none) J rfl q
|brk=>obtain⟨_,_,_,q⟩:=hs;exact False.elim q
|cont=>obtain⟨_,_,_,q⟩:=hs;exact False.elim q)
section
variable{P:Program}{w:World}{K:PySem.W.Frag}{mg:Str→Option Value}{base:Heap}{dV:Value}
theorem FunD.okU{x qual:Str}{st:Stmt}{f:Addr}{fd:FuncData}{N ps:List Str}{k:Nat}{sp:Sp}(F:FunD K x qual st dV f fd)(S:FnScope N ps (qG st))(len:∀vs H Q E,sp vs H Q E→vs.length=ps.length)
 (hbody:∀(cdv:Value) (A:Around) (outer:List Env) (s:Shared) (H:Hp) (vs:List V) (Q:VK) (E:XK),RoomU k (A.deeper (envOfC qual (qG st) s.heap.objs.size f cdv))→sp vs H Q E→∃t,PSs (q8L CX0 P w K mg base N qual (qG st) f cdv A outer s H E).nox (jY st) t∧t { nx:=λ_ H'=>Q .non H',rt:=Q } (vH N vs) H):FnOkU P w K mg base CX0 (k+1) f fd ps sp:=by(
obtain⟨oc,od,kV,doc,pm,an,cdv,ct,osl,rfl,lk,hcd⟩:=F.ex
refine qGJ lk hcd S len λA outer s H vs Q E hr hsp=>?_
obtain⟨t,h,q⟩:=hbody cdv A outer s H vs Q E hr hsp
exact⟨t,h.nox,q⟩)
end
section
variable{X:Cx}{x:Str}{p pos:Pos}{e:Expr}{es:List Expr}{t:TA}{CX:CXT}{k:Nat}{f:Addr}{fd:FuncData}{ps:List Str}{sp:Sp}{ds:List Value}{dvs:List V}{E:XK}
theorem qEH{pins:List (Addr×Obj)}{σ:St}{H:Hp}{s:Shared}{Q:VK}{us:List Value}{vs:List V}(F:FnOkU X.prog X.w X.K X.mg X.base CX k f fd ps sp)(hr:RoomU k X.A)(hb:yC X.K fd ps ds)(hd:Vals dvs ds)(hx:zC CX X E)
 (I:Inv X pins σ H s) (r:Vals vs us) (h:sp (vs++dvs) H Q E):wpAny (model X.prog X.w) X.A (call (.ref f) us) (EP X pins σ Q) X.xe s:=by(
have r2:Vals (vs++dvs) (us++ds):=r.append hd
have hl:(us++ds).length=ps.length:=by rw[←r2.length];exact F.len _ _ _ _ h
refine rX (dU (F.run X.A X.stack s H ⟨us,[]⟩ (us++ds) (vs++dvs) Q E hr I.env0 (hb s us I.kIn hl) r2 h) λr s' hq=>?_)
cases r with
|error e=>exact hx pins σ H s e s' I hq
|ok fl=>
 cases fl with
 |ret u=>exact I.after hq
 |next=>exact False.elim hq
 |brk=>exact False.elim hq
 |cont=>exact False.elim hq)
theorem qCW(F:FnOkU X.prog X.w X.K X.mg X.base CX k f fd ps sp)(hr:RoomU k X.A)(hg:Gl X x)(hm:X.mg x=some (.ref f))(hk:PySem.W.keepIn X.K (.ref f)=true)(hb:yC X.K fd ps ds)(hd:Vals dvs ds)(hx:zC CX X E)
 (ha:PA X (e::es) t) (hdb:(x==("__debug__":Str))=false:=by decide) (he:starEach (e::es) X.env=(false,eval e X.env)::starEach es X.env:=by rfl) (hpl:(backTo pos (starEach es X.env)).any (·.1)=false:=by rfl):
 PE X (.Call (.Name x p) (e::es) [] pos) (qEP sp dvs E t):=by(
intro pins s σ H Q I h
refine dH (q2B I hg hm ?_ hdb)
refine d6 (h₀:=X.base) I.ok.mod.kin hk (thn (ha pos pins s σ H _ I h) λus s1 ⟨vs,H1,I1,r,q⟩=>⟨I1.kIn,?_⟩) he hpl
exact qEH F hr hb hd hx I1 r q)
end
end L2
namespace W1
open PySem L2
noncomputable def dN(n:Nat)(nm:Nat→Str)(f:Nat→V):List (Key×V):=(List.range n).map λi=>((Sum.inr (nm i):Key),f i)
noncomputable def Unl(n:Nat)(nm:Nat→Str):Prop:=∀i j,i<n→j<n→nm i=nm j→i=j
theorem Unl.less{n m:Nat}{nm:Nat→Str}(h:Unl n nm)(l:m≤n):Unl m nm:=λi j hi hj=>h i j (by lia) (by lia)
section
variable{n:Nat}{nm:Nat→Str}{f g:Nat→V}
theorem vM:(dN n nm f).length=n:=by simp[dN]
theorem qAC:dN (n+1) nm f=dN n nm f++[((Sum.inr (nm n):Key),f n)]:=by simp[dN,gN]
theorem uX(h:∀i,i<n→f i=g i):dN n nm f=dN n nm g:=by unfold dN;exact dA λi hi=>by rw[h i (kW.mp hi)]
theorem q2O{s:Str}(h:∀i,i<n→nm i≠s):valV (dN n nm f) (Sum.inr s:Key)=none:=by(
unfold valV
rw[d9.mpr,nQ]
intro x hx
obtain⟨i,hi,rfl⟩:=mB.mp hx
have:=h i (kW.mp hi)
simpa using this)
theorem qGK{k:Int}:valV (dN n nm f) (Sum.inl k:Key)=none:=by(
unfold valV
rw[d9.mpr,nQ]
intro x hx
obtain⟨i,hi,rfl⟩:=mB.mp hx
simp)
theorem yW(u:Unl n nm){i:Nat}(hi:i<n):valV (dN n nm f) (Sum.inr (nm i):Key)=some (f i):=by(
induction n with
|zero=>lia
|succ n ih=>
 rw[qAC];by_cases z:i=n
 ·subst z;rw[q32 _ _ _ _ (q2O λj hj e=>by have:=u j i (by lia) (by lia) e;lia),kJ rfl]
 rw[q32 _ _ _ _ (q2O λj hj e=>by have:=u j n (by lia) (by lia) e;lia),kI (λe=>z (u i n hi (by lia) (lT e))),ih (u.less (by lia)) (by lia)])
theorem q79(u:Unl n nm){i:Nat}(hi:i<n){v:V}:putK (dN n nm f) (Sum.inr (nm i):Key) v=dN n nm (λj=>if j=i then v else f j):=by(
have a:((dN n nm f).any λkv=>decide (kv.1=(Sum.inr (nm i):Key)))=true:=by rw[q2C,yW u hi];rfl
unfold putK
rw[kJ a]
unfold dN
rw[gZ]
refine dA λj hj=>?_
have hj:=kW.mp hj
by_cases z:j=i
·subst z;simp
have:¬nm j=nm i:=λe=>z (u j i hj hi e)
simp[z,this])
theorem q56(u:Unl (n+1) nm){v:V}:putK (dN n nm f) (Sum.inr (nm n):Key) v=dN (n+1) nm (λj=>if j=n then v else f j):=by rw[qBS _ (q2O λj hj e=>by have:=u j n (by lia) (by lia) e;lia),qAC,kJ rfl];congr 1;exact uX λj hj=>by rw[kI (by lia)]
end
noncomputable def fst(ct:Nat→Nat):Nat→Nat
|0=>0
|i+1=>fst ct i+ct i
theorem q2P{ct:Nat→Nat}{i j:Nat}(h:i≤j):fst ct i≤fst ct j:=by(
induction j with
|zero=>
 obtain rfl:i=0:=by lia
 exact kH _
|succ j ih=>
 by_cases z:i=j+1
 ·subst z;exact kH _
 have:=ih (by lia);show _≤fst ct j+ct j;lia)
theorem q1D{ct:Nat→Nat}{n:Nat}:((List.range n).map λi=>(ct i:Int)).sum=(fst ct n:Int):=by(
induction n with
|zero=>rfl
|succ n ih=>rw[gN,mE,pF,ih];show(fst ct n:Int)+((ct n:Int)+0)=((fst ct n+ct n:Nat):Int);lia)
noncomputable def cutP(f c:Nat)(ks:List Int):List Int:=(ks.filter λk=>decide ((f:Int)≤k)&&decide (k<(f:Int)+(c:Int))).map λk=>k-(f:Int)
theorem q6Q{f c:Nat}{ks ls:List Int}(h:ks.Perm ls):(cutP f c ks).Perm (cutP f c ls):=(h.filter _).map _
theorem q8M{f c:Nat}{ks:List Int}{s:Int}:s∈cutP f c ks↔(f:Int)+s∈ks∧0≤s∧s<(c:Int):=by(
unfold cutP
rw[mB]
constructor
·rintro⟨k,hk,rfl⟩
 obtain⟨a,b⟩:=gM.mp hk;have b:(f:Int)≤k∧k<(f:Int)+(c:Int):=by simpa using b
 exact⟨by rw[show(f:Int)+(k-(f:Int))=k by lia];exact a,by lia,by lia⟩
rintro⟨a,b,c'⟩
exact⟨(f:Int)+s,gM.mpr ⟨a,by simp;lia⟩,by lia⟩)
theorem q9F{f c:Nat}{ks:List Int}(h:ks.Nodup):(cutP f c ks).Nodup:=sY _ (λa b hab e=>hab (by lia)) (h.filter _)
theorem qAD{p:Int→Bool}:∀{l:List Int},l.length=(l.filter p).length+(l.filter λk=>!p k).length
| []=>rfl
|k::r=>by have ih:=qAD (p:=p) (l:=r);rw[gW,gW];cases z:p k<;>simp<;>lia
theorem qAE{ct:Nat→Nat}:∀{n:Nat} {ks:List Int},(∀k∈ks,0≤k∧k<(fst ct n:Int))→ks.length=((List.range n).map λi=>(cutP (fst ct i) (ct i) ks).length).sum
|0,ks,h=>by
 cases ks with
 |nil=>rfl
 |cons k r=>have:=h k (by simp);have e:fst ct 0=0:=rfl;lia
|n+1,ks,h=>by
 rw[gN,mE,pF];have ih:=qAE (ct:=ct) (n:=n) (ks:=ks.filter λk=>decide (k<(fst ct n:Int))) (λk hk=>⟨(h k (gM.mp hk).1).1,by simpa using(gM.mp hk).2⟩);have e1:((List.range n).map λi=>(cutP (fst ct i) (ct i) ks).length)=((List.range n).map λi=>(cutP (fst ct i) (ct i) (ks.filter λk=>decide (k<(fst ct n:Int)))).length):=by
  refine dA λi hi=>?_;have hi:=kW.mp hi;have m:fst ct (i+1)≤fst ct n:=q2P hi;have m:fst ct i+ct i≤fst ct n:=m;unfold cutP;rw[hV,hV,List.filter_filter];congr 1;refine cP λk _=>?_;by_cases z:(fst ct i:Int)≤k∧k<(fst ct i:Int)+(ct i:Int)
  ·simp[z.1,z.2];lia
  by_cases y:(fst ct i:Int)≤k
  ·have:¬k<(fst ct i:Int)+(ct i:Int):=λw=>z ⟨y,w⟩;simp[this]
  simp[y]
 rw[e1,←ih];have e2:(cutP (fst ct n) (ct n) ks).length=(ks.filter λk=>!decide (k<(fst ct n:Int))).length:=by
  unfold cutP;rw[hV];congr 1;refine cP λk hk=>?_;have:=h k hk;have e:fst ct (n+1)=fst ct n+ct n:=rfl;by_cases z:k<(fst ct n:Int)
  ·simp[z];lia
  simp[z];lia
 show _=_ +((cutP (fst ct n) (ct n) ks).length+0);rw[e2];exact qAD
end W1
namespace L2
open PySem PySem.Spec PyProof.Rows
structure Fn1(K:PySem.W.Frag)(x q:Str)(st:Stmt)(f:Addr)(ps:List Str) where
fd:FuncData
F:FunD K x q st .none f fd
b:yC K fd ps []
noncomputable abbrev Fn1.Ok0{K:PySem.W.Frag}{x q:Str}{st:Stmt}{f:Addr}{ps:List Str}(F:Fn1 K x q st f ps)(P:Program)(w:World)(mg:Str→Option Value)(base:Heap)(k:Nat)(sp:Sp):Prop:=FnOk P w K mg base CX0 k f F.fd ps sp
noncomputable abbrev Fn1.OkE{K:PySem.W.Frag}{x q:Str}{st:Stmt}{f:Addr}{ps:List Str}(F:Fn1 K x q st f ps)(P:Program)(w:World)(mg:Str→Option Value)(base:Heap)(k:Nat)(sp:Sp):Prop:=FnOk P w K mg base (CXe P w) k f F.fd ps sp
noncomputable abbrev FnX(K:PySem.W.Frag)(x q:Str)(st:Stmt)(f:Addr):Prop:=∃fd,FunD K x q st .none f fd
section
variable{K:PySem.W.Frag}{x q:Str}{st:Stmt}{f:Addr}{ps:List Str}
noncomputable def BnX(x q:Str)(st:Stmt)(ps:List Str):Prop:=∀(kV doc pm:Value) (an:Option Addr) (cdv ct:Value) (us:List Value),us.length=ps.length→bindArgs (PySem.W.fnOf x q (yH st) (jY st) (qG st) .none kV doc pm an cdv ct) ⟨us,[]⟩=pure (ps.zip us)
theorem fn1b(h:BnX x q st ps){fd:FuncData}(F:FunD K x q st .none f fd):yC K fd ps []:=by obtain⟨oc,od,kV,doc,pm,an,cdv,ct,osl,rfl,lk,hcd⟩:=F.ex;exact yC.all λus hl=>h kV doc pm an cdv ct us hl
theorem lnx{us:List Value}{n:Nat}(h:us.length=n):us=(List.range n).map (us.getD · .none):=by subst h;refine rQ (by simp) λi h1 h2=>?_;simp[hX h1]
theorem bnx(h:∀kV doc pm an cdv ct (g:Nat→Value),bindArgs (PySem.W.fnOf x q (yH st) (jY st) (qG st) .none kV doc pm an cdv ct) ⟨(List.range ps.length).map g,[]⟩=pure (ps.zip ((List.range ps.length).map g))):BnX x q st ps:=λkV doc pm an cdv ct us hl=>by rw[lnx hl];exact h ..
noncomputable def fn1 (l:FnX K x q st f) (h:∀kV doc pm an cdv ct (g:Nat→Value),bindArgs (PySem.W.fnOf x q (yH st) (jY st) (qG st) .none kV doc pm an cdv ct) ⟨(List.range ps.length).map g,[]⟩=pure (ps.zip ((List.range ps.length).map g)):=by intros;rfl):Fn1 K x q st f ps:=⟨l.choose,l.choose_spec,fn1b (bnx h) l.choose_spec⟩
theorem FnX.bind1{a:Str}{fd:FuncData}(h:∀kV doc pm an cdv ct u,bindArgs (PySem.W.fnOf x q (yH st) (jY st) (qG st) .none kV doc pm an cdv ct) ⟨[u],[]⟩=pure [(a,u)])(F:FunD K x q st .none f fd)(s:Shared)(v:Value):BindsTo s fd ⟨[v],[]⟩ [(a,v)]:=by obtain⟨oc,od,kV,doc,pm,an,cdv,ct,osl,rfl,lk,hcd⟩:=F.ex;exact .of_eq (h kV doc pm an cdv ct v)
theorem FnX.of{oc:Value}{od an:Option Addr}{osl:Array (Option Value)}{kV doc pm cdv ct:Value}(l:K.lookup f=some ⟨oc,od,.func (PySem.W.fnOf x q (yH st) (jY st) (qG st) .none kV doc pm an cdv ct),osl⟩)(c:PySem.W.codeIn K cdv q=true):FnX K x q st f:=⟨_,FunD.mk' l c⟩
theorem qU{N P:List Str}{sc:Scope}(h:(sc.kind=.function∧sc.isCoroutine=false∧sc.isGenerator=false)∧N.Nodup∧N.take P.length=P∧(∀x∈P,sc.names.lookup x=some .local∨sc.names.lookup x=some .cell)∧∀y∈sc.names,y.2≠ .free):FnScope N P sc:=⟨h.1.1,h.1.2.1,h.1.2.2,h.2.1,h.2.2.1,h.2.2.2.1,h.2.2.2.2⟩
end
noncomputable abbrev GFn(K:PySem.W.Frag)(n:Str)(f:Addr):Prop:=PySem.W.nsIn K mainGlobals n=some (some (.ref f))∧PySem.W.keepIn K (.ref f)=true
theorem sz0:0≤sizeLine:=by decide
theorem sz1:1≤sizeLine:=by decide
theorem sz2:2≤sizeLine:=by decide
theorem sz3:3≤sizeLine:=by decide
theorem sz4:4≤sizeLine:=by decide
end L2
namespace W1
open PySem L2
noncomputable def top(i:Nat):Stmt:=PySem.Challenge.pw_wornpages_k84_shares_shifted.main.body.getD i (.Pass ⟨0,0,0,0⟩)
noncomputable abbrev q20:Stmt:=(top 16)
noncomputable abbrev q0I:Stmt:=(top 17)
noncomputable abbrev q21:Stmt:=(top 18)
noncomputable abbrev q22:Stmt:=(top 19)
noncomputable abbrev q39:Stmt:=(top 21)
noncomputable abbrev zF:Stmt:=(top 22)
noncomputable abbrev zY:Stmt:=(top 23)
noncomputable abbrev q0J:Stmt:=(top 24)
noncomputable abbrev zZ:Stmt:=(qQ (top 25) 0)
noncomputable abbrev zG:Stmt:=(qQ (top 25) 1)
noncomputable abbrev q00:Stmt:=(qQ (top 25) 2)
noncomputable abbrev q01:Stmt:=(qQ (top 25) 5)
noncomputable abbrev q02:Stmt:=(qQ (top 25) 6)
noncomputable abbrev uK:Stmt:=(qQ (top 25) 7)
noncomputable abbrev zH:Stmt:=(qQ (top 25) 8)
noncomputable abbrev q03:Stmt:=(qQ (top 25) 9)
noncomputable abbrev uL:Stmt:=(qQ (top 25) 10)
noncomputable abbrev yZ:Stmt:=(qQ (top 25) 11)
noncomputable abbrev q0K:Stmt:=(top 27)
noncomputable abbrev uB:Stmt:=(qQ (top 28) 0)
noncomputable abbrev q23:Stmt:=(qQ (top 28) 1)
noncomputable abbrev q0L:Stmt:=(qQ (top 28) 3)
noncomputable abbrev uM:Stmt:=(qQ (top 28) 4)
noncomputable abbrev v4:Stmt:=(qQ (top 28) 5)
noncomputable abbrev vN:Stmt:=(qQ (top 28) 6)
noncomputable abbrev vO:Stmt:=(qQ (top 28) 7)
noncomputable abbrev zI:Stmt:=(qQ (top 28) 8)
noncomputable abbrev q04:Stmt:=(qQ (top 28) 9)
noncomputable abbrev uH:Stmt:=(qQ (top 28) 10)
noncomputable abbrev u6:Stmt:=(qQ (top 28) 11)
noncomputable abbrev u7:Stmt:=(qQ (top 28) 12)
noncomputable abbrev uI:Stmt:=(qQ (top 28) 13)
noncomputable abbrev v5:Stmt:=(qQ (top 28) 14)
noncomputable abbrev vP:Stmt:=(qQ (top 28) 15)
noncomputable abbrev q3A:Stmt:=(top 32)
noncomputable abbrev q0M:Stmt:=(qQ (top 34) 0)
noncomputable abbrev q0N:Stmt:=(qQ (top 34) 1)
noncomputable abbrev q0O:Stmt:=(qQ (top 34) 2)
noncomputable abbrev zJ:Stmt:=(qQ (top 34) 3)
noncomputable abbrev q0P:Stmt:=(qQ (top 34) 7)
noncomputable abbrev q05:Stmt:=(qQ (top 36) 0)
noncomputable abbrev q06:Stmt:=(qQ (top 36) 1)
noncomputable abbrev jU:Stmt:=(qQ (top 36) 2)
noncomputable abbrev q07:Stmt:=(qQ (top 36) 3)
noncomputable abbrev q08:Stmt:=(qQ (top 36) 4)
noncomputable abbrev v6:Stmt:=(qQ (top 36) 5)
noncomputable abbrev zK:Stmt:=(qQ (top 36) 6)
noncomputable abbrev u8:Stmt:=(qQ (top 36) 7)
noncomputable abbrev uN:Stmt:=(qQ (top 36) 8)
noncomputable abbrev q0Q:Stmt:=(qQ (top 36) 9)
noncomputable abbrev zL:Stmt:=(qQ (top 36) 10)
noncomputable abbrev q09:Stmt:=(qQ (top 36) 12)
noncomputable abbrev q0A:Stmt:=(qQ (top 36) 13)
noncomputable abbrev yU:Stmt:=(qQ (top 36) 14)
noncomputable abbrev yV:Stmt:=(qQ (top 36) 15)
noncomputable abbrev yR:Stmt:=(qQ (top 38) 0)
noncomputable abbrev vQ:Stmt:=(qQ (top 38) 1)
noncomputable abbrev zM:Stmt:=(top 40)
noncomputable abbrev q0R:Stmt:=(top 41)
noncomputable abbrev q0S:Stmt:=(top 42)
noncomputable abbrev q0T:Stmt:=(top 43)
noncomputable abbrev q0U:Stmt:=(top 44)
noncomputable abbrev q0V:Stmt:=(top 45)
noncomputable abbrev q0W:Stmt:=(top 46)
noncomputable abbrev q3B:Stmt:=(top 47)
noncomputable abbrev q0X:Stmt:=(top 48)
noncomputable abbrev q24:Stmt:=(top 49)
noncomputable abbrev q25:Stmt:=(top 50)
noncomputable abbrev qCX:Stmt:=(top 51)
set_option genInjectivity false in
structure Adr where
(f_is_whole f_is_within f_is_shape f_is_value f_is_name f_is_from_one f_check_told f_check_row f_Parts_init f_Parts_write f_Parts_read f_Parts_held f_Parts_room f_Parts_share_of f_Parts_shift f_Parts_told f_Parts_place_of f_Parts_check_part f_limits_of f_Chip_init f_Chip_put f_Chip_read f_Chip_cut_after f_Chip_power_on f_Chip_is_dark f_Chip_cleared f_Chip_failed f_Chip_deeds f_Chip_check_page f_Chip_check_block f_Chip_check_power f_Chip_check_deed f_Chip_is_spent f_Chip_do_deed f_mark_of f_Book_init f_Book_mark f_Book_note f_Book_forget f_Book_held f_Plain_init f_Plain_good f_Plain_free f_Plain_part f_Plain_spot f_Plain_reserve f_Plain_ready f_Plain_make_ready f_Plain_set_down f_Plain_lay f_Plain_write f_Plain_read f_Plain_held f_Plain_check_sheet f_Plain_check_share f_Terms_init f_Terms_closed f_law_cell_at f_law_whole f_law_names f_law_table f_law_kinds f_law_shift f_law_write f_law_due f_law_moved f_law_step f_law_same f_law C_Parts C_Chip C_Book C_Plain C_Terms C_WornError C_NoSheet C_NoValue C_Full C_NoPart:Addr)
bV:Tok
t9:Tok
oH:Tok
i7:Addr
aA:Addr
structure Txt(K:W.Frag)(mg:Str→Option Value)(t:Adr):Prop where
aAS:mg "Parts"=some (.ref t.C_Parts)
aD:Cls K t.C_Parts
aZ:qN K t.C_Parts "store"
bG:qN K t.C_Parts "firsts"
aT:qN K t.C_Parts "counts"
aJ:qN K t.C_Parts "shares"
tZ:Meth K t.C_Parts "write" t.f_Parts_write
xO:Meth K t.C_Parts "read" t.f_Parts_read
fI:Meth K t.C_Parts "held" t.f_Parts_held
l9:Meth K t.C_Parts "room" t.f_Parts_room
eW:Meth K t.C_Parts "share_of" t.f_Parts_share_of
xA:Meth K t.C_Parts "shift" t.f_Parts_shift
bW:Meth K t.C_Parts "told" t.f_Parts_told
eU:Meth K t.C_Parts "place_of" t.f_Parts_place_of
aQ:Meth K t.C_Parts "check_part" t.f_Parts_check_part
aAT:Mk K t.C_Parts t.f_Parts_init
aBS:mg "Chip"=some (.ref t.C_Chip)
aE:Cls K t.C_Chip
aX:qN K t.C_Chip "blocks"
bD:qN K t.C_Chip "pages"
xZ:qN K t.C_Chip "most"
fR:qN K t.C_Chip "limits"
bO:qN K t.C_Chip "borne"
eL:qN K t.C_Chip "clearings"
bU:qN K t.C_Chip "deed_counts"
b8:qN K t.C_Chip "broken"
aR:qN K t.C_Chip "deeds_left"
eF:qN K t.C_Chip "record"
aA3:Meth K t.C_Chip "put" t.f_Chip_put
aAQ:Meth K t.C_Chip "read" t.f_Chip_read
oC:Meth K t.C_Chip "cut_after" t.f_Chip_cut_after
oY:Meth K t.C_Chip "power_on" t.f_Chip_power_on
tS:Meth K t.C_Chip "is_dark" t.f_Chip_is_dark
tV:Meth K t.C_Chip "cleared" t.f_Chip_cleared
xB:Meth K t.C_Chip "failed" t.f_Chip_failed
i6:Meth K t.C_Chip "deeds" t.f_Chip_deeds
eI:Meth K t.C_Chip "check_page" t.f_Chip_check_page
bX:Meth K t.C_Chip "check_block" t.f_Chip_check_block
bY:Meth K t.C_Chip "check_power" t.f_Chip_check_power
iP:Meth K t.C_Chip "check_deed" t.f_Chip_check_deed
o8:Meth K t.C_Chip "is_spent" t.f_Chip_is_spent
tW:Meth K t.C_Chip "do_deed" t.f_Chip_do_deed
aBR:Mk K t.C_Chip t.f_Chip_init
aBQ:mg "Book"=some (.ref t.C_Book)
aI:Cls K t.C_Book
tQ:qN K t.C_Book "blocks"
eM:qN K t.C_Book "pages"
bN:qN K t.C_Book "stamp"
aU:qN K t.C_Book "where"
fH:qN K t.C_Book "live"
aS:qN K t.C_Book "filled"
i9:qN K t.C_Book "born"
aAK:Meth K t.C_Book "mark" t.f_Book_mark
aAP:Meth K t.C_Book "note" t.f_Book_note
xH:Meth K t.C_Book "forget" t.f_Book_forget
aAL:Meth K t.C_Book "held" t.f_Book_held
aBT:Mk K t.C_Book t.f_Book_init
aBH:mg "Plain"=some (.ref t.C_Plain)
aB:Cls K t.C_Plain
aL:qN K t.C_Plain "chip"
aN:qN K t.C_Plain "terms"
aP:qN K t.C_Plain "book"
iZ:Meth K t.C_Plain "good" t.f_Plain_good
i4:Meth K t.C_Plain "free" t.f_Plain_free
i5:Meth K t.C_Plain "part" t.f_Plain_part
xU:Meth K t.C_Plain "spot" t.f_Plain_spot
tH:Meth K t.C_Plain "reserve" t.f_Plain_reserve
xF:Meth K t.C_Plain "ready" t.f_Plain_ready
iB:Meth K t.C_Plain "make_ready" t.f_Plain_make_ready
oE:Meth K t.C_Plain "set_down" t.f_Plain_set_down
aAN:Meth K t.C_Plain "lay" t.f_Plain_lay
t7:Meth K t.C_Plain "write" t.f_Plain_write
aAC:Meth K t.C_Plain "read" t.f_Plain_read
e7:Meth K t.C_Plain "held" t.f_Plain_held
bS:Meth K t.C_Plain "check_sheet" t.f_Plain_check_sheet
f6:Meth K t.C_Plain "check_share" t.f_Plain_check_share
aBC:Mk K t.C_Plain t.f_Plain_init
aBB:mg "Terms"=some (.ref t.C_Terms)
aM:Cls K t.C_Terms
bH:qN K t.C_Terms "blocks"
a9:qN K t.C_Terms "pages"
bR:qN K t.C_Terms "sheets"
bZ:qN K t.C_Terms "share"
iW:qN K t.C_Terms "ill"
oN:qN K t.C_Terms "spread"
tP:Meth K t.C_Terms "closed" t.f_Terms_closed
aBE:Mk K t.C_Terms t.f_Terms_init
xY:mg "WornError"=some (.ref t.C_WornError)
aAZ:mg "NoSheet"=some (.ref t.C_NoSheet)
tX:mg "NoValue"=some (.ref t.C_NoValue)
aAY:XRd K t.C_NoValue
aA7:XCls K t.C_NoValue
t6:mg "Full"=some (.ref t.C_Full)
aBM:XRd K t.C_Full
aBK:XCls K t.C_Full
x8:mg "NoPart"=some (.ref t.C_NoPart)
aA6:XRd K t.C_NoPart
aBD:XCls K t.C_NoPart
fP:W.exmOne K (.ref t.C_NoValue) (.ref t.C_WornError)=some true
aAB:W.exmOne K (.ref t.C_Full) (.ref t.C_Full)=some true
iQ:W.exmOne K (.ref t.C_Full) (.ref t.C_WornError)=some true
fV:W.exmOne K (.ref t.C_NoPart) (.ref t.C_WornError)=some true
o6:W.kitOne K (.ref t.C_NoValue) (.ref t.C_Full)=some false
iK:W.kitOne K (.ref t.C_NoValue) (.ref t.C_NoPart)=some false
iC:W.kitOne K (.ref t.C_NoValue) (.ref t.C_NoSheet)=some false
iD:W.kitOne K (.ref t.C_NoValue) (.ref t.C_NoValue)=some true
eZ:W.kitOne K (.ref t.C_NoValue) (.type "ValueError")=some true
aAF:W.kitOne K (.ref t.C_Full) (.ref t.C_Full)=some true
tU:W.kitOne K (.ref t.C_Full) (.ref t.C_NoPart)=some false
oU:W.kitOne K (.ref t.C_Full) (.ref t.C_NoSheet)=some false
tI:W.kitOne K (.ref t.C_Full) (.ref t.C_NoValue)=some false
iE:W.kitOne K (.ref t.C_Full) (.type "ValueError")=some true
tO:W.kitOne K (.ref t.C_NoPart) (.ref t.C_Full)=some false
oF:W.kitOne K (.ref t.C_NoPart) (.ref t.C_NoPart)=some true
iJ:W.kitOne K (.ref t.C_NoPart) (.ref t.C_NoSheet)=some false
iS:W.kitOne K (.ref t.C_NoPart) (.ref t.C_NoValue)=some false
fQ:W.kitOne K (.ref t.C_NoPart) (.type "ValueError")=some true
tY:W.codeHdIn K t.i7 t.aA=true
o0:mg "is_whole"=some (.ref t.f_is_whole)
oP:W.keepIn K (.ref t.f_is_whole)=true
aH:mg "is_within"=some (.ref t.f_is_within)
aG:W.keepIn K (.ref t.f_is_within)=true
oW:mg "is_shape"=some (.ref t.f_is_shape)
oR:W.keepIn K (.ref t.f_is_shape)=true
oS:mg "is_value"=some (.ref t.f_is_value)
tM:W.keepIn K (.ref t.f_is_value)=true
aA1:mg "is_name"=some (.ref t.f_is_name)
aA4:W.keepIn K (.ref t.f_is_name)=true
eC:mg "is_from_one"=some (.ref t.f_is_from_one)
eD:W.keepIn K (.ref t.f_is_from_one)=true
xD:mg "check_told"=some (.ref t.f_check_told)
xI:W.keepIn K (.ref t.f_check_told)=true
xR:mg "check_row"=some (.ref t.f_check_row)
xW:W.keepIn K (.ref t.f_check_row)=true
xK:mg "limits_of"=some (.ref t.f_limits_of)
x9:W.keepIn K (.ref t.f_limits_of)=true
aAV:mg "mark_of"=some (.ref t.f_mark_of)
aAW:W.keepIn K (.ref t.f_mark_of)=true
aW:mg "_law_cell_at"=some (.ref t.f_law_cell_at)
aY:W.keepIn K (.ref t.f_law_cell_at)=true
iX:mg "_law_whole"=some (.ref t.f_law_whole)
l7:W.keepIn K (.ref t.f_law_whole)=true
xL:mg "_law_names"=some (.ref t.f_law_names)
aAE:W.keepIn K (.ref t.f_law_names)=true
xM:mg "_law_table"=some (.ref t.f_law_table)
xP:W.keepIn K (.ref t.f_law_table)=true
xS:mg "_law_kinds"=some (.ref t.f_law_kinds)
xV:W.keepIn K (.ref t.f_law_kinds)=true
xN:mg "_law_shift"=some (.ref t.f_law_shift)
aAG:W.keepIn K (.ref t.f_law_shift)=true
iY:mg "_law_write"=some (.ref t.f_law_write)
i8:W.keepIn K (.ref t.f_law_write)=true
aAX:mg "_law_due"=some (.ref t.f_law_due)
aA0:W.keepIn K (.ref t.f_law_due)=true
xT:mg "_law_moved"=some (.ref t.f_law_moved)
x6:W.keepIn K (.ref t.f_law_moved)=true
aAO:mg "_law_step"=some (.ref t.f_law_step)
aAI:W.keepIn K (.ref t.f_law_step)=true
tJ:mg "_law_same"=some (.ref t.f_law_same)
o7:W.keepIn K (.ref t.f_law_same)=true
fB:mg "MOST_TOLD"=some (.int 1000000 t.bV)
aBL:mg "ROLL"=some (.int 64 t.t9)
aBA:mg "NAMES"=some (.int 128 t.oH)
aAD:mg "ValueError"=none
aBW:mg "all"=none
aBJ:mg "bool"=none
aBP:mg "int"=none
aF:mg "isinstance"=none
fY:mg "len"=none
aA5:mg "list"=none
aBU:mg "max"=none
aBX:mg "min"=none
iN:mg "range"=none
aBY:mg "set"=none
aAU:mg "sorted"=none
aBV:mg "str"=none
aA2:mg "sum"=none
aBO:mg "tuple"=none
set_option genInjectivity false
structure Fns(K:W.Frag)(t:Adr) where
oJ:Fn1 K "is_whole" "is_whole" q20 t.f_is_whole ["thing"]
aO:Fn1 K "is_within" "is_within" q0I t.f_is_within ["thing","low","high"]
oI:Fn1 K "is_shape" "is_shape" q21 t.f_is_shape ["blocks","pages"]
oK:Fn1 K "is_value" "is_value" q22 t.f_is_value ["thing"]
aAJ:Fn1 K "is_name" "is_name" q39 t.f_is_name ["thing"]
bT:Fn1 K "is_from_one" "is_from_one" zF t.f_is_from_one ["thing"]
iO:Fn1 K "check_told" "check_told" zY t.f_check_told ["told","terms"]
tN:Fn1 K "check_row" "check_row" q0J t.f_check_row ["row"]
fK:Fn1 K "__init__" "Parts.__init__" zZ t.f_Parts_init ["self","store","told"]
fZ:Fn1 K "write" "Parts.write" zG t.f_Parts_write ["self","name","sheet","value"]
iU:Fn1 K "read" "Parts.read" q00 t.f_Parts_read ["self","name","sheet"]
eJ:Fn1 K "held" "Parts.held" q01 t.f_Parts_held ["self","name"]
fO:Fn1 K "room" "Parts.room" q02 t.f_Parts_room ["self","name"]
bJ:Fn1 K "share_of" "Parts.share_of" uK t.f_Parts_share_of ["self","name"]
f8:Fn1 K "shift" "Parts.shift" zH t.f_Parts_shift ["self","one","other","many"]
bP:Fn1 K "told" "Parts.told" q03 t.f_Parts_told ["self"]
bK:Fn1 K "place_of" "Parts.place_of" uL t.f_Parts_place_of ["self","name","sheet"]
aK:Fn1 K "check_part" "Parts.check_part" yZ t.f_Parts_check_part ["self","name"]
tD:Fn1 K "limits_of" "limits_of" q0K t.f_limits_of ["ills","blocks"]
bL:FuncData
xQ:Value
aAM:FunD K "__init__" "Chip.__init__" uB xQ t.f_Chip_init bL
aBN:yC K bL ["self","blocks","pages","most","ills"] []
fT:List Value
aBG:yC K bL ["self","blocks","pages","most","ills"] fT
aBF:Vals [.non] fT
fS:List Value
xG:yC K bL ["self","blocks","pages","most","ills"] fS
xJ:Vals [.int 1000000,.non] fS
xE:Fn1 K "put" "Chip.put" q23 t.f_Chip_put ["self","page","stuff"]
tK:Fn1 K "read" "Chip.read" q0L t.f_Chip_read ["self","page"]
eE:Fn1 K "cut_after" "Chip.cut_after" uM t.f_Chip_cut_after ["self","deeds"]
eQ:Fn1 K "power_on" "Chip.power_on" v4 t.f_Chip_power_on ["self"]
fA:Fn1 K "is_dark" "Chip.is_dark" vN t.f_Chip_is_dark ["self"]
fG:Fn1 K "cleared" "Chip.cleared" vO t.f_Chip_cleared ["self","block"]
fU:Fn1 K "failed" "Chip.failed" zI t.f_Chip_failed ["self","block"]
fL:Fn1 K "deeds" "Chip.deeds" q04 t.f_Chip_deeds ["self"]
bF:Fn1 K "check_page" "Chip.check_page" uH t.f_Chip_check_page ["self","page"]
bA:Fn1 K "check_block" "Chip.check_block" u6 t.f_Chip_check_block ["self","block"]
bB:Fn1 K "check_power" "Chip.check_power" u7 t.f_Chip_check_power ["self"]
bQ:Fn1 K "check_deed" "Chip.check_deed" uI t.f_Chip_check_deed ["self","block"]
eO:Fn1 K "is_spent" "Chip.is_spent" v5 t.f_Chip_is_spent ["self","block"]
fD:Fn1 K "do_deed" "Chip.do_deed" vP t.f_Chip_do_deed ["self","word","place","block","fails"]
aAH:Fn1 K "mark_of" "mark_of" q3A t.f_mark_of ["stamp","name"]
oO:Fn1 K "__init__" "Book.__init__" q0M t.f_Book_init ["self","blocks","pages"]
tL:Fn1 K "mark" "Book.mark" q0N t.f_Book_mark ["self","name"]
oZ:Fn1 K "note" "Book.note" q0O t.f_Book_note ["self","page","name"]
fW:Fn1 K "forget" "Book.forget" zJ t.f_Book_forget ["self","name"]
tE:Fn1 K "held" "Book.held" q0P t.f_Book_held ["self"]
iR:Fn1 K "__init__" "Plain.__init__" q05 t.f_Plain_init ["self","chip","terms"]
fM:Fn1 K "good" "Plain.good" q06 t.f_Plain_good ["self"]
eT:FuncData
aAA:FunT K "free" "Plain.free" jU t.i7 t.f_Plain_free eT
i3:yC K eT ["self"] []
fN:Fn1 K "part" "Plain.part" q07 t.f_Plain_part ["self"]
iH:Fn1 K "spot" "Plain.spot" q08 t.f_Plain_spot ["self"]
eR:Fn1 K "reserve" "Plain.reserve" v6 t.f_Plain_reserve ["self"]
f7:Fn1 K "ready" "Plain.ready" zK t.f_Plain_ready ["self"]
bM:Fn1 K "make_ready" "Plain.make_ready" u8 t.f_Plain_make_ready ["self"]
b9:Fn1 K "set_down" "Plain.set_down" uN t.f_Plain_set_down ["self","name","value"]
oQ:Fn1 K "lay" "Plain.lay" q0Q t.f_Plain_lay ["self","name","value"]
fX:Fn1 K "write" "Plain.write" zL t.f_Plain_write ["self","sheet","value"]
iG:Fn1 K "read" "Plain.read" q09 t.f_Plain_read ["self","sheet"]
eG:Fn1 K "held" "Plain.held" q0A t.f_Plain_held ["self"]
aV:Fn1 K "check_sheet" "Plain.check_sheet" yU t.f_Plain_check_sheet ["self","sheet"]
bI:Fn1 K "check_share" "Plain.check_share" yV t.f_Plain_check_share ["self","sheet"]
bE:FuncData
xC:Value
xX:FunD K "__init__" "Terms.__init__" yR xC t.f_Terms_init bE
aBI:yC K bE ["self","blocks","pages","sheets","share","ill","spread"] []
eY:List Value
aA9:yC K bE ["self","blocks","pages","sheets","share","ill","spread"] eY
aA8:Vals [.int 1000000] eY
fJ:List Value
tT:yC K bE ["self","blocks","pages","sheets","share","ill","spread"] fJ
tR:Vals [.int 0,.int 1000000] fJ
fE:Fn1 K "closed" "Terms.closed" vQ t.f_Terms_closed ["self"]
bC:Fn1 K "_law_cell_at" "_law_cell_at" zM t.f_law_cell_at ["_law_script","_law_k"]
iA:Fn1 K "_law_whole" "_law_whole" q0R t.f_law_whole ["_law_found"]
oX:Fn1 K "_law_names" "_law_names" q0S t.f_law_names ["_law_cell","_law_place","_law_many"]
oM:Fn1 K "_law_table" "_law_table" q0T t.f_law_table ["_law_script","_law_start"]
o9:Fn1 K "_law_kinds" "_law_kinds" q0U t.f_law_kinds ["_law_e"]
tF:Fn1 K "_law_shift" "_law_shift" q0V t.f_law_shift ["_law_parts","_law_one","_law_other","_law_many"]
f9:Fn1 K "_law_write" "_law_write" q0W t.f_law_write ["_law_parts","_law_name","_law_sheet","_law_value"]
aAR:Fn1 K "_law_due" "_law_due" q3B t.f_law_due ["_law_mine","_law_one","_law_other","_law_many"]
tG:Fn1 K "_law_moved" "_law_moved" q0X t.f_law_moved ["_law_store","_law_parts","_law_mine","_law_number"]
t8:Fn1 K "_law_step" "_law_step" q24 t.f_law_step ["_law_store","_law_parts","_law_mine","_law_number"]
oG:Fn1 K "_law_same" "_law_same" q25 t.f_law_same ["_law_parts","_law_mine"]
law:Fn1 K "law" "law" qCX t.f_law ["_law_script"]
structure HkE where
P:Program
w:World
K:W.Frag
mg:Str→Option Value
t:Adr
noncomputable def hkB(e:HkE):Prop:=∃(S:Fns e.K e.t) (base:Heap),Txt e.K e.mg e.t∧BmIn base e.mg∧¬S.law.Ok0 e.P e.w e.mg base 16 (q36 e.K [e.t.aA])
instance:Nonempty HkE:=⟨⟨PySem.Challenge.pw_wornpages_k84_shares_shifted,⟨λ_ _=>0,{ strHash:=λ_=>0,shareClass:=λ_=>0,mergeTok:=id,idOf:=λ_=>0,idOfShared:=λ_ _=>0,followText:=λ_=>false,idOfImm:=λ_=>0 }⟩,[],λ_=>none,by constructor<;>exact(0:Nat)⟩⟩
@[irreducible] noncomputable def hkE:HkE:=Classical.epsilon hkB
noncomputable def P:Program:=hkE.P
noncomputable def w:World:=hkE.w
noncomputable def K:W.Frag:=hkE.K
noncomputable def mg:Str→Option Value:=hkE.mg
noncomputable def t:Adr:=hkE.t
section
variable{base:Heap}
theorem q8N:FnScope ["thing"] ["thing"] (qG q20):=qU (by decide+kernel)
theorem q7A:FnScope ["thing","low","high"] ["thing","low","high"] (qG q0I):=qU (by decide+kernel)
theorem q8O:FnScope ["blocks","pages"] ["blocks","pages"] (qG q21):=qU (by decide+kernel)
theorem q8P:FnScope ["thing"] ["thing"] (qG q22):=qU (by decide+kernel)
theorem q9G:FnScope ["thing"] ["thing"] (qG q39):=qU (by decide+kernel)
theorem q57:FnScope ["thing"] ["thing"] (qG zF):=qU (by decide+kernel)
theorem q1M:FnScope ["told","terms","row"] ["told","terms"] (qG zY):=qU (by decide+kernel)
theorem q7B:FnScope ["row"] ["row"] (qG q0J):=qU (by decide+kernel)
theorem yI:FnScope ["self","store","told","first","name","sheets","share"] ["self","store","told"] (qG zZ):=qU (by decide+kernel)
theorem q0Y:FnScope ["self","name","sheet","value","place"] ["self","name","sheet","value"] (qG zG):=qU (by decide+kernel)
theorem q5L:FnScope ["self","name","sheet"] ["self","name","sheet"] (qG q00):=qU (by decide+kernel)
theorem q1N:FnScope ["self","name","first"] ["self","name"] (qG q01):=qU (by decide+kernel)
theorem q5M:FnScope ["self","name"] ["self","name"] (qG q02):=qU (by decide+kernel)
theorem q2Q:FnScope ["self","name"] ["self","name"] (qG uK):=qU (by decide+kernel)
theorem q58:FnScope ["self","one","other","many"] ["self","one","other","many"] (qG zH):=qU (by decide+kernel)
theorem q5N:FnScope ["self"] ["self"] (qG q03):=qU (by decide+kernel)
theorem q2R:FnScope ["self","name","sheet"] ["self","name","sheet"] (qG uL):=qU (by decide+kernel)
theorem q1E:FnScope ["self","name"] ["self","name"] (qG yZ):=qU (by decide+kernel)
theorem vC:FnScope ["ills","blocks","limits","block","deeds"] ["ills","blocks"] (qG q0K):=qU (by decide+kernel)
theorem q7C:FnScope ["self","blocks","pages","most","ills"] ["self","blocks","pages","most","ills"] (qG uB):=qU (by decide+kernel)
theorem q3Q:FnScope ["self","page","stuff","block"] ["self","page","stuff"] (qG q23):=qU (by decide+kernel)
theorem q7D:FnScope ["self","page"] ["self","page"] (qG q0L):=qU (by decide+kernel)
theorem q2S:FnScope ["self","deeds"] ["self","deeds"] (qG uM):=qU (by decide+kernel)
theorem q3C:FnScope ["self"] ["self"] (qG v4):=qU (by decide+kernel)
theorem q3W:FnScope ["self"] ["self"] (qG vN):=qU (by decide+kernel)
theorem q3X:FnScope ["self","block"] ["self","block"] (qG vO):=qU (by decide+kernel)
theorem q59:FnScope ["self","block"] ["self","block"] (qG zI):=qU (by decide+kernel)
theorem q5O:FnScope ["self"] ["self"] (qG q04):=qU (by decide+kernel)
theorem q26:FnScope ["self","page"] ["self","page"] (qG uH):=qU (by decide+kernel)
theorem q1F:FnScope ["self","block"] ["self","block"] (qG u6):=qU (by decide+kernel)
theorem q1G:FnScope ["self"] ["self"] (qG u7):=qU (by decide+kernel)
theorem q27:FnScope ["self","block"] ["self","block"] (qG uI):=qU (by decide+kernel)
theorem q3D:FnScope ["self","block"] ["self","block"] (qG v5):=qU (by decide+kernel)
theorem q3Y:FnScope ["self","word","place","block","fails"] ["self","word","place","block","fails"] (qG vP):=qU (by decide+kernel)
theorem q9H:FnScope ["stamp","name"] ["stamp","name"] (qG q3A):=qU (by decide+kernel)
theorem q7E:FnScope ["self","blocks","pages"] ["self","blocks","pages"] (qG q0M):=qU (by decide+kernel)
theorem q7F:FnScope ["self","name"] ["self","name"] (qG q0N):=qU (by decide+kernel)
theorem q2T:FnScope ["self","page","name","block"] ["self","page","name"] (qG q0O):=qU (by decide+kernel)
theorem q0Z:FnScope ["self","name","page"] ["self","name"] (qG zJ):=qU (by decide+kernel)
theorem q7G:FnScope ["self"] ["self"] (qG q0P):=qU (by decide+kernel)
theorem q5P:FnScope ["self","chip","terms"] ["self","chip","terms"] (qG q05):=qU (by decide+kernel)
theorem q5Q:FnScope ["self"] ["self"] (qG q06):=qU (by decide+kernel)
theorem q1O:FnScope ["self","clear"] ["self"] (qG jU):=qU (by decide+kernel)
theorem q1P:FnScope ["self","block"] ["self"] (qG q07):=qU (by decide+kernel)
theorem zN:FnScope ["self","part","free"] ["self"] (qG q08):=qU (by decide+kernel)
theorem q3E:FnScope ["self"] ["self"] (qG v6):=qU (by decide+kernel)
theorem q10:FnScope ["self","spare"] ["self"] (qG zK):=qU (by decide+kernel)
theorem q1H:FnScope ["self"] ["self"] (qG u8):=qU (by decide+kernel)
theorem vY:FnScope ["self","name","value","page"] ["self","name","value"] (qG uN):=qU (by decide+kernel)
theorem q7H:FnScope ["self","name","value"] ["self","name","value"] (qG q0Q):=qU (by decide+kernel)
theorem q5A:FnScope ["self","sheet","value"] ["self","sheet","value"] (qG zL):=qU (by decide+kernel)
theorem q5R:FnScope ["self","sheet"] ["self","sheet"] (qG q09):=qU (by decide+kernel)
theorem q5S:FnScope ["self"] ["self"] (qG q0A):=qU (by decide+kernel)
theorem q11:FnScope ["self","sheet"] ["self","sheet"] (qG yU):=qU (by decide+kernel)
theorem uY:FnScope ["self","sheet","held"] ["self","sheet"] (qG yV):=qU (by decide+kernel)
theorem q5T:FnScope ["self","blocks","pages","sheets","share","ill","spread"] ["self","blocks","pages","sheets","share","ill","spread"] (qG yR):=qU (by decide+kernel)
theorem q3Z:FnScope ["self"] ["self"] (qG vQ):=qU (by decide+kernel)
theorem q5B:FnScope ["_law_script","_law_k"] ["_law_script","_law_k"] (qG zM):=qU (by decide+kernel)
theorem q7I:FnScope ["_law_found"] ["_law_found"] (qG q0R):=qU (by decide+kernel)
theorem jV:FnScope ["_law_cell","_law_place","_law_many","_law_letters","_law_size","_law_base","_law_names_here","_law_k","_law_word","_law_j","_law_step_here"] ["_law_cell","_law_place","_law_many"] (qG q0S):=qU (by decide+kernel)
theorem yS:FnScope ["_law_script","_law_start","_law_many","_law_names_here","_law_rows","_law_k","_law_cell"] ["_law_script","_law_start"] (qG q0T):=qU (by decide+kernel)
theorem q2U:FnScope ["_law_e","_law_found"] ["_law_e"] (qG q0U):=qU (by decide+kernel)
theorem yT:FnScope ["_law_parts","_law_one","_law_other","_law_many","_law_kinds_here","_law_found","_law_e"] ["_law_parts","_law_one","_law_other","_law_many"] (qG q0V):=qU (by decide+kernel)
theorem q0B:FnScope ["_law_parts","_law_name","_law_sheet","_law_value","_law_outcome"] ["_law_parts","_law_name","_law_sheet","_law_value"] (qG q0W):=qU (by decide+kernel)
theorem q9I:FnScope ["_law_mine","_law_one","_law_other","_law_many"] ["_law_mine","_law_one","_law_other","_law_many"] (qG q3B):=qU (by decide+kernel)
theorem jI:FnScope ["_law_store","_law_parts","_law_mine","_law_number","_law_names_here","_law_one","_law_other","_law_many","_law_dark","_law_due_here","_law_log","_law_good"] ["_law_store","_law_parts","_law_mine","_law_number"] (qG q0X):=qU (by decide+kernel)
theorem yF:FnScope ["_law_store","_law_parts","_law_mine","_law_number","_law_name","_law_sheets","_law_share","_law_sheet","_law_held","_law_due_here"] ["_law_store","_law_parts","_law_mine","_law_number"] (qG q24):=qU (by decide+kernel)
theorem uC:FnScope ["_law_parts","_law_mine","_law_found","_law_due_here","_law_name","_law_sheets","_law_share"] ["_law_parts","_law_mine"] (qG q25):=qU (by decide+kernel)
theorem v7:FnScope ["_law_script","_law_rows","_law_mine","_law_wide","_law_deep","_law_store","_law_parts","_law_name","_law_sheets","_law_share","_law_sheet","_law_cell"] ["_law_script"] (qG qCX):=qU (by decide+kernel)
local macro_rules| `(tactic|walk_at "r")=>`(tactic|repeat (first|with_reducible refine⟨_,rfl,?_⟩|refine⟨_,rfl,?_⟩|refine(iI ?_)))
theorem q3R(T:Txt K mg t)(S:Fns K t):S.oJ.Ok0 P w mg base 1 q9Y:=by(
refine S.oJ.F.ok0 q8N λcdv A _ s H vs Q E hr h=>?_
obtain⟨x,rfl,kn,k⟩:=h
refine⟨_,(qD (qO (zB (qP jH (by rfl) T.aF (by kernel_rfl) (qA (pv 0) (qA (uO rfl T.aBP (by kernel_rfl) rfl (v:=.ty "int")) qE))) (vF (q8W (qP jH (by rfl) T.aF (by kernel_rfl) (qA (pv 0) (qA (uO rfl T.aBJ (by kernel_rfl) rfl (v:=.ty "bool")) qE)))))))),?_⟩
try dsimp-beta-proj-iota-zeta-eta only[wishK,cxK]
obtain⟨ty,q,e1,e2,_⟩:=kn.ty (K:=K)
refine⟨_,rfl,x,_,_,ty,_,rfl,rfl,.inl q,e1,_,rfl,?_⟩
have z:=qBZ x
cases qi:isI x with
|true=>rw[qi,kJ rfl]at z;refine iteT ?_;refine⟨_,rfl,x,_,_,ty,_,rfl,rfl,.inl q,e2,_,rfl,?_⟩;rw[z];exact k
|false=>rw[qi]at z;refine iteF ?_;have z':false=isW x:=z;rw[z'];exact k)
theorem jJ(T:Txt K mg t)(S:Fns K t):S.aO.Ok0 P w mg base 2 qC0:=by(
refine S.aO.F.ok0 q7A λcdv A _ s H vs Q E hr h=>?_
obtain⟨x,lo,hi,rfl,kn,k⟩:=h
refine⟨_,(qD (qO (zB (qR (q3R T S).mono hr rfl T.o0 T.oP S.oJ.b .nil qK (qA (pv 0) qE)) (vF (q80 q7Z q7Z (pv 1) (pv 0) (pv 2)))))),?_⟩
try dsimp-beta-proj-iota-zeta-eta only[wishK,cxK]
refine⟨_,rfl,x,rfl,kn,_,rfl,?_⟩
cases x with
|int i=>
 refine iteT ?_;refine⟨_,rfl,_,rfl,_,_,rfl,rfl,_,rfl,?_⟩;have k':Q (V.bl (decide (lo≤i)&&decide (i≤hi))) H:=k;by_cases h1:lo≤i
 ·rw[hI h1]at k' ⊢;refine iteT ?_;exact⟨_,rfl,_,_,rfl,rfl,k'⟩
 rw[hG h1]at k' ⊢;refine iteF ?_;exact k'
|_=>exact iteF k)
theorem q3S(T:Txt K mg t)(S:Fns K t):S.oI.Ok0 P w mg base 3 qDP:=by(
refine S.oI.F.ok0 q8O λcdv A _ s H vs Q E hr h=>?_
obtain⟨x,y,rfl,kx,ky,k⟩:=h
refine⟨_,(qD (qO (zB (qR (jJ T S).mono hr rfl T.aH T.aG S.aO.b .nil qK (qA (pv 0) (qA qI (qA qI qE)))) (vF (qR (jJ T S).mono hr rfl T.aH T.aG S.aO.b .nil qK (qA (pv 1) (qA qI (qA qI qE)))))))),?_⟩
try dsimp-beta-proj-iota-zeta-eta only[wishK,cxK]
refine⟨_,rfl,x,_,_,rfl,kx,_,rfl,?_⟩
cases q:inB x 2 16 with
|true=>rw[q]at k;refine iteT ⟨_,rfl,y,_,_,rfl,ky,k⟩
|false=>rw[q]at k;exact iteF k)
structure Gd(m:CM):Prop where
lf:m.lf=none
br:∀b,m.br.getD b false=false
li:∀b,valV m.lim (Sum.inl b)=none
theorem inBi{v lo hi:Int}(h1:lo≤v)(h2:v≤hi):inB (.int v) lo hi=true:=by show(decide (lo≤v)&&decide (v≤hi))=true;rw[hI h1,hI h2];rfl
noncomputable def putC(m:CM)(p:Nat)(st:V):CM:={ m.deed "put" (p:Int) ((p:Int) / m.pg) false with bo:=m.bo.set p st }
noncomputable def spCP(t:Adr):Sp:=λvs H Q E=>∃c a m,∃p:Int,vs=[.ref c,.int p]∧ChipAt t.C_Chip H c a m∧m.Ok∧0≤p∧p≤m.bl*m.pg-1∧Q .non H
theorem vR(T:Txt K mg t)(S:Fns K t):S.bF.Ok0 P w mg base 3 (spCP t):=by(
refine S.bF.F.ok0 q26 λcdv A _ s H vs Q E hr h=>?_
obtain⟨c,a,m,p,rfl,hc,ok,p0,p1,q⟩:=h
refine⟨_,(qD (j8 (jO (jF (qR (jJ T S).mono hr rfl T.aH T.aG S.aO.b .nil qK (qA (pv 1) (qA qI (qA (qM yJ (qM zT (qJ (pv 0) rfl) (qJ (pv 0) rfl)) qI) qE)))))) (qD qT) qL)),?_⟩
try dsimp-beta-proj-iota-zeta-eta only[wishK,cxK]
have b1:=ok.bl1
have b2:=ok.bl2
refine⟨_,rfl,_,rfl,c,_,a.dx,_,_,rfl,hc.ins,T.aE,T.aX,rfl,_,rfl,c,_,a.dx,_,_,rfl,hc.ins,T.aE,T.bD,rfl,?_⟩
refine⟨_,_,rfl,rfl,.inl ⟨by lia,by lia⟩,_,_,rfl,rfl,.int p,_,_,rfl,.int p,_,rfl,?_⟩
rw[inBi p0 p1]
exact iteF q)
noncomputable def spCB(t:Adr):Sp:=λvs H Q E=>∃c a m,∃p:Int,vs=[.ref c,.int p]∧ChipAt t.C_Chip H c a m∧0≤p∧p≤m.bl-1∧Q .non H
theorem vA(T:Txt K mg t)(S:Fns K t):S.bA.Ok0 P w mg base 3 (spCB t):=by(
refine S.bA.F.ok0 q1F λcdv A _ s H vs Q E hr h=>?_
obtain⟨c,a,m,p,rfl,hc,p0,p1,q⟩:=h
refine⟨_,(qD (j8 (jO (jF (qR (jJ T S).mono hr rfl T.aH T.aG S.aO.b .nil qK (qA (pv 1) (qA qI (qA (qM yJ (qJ (pv 0) rfl) qI) qE)))))) (qD qT) qL)),?_⟩
try dsimp-beta-proj-iota-zeta-eta only[wishK,cxK]
refine⟨_,rfl,_,rfl,c,_,a.dx,_,_,rfl,hc.ins,T.aE,T.aX,rfl,_,_,rfl,rfl,.int p,_,_,rfl,.int p,_,rfl,?_⟩
rw[inBi p0 p1]
exact iteF q)
noncomputable def spID(t:Adr):Sp:=λvs H Q E=>∃c a m,vs=[.ref c]∧ChipAt t.C_Chip H c a m∧Q (.bl (decide (m.lf=some 0))) H
theorem q40(T:Txt K mg t)(S:Fns K t):S.fA.Ok0 P w mg base 1 (spID t):=by(
refine S.fA.F.ok0 q3W λcdv A _ s H vs Q E hr h=>?_
obtain⟨c,a,m,rfl,hc,q⟩:=h
refine⟨_,(qD (qO (yM v9 (qJ (pv 0) rfl) qI (qZ _)))),?_⟩
try dsimp-beta-proj-iota-zeta-eta only[wishK,cxK]
refine⟨_,rfl,c,_,a.dx,_,_,rfl,hc.ins,T.aE,T.aR,rfl,qDO,?_⟩
rw[lf0]
exact q)
noncomputable def spPW(t:Adr):Sp:=λvs H Q E=>∃c a m,vs=[.ref c]∧ChipAt t.C_Chip H c a m∧m.lf=none∧Q .non H
theorem vB(T:Txt K mg t)(S:Fns K t):S.bB.Ok0 P w mg base 2 (spPW t):=by(
refine S.bB.F.ok0 q1G λcdv A _ s H vs Q E hr h=>?_
obtain⟨c,a,m,rfl,hc,hl,q⟩:=h
refine⟨_,(qD (j8 (jF (jG (pv 0) T.aE T.tS (q40 T S).mono hr S.fA.b .nil qK)) (qD qT) qL)),?_⟩
try dsimp-beta-proj-iota-zeta-eta only[wishK,cxK]
refine⟨_,rfl,c,a.dx,_,rfl,hc.ins,rfl,c,a,m,rfl,hc,_,rfl,?_⟩
rw[hl]
exact iteF q)
noncomputable def spCD(t:Adr):Sp:=λvs H Q E=>∃c a m b,vs=[.ref c,.int b]∧ChipAt t.C_Chip H c a m∧m.Ok∧Gd m∧0≤b∧b<m.bl∧Q .non H
theorem q28(T:Txt K mg t)(S:Fns K t):S.bQ.Ok0 P w mg base 3 (spCD t):=by(
refine S.bQ.F.ok0 q27 λcdv A _ s H vs Q E hr h=>?_
obtain⟨c,a,m,b,rfl,hc,ok,g,b0,b1,q⟩:=h
refine⟨_,(qB (jA (jG (pv 0) T.aE T.bY (vB T S).mono hr S.bB.b .nil qK)) (qD (j8 (jF (jQ jR (qJ (pv 0) rfl) (pv 1) (λ_ _=>rfl))) (qD qT) qL))),?_⟩
try dsimp-beta-proj-iota-zeta-eta only[wishK,cxK]
have nb:=ok.nbr
refine⟨_,rfl,c,a.dx,_,rfl,hc.ins,rfl,c,a,m,rfl,hc,g.lf,?_⟩
refine⟨_,rfl,c,_,a.dx,_,_,rfl,hc.ins,T.aE,T.b8,rfl,_,rfl,a.br,_,b,_,rfl,rfl,SqL.of hc.br,getB b0 (by lia),_,rfl,?_⟩
rw[g.br]
exact iteF q)
noncomputable def spIS(t:Adr):Sp:=λvs H Q E=>∃c a m b,vs=[.ref c,.int b]∧ChipAt t.C_Chip H c a m∧Gd m∧Q (.bl false) H
theorem q3F(T:Txt K mg t)(S:Fns K t):S.eO.Ok0 P w mg base 1 (spIS t):=by(
refine S.eO.F.ok0 q3D λcdv A _ s H vs Q E hr h=>?_
obtain⟨c,a,m,b,rfl,hc,g,q⟩:=h
have hu:=uT hr
refine⟨_,(qD (qO (zB (qF2 (qBU hu (pv 1) (qJ (pv 0) rfl))) (vF (yM q9T (jQ jR (qJ (pv 0) rfl) (pv 1) (λ_ _=>rfl)) (qW hu (qJ (pv 0) rfl) (pv 1) (λ_ _=>rfl)) (qZ _)))))),?_⟩
try dsimp-beta-proj-iota-zeta-eta only[wishK,cxK]
refine⟨_,rfl,_,rfl,c,_,a.dx,_,_,rfl,hc.ins,T.aE,T.fR,rfl,a.li,_,rfl,DGet.k (k:=Sum.inl b) hc.li,_,rfl,?_⟩
rw[g.li]
exact iteF q)
noncomputable def spDD(t:Adr):Sp:=λvs H Q E=>∃c a m w pl b,vs=[.ref c,.str w,.int pl,.int b,.bl false]∧ChipAt t.C_Chip H c a m∧m.Ok∧m.lf=none∧m.rc.length<1000000∧0≤b∧b<m.bl∧∀H',ChipAt t.C_Chip H' c a (m.deed w pl b false)→Keep (foot c a) H H'→Q .non H'
theorem q41(T:Txt K mg t)(S:Fns K t):S.fD.Ok0 P w mg base 3 (spDD t):=by(
refine S.fD.F.ok0 q3Y λcdv A _ s H vs Q E hr h=>?_
obtain⟨c,a,m,w,pl,b,rfl,hc,ok,hl,hr1,b0,b1,q⟩:=h
refine⟨_,(qB (j8 (j9 q45 (qJ (pv 0) rfl) yN (qZ _)) (qD qT) qL) (qB (q44 (qJ (pv 0) rfl) (pv 3) q2E qI q6V zQ) (qB (jA (q4O gG gA gB u9 (qJ (pv 0) rfl) (qA (vV (qA (pv 1) (qA (pv 2) (qA (q8W (pv 4)) qE)))) qE q4T))) (qD (j8 (jF (pv 4)) (qB qT (qD qT)) qL))))),?_⟩
try dsimp-beta-proj-iota-zeta-eta only[wishK,cxK]
have nd:=ok.ndc
refine⟨_,rfl,c,_,a.dx,_,_,rfl,hc.ins,T.aE,T.aR,rfl,rfl,_,rfl,?_⟩
rw[show lfV m.lf=V.non from by rw[hl];rfl]
refine iteF ?_
have hc1:ChipAt t.C_Chip H c a { m with lf:=m.lf.map (· - 1) }:=by rw[hl];show ChipAt t.C_Chip H c a { m with lf:=none };rw[←hl];exact hc
refine⟨_,rfl,c,_,a.dx,_,_,rfl,hc.ins,T.aE,T.bU,rfl,_,rfl,a.dc,_,b,_,rfl,rfl,SqL.of hc.dc,getI b0 (by lia),_,_,rfl,rfl,a.dc,_,b,b.toNat,rfl,rfl,hc.dc,by rw[hV];exact ixOk b0 (by lia),?_⟩
rw[←lQ]
have hc2:=hc1.setDc (m.dc.set b.toNat (m.dc.getD b.toNat 0+1))
have k2:Keep (foot c a) H (upd H a.dc (.lst ((m.dc.set b.toNat (m.dc.getD b.toNat 0+1)).map V.int))):=Keep.upd hc.dc (λ_ z=>by cases z) (by simp[foot])
generalize upd H a.dc (.lst ((m.dc.set b.toNat (m.dc.getD b.toNat 0+1)).map V.int))=H2 at hc2 k2 ⊢
obtain⟨rs,er,pr⟩:=hc2.rc
have ln:rs.length≤1000000:=by rw[pr.len];exact wY hr1
refine⟨_,rfl,c,_,a.dx,_,_,rfl,hc2.ins,T.aE,T.eF,rfl,.inl ⟨rfl,_,SqL.of er⟩,_,rfl,_,rfl,_,rfl,_,rfl,sz3,λp H3 np sm hp=>?_⟩
have er3:=sm _ _ er
refine⟨a.rc,rs,_,rfl,rfl,er3,cG ln (by decide),?_⟩
exact⟨_,rfl,_,rfl,iteF (q _ ((hc2.same sm).addRc (d:=(w,pl,!false)) er3 hp) ((k2.trans (Keep.same sm)).trans (Keep.upd (o:=.lst (rs++[.ref p])) er3 (λ_ z=>by cases z) (by simp[foot]))))⟩)
noncomputable def qHQ(t:Adr):Sp:=λvs H Q E=>∃c a m,∃p:Nat,∃st,vs=[.ref c,.int (p:Int),st]∧ChipAt t.C_Chip H c a m∧m.Ok∧m.rc.length<1000000∧Gd m∧(p:Int)≤m.bl*m.pg-1∧m.bo.getD p .non=.non∧∀H',ChipAt t.C_Chip H' c a (putC m p st)→Keep (foot c a) H H'→Q .non H'
theorem q8Q(T:Txt K mg t)(S:Fns K t):S.xE.Ok0 P w mg base 4 (qHQ t):=by(
refine S.xE.F.ok0 q3Q λcdv A _ s H vs Q E hr h=>?_
obtain⟨c,a,m,p,st,rfl,hc,ok,hr1,g,p1,hw,q⟩:=h
refine⟨_,(qB (jA (jB (pv 0) T.aE T.eI (vR T S).mono hr S.bF.b .nil qK (qA (pv 1) qE))) (qB (qV (i:=3) q3Q.nd rfl (Or.inl rfl) (qM yD (pv 1) (qJ (pv 0) rfl))) (qB (jA (jB (pv 0) T.aE T.iP (q28 T S).mono hr S.bQ.b .nil qK (qA (pv 3) qE))) (qB (j8 (j9 q45 (jQ jR (qJ (pv 0) rfl) (pv 1) (λ_ _=>rfl)) yN (qZ _)) (qD qT) qL) (qB (jA (jB (pv 0) T.aE T.tW (q41 T S).mono hr S.fD.b .nil qK (qA qS (qA (pv 1) (qA (pv 3) (qA (jB (pv 0) T.aE T.o8 (q3F T S).mono hr S.eO.b .nil qK (qA (pv 3) qE)) qE)))))) (qD (q8X (pv 2) (qBA (qJ (pv 0) rfl) (pv 1) zQ)))))))),?_⟩
try dsimp-beta-proj-iota-zeta-eta only[wishK,cxK]
have pg1:=ok.pg1
have pg2:=ok.pg2
have nbo:=ok.nbo
have p0:(0:Int)≤p:=by lia
obtain⟨b0,b1⟩:=qG4 ok p0 p1
refine⟨_,rfl,c,a.dx,_,rfl,hc.ins,rfl,_,rfl,c,a,m,p,rfl,hc,ok,p0,p1,?_⟩
refine⟨_,rfl,_,rfl,c,_,a.dx,_,_,rfl,hc.ins,T.aE,T.bD,rfl,_,_,rfl,rfl,⟨by lia,by lia⟩,?_⟩
refine⟨_,rfl,c,a.dx,_,rfl,hc.ins,rfl,_,rfl,c,a,m,_,rfl,hc,ok,g,b0,b1,?_⟩
refine⟨_,rfl,c,_,a.dx,_,_,rfl,hc.ins,T.aE,T.bO,rfl,_,rfl,a.bo,_,p,_,rfl,rfl,SqL.of hc.bo,getV p0 (by lia),rfl,_,rfl,?_⟩
rw[g7,hI hw]
refine iteF ?_
refine⟨_,rfl,c,a.dx,_,rfl,hc.ins,rfl,_,rfl,_,rfl,_,rfl,c,a.dx,_,rfl,hc.ins,rfl,_,rfl,c,a,m,_,rfl,hc,g,?_⟩
refine⟨c,a,m,"put",p,_,rfl,hc,ok,g.lf,hr1,b0,b1,λH' hc' k'=>?_⟩
refine⟨_,rfl,_,rfl,c,_,a.dx,_,_,rfl,hc'.ins,T.aE,T.bO,rfl,_,rfl,a.bo,_,p,p,rfl,rfl,hc'.bo,ixOk p0 (by show(p:Int)<(m.bo.length:Int);lia),?_⟩
exact q _ (hc'.setBo (m.bo.set p st)) (k'.trans (Keep.upd hc'.bo (λ_ z=>by cases z) (by simp[foot]))))
noncomputable def qGL(t:Adr):Sp:=λvs H Q E=>∃c a m,∃p:Int,vs=[.ref c,.int p]∧ChipAt t.C_Chip H c a m∧m.Ok∧m.lf=none∧0≤p∧p≤m.bl*m.pg-1∧Q (m.bo.getD p.toNat .non) H
theorem q7J(T:Txt K mg t)(S:Fns K t):S.tK.Ok0 P w mg base 4 (qGL t):=by(
refine S.tK.F.ok0 q7D λcdv A _ s H vs Q E hr h=>?_
obtain⟨c,a,m,p,rfl,hc,ok,hl,p0,p1,q⟩:=h
refine⟨_,(qB (jA (jB (pv 0) T.aE T.eI (vR T S).mono hr S.bF.b .nil qK (qA (pv 1) qE))) (qB (jA (jG (pv 0) T.aE T.bY (vB T S).mono hr S.bB.b .nil qK)) (qD (qO (jQ jR (qJ (pv 0) rfl) (pv 1) (λ_ _=>rfl)))))),?_⟩
try dsimp-beta-proj-iota-zeta-eta only[wishK,cxK]
have nbo:=ok.nbo
exact⟨_,rfl,c,a.dx,_,rfl,hc.ins,rfl,_,rfl,c,a,m,p,rfl,hc,ok,p0,p1,_,rfl,c,a.dx,_,rfl,hc.ins,rfl,c,a,m,rfl,hc,hl,_,rfl,c,_,a.dx,_,_,rfl,hc.ins,T.aE,T.bO,rfl,_,rfl,a.bo,_,p,_,rfl,rfl,SqL.of hc.bo,getV p0 (by lia),q⟩)
noncomputable def spCl(t:Adr):Sp:=λvs H Q E=>∃c a m b,vs=[.ref c,.int b]∧ChipAt t.C_Chip H c a m∧m.Ok∧0≤b∧b≤m.bl-1∧Q (.int (m.cl.getD b.toNat 0)) H
theorem q42(T:Txt K mg t)(S:Fns K t):S.fG.Ok0 P w mg base 4 (spCl t):=by(
refine S.fG.F.ok0 q3X λcdv A _ s H vs Q E hr h=>?_
obtain⟨c,a,m,b,rfl,hc,ok,b0,b1,q⟩:=h
refine⟨_,(qB (jA (jB (pv 0) T.aE T.bX (vA T S).mono hr S.bA.b .nil qK (qA (pv 1) qE))) (qD (qO (jQ jR (qJ (pv 0) rfl) (pv 1) (λ_ _=>rfl))))),?_⟩
try dsimp-beta-proj-iota-zeta-eta only[wishK,cxK]
have n:=ok.ncl
exact⟨_,rfl,c,a.dx,_,rfl,hc.ins,rfl,_,rfl,c,a,m,b,rfl,hc,b0,b1,_,rfl,c,_,a.dx,_,_,rfl,hc.ins,T.aE,T.eL,rfl,_,rfl,a.cl,_,b,_,rfl,rfl,SqL.of hc.cl,getI b0 (by lia),q⟩)
noncomputable def spFa(t:Adr):Sp:=λvs H Q E=>∃c a m b,vs=[.ref c,.int b]∧ChipAt t.C_Chip H c a m∧m.Ok∧0≤b∧b≤m.bl-1∧Q (.bl (m.br.getD b.toNat false)) H
theorem q5C(T:Txt K mg t)(S:Fns K t):S.fU.Ok0 P w mg base 4 (spFa t):=by(
refine S.fU.F.ok0 q59 λcdv A _ s H vs Q E hr h=>?_
obtain⟨c,a,m,b,rfl,hc,ok,b0,b1,q⟩:=h
refine⟨_,(qB (jA (jB (pv 0) T.aE T.bX (vA T S).mono hr S.bA.b .nil qK (qA (pv 1) qE))) (qD (qO (jQ jR (qJ (pv 0) rfl) (pv 1) (λ_ _=>rfl))))),?_⟩
try dsimp-beta-proj-iota-zeta-eta only[wishK,cxK]
have n:=ok.nbr
exact⟨_,rfl,c,a.dx,_,rfl,hc.ins,rfl,_,rfl,c,a,m,b,rfl,hc,b0,b1,_,rfl,c,_,a.dx,_,_,rfl,hc.ins,T.aE,T.b8,rfl,_,rfl,a.br,_,b,_,rfl,rfl,SqL.of hc.br,getB b0 (by lia),q⟩)
noncomputable def spDe(t:Adr):Sp:=λvs H Q E=>∃c a m,vs=[.ref c]∧ChipAt t.C_Chip H c a m∧∀rs,H a.rc=some (.lst rs)→Recd H rs m.rc→NewO H (.lst rs) Q
theorem q1Q(T:Txt K mg t)(S:Fns K t):S.fL.Ok0 P w mg base 1 (spDe t):=by(
refine S.fL.F.ok0 q5O λcdv A _ s H vs Q E hr h=>?_
obtain⟨c,a,m,rfl,hc,q⟩:=h
refine⟨_,(qD (qO (q31 q5K (by rfl) T.aA5 (by kernel_rfl) (qA (qJ (pv 0) rfl) qE)))),?_⟩
try dsimp-beta-proj-iota-zeta-eta only[wishK,cxK]
obtain⟨rs,er,pr⟩:=hc.rc
exact⟨_,rfl,c,_,a.dx,_,_,rfl,hc.ins,T.aE,T.eF,rfl,a.rc,rs,rfl,.inl (SqL.of er),q rs er pr⟩)
noncomputable def spOn(t:Adr):Sp:=λvs H Q E=>∃c a m,vs=[.ref c]∧ChipAt t.C_Chip H c a m∧∀H',ChipAt t.C_Chip H' c a { m with lf:=none }→Keep (foot c a) H H'→Q .non H'
theorem q3G(T:Txt K mg t)(S:Fns K t):S.eQ.Ok0 P w mg base 1 (spOn t):=by(
refine S.eQ.F.ok0 q3C λcdv A _ s H vs Q E hr h=>?_
obtain⟨c,a,m,rfl,hc,q⟩:=h
refine⟨_,(qD (jN (pv 0) yN rfl)),?_⟩
try dsimp-beta-proj-iota-zeta-eta only[wishK,cxK]
refine⟨_,rfl,c,_,a.dx,_,rfl,hc.ins,T.aE,T.aR,(by show 10<1000;decide),?_⟩
exact q _ (hc.setLf none) (Keep.upd hc.ins (λ_ z=>by cases z) (by simp[foot])))
noncomputable def qHR(t:Adr):Sp:=λvs H Q E=>∃c a m,∃i:Int,vs=[.ref c,.int i]∧ChipAt t.C_Chip H c a m∧0≤i∧i≤1000000∧∀H',ChipAt t.C_Chip H' c a { m with lf:=some i }→Keep (foot c a) H H'→Q .non H'
theorem q2V(T:Txt K mg t)(S:Fns K t):S.eE.Ok0 P w mg base 3 (qHR t):=by(
refine S.eE.F.ok0 q2S λcdv A _ s H vs Q E hr h=>?_
obtain⟨c,a,m,i,rfl,hc,i0,i1,q⟩:=h
refine⟨_,(qB (j8 (jO (jF (qR (jJ T S).mono hr rfl T.aH T.aG S.aO.b .nil qK (qA (pv 1) (qA qI (qA (uD rfl T.fB ⟨_,rfl⟩ (v:=.int 1000000)) qE)))))) (qD qT) qL) (qD (jN (pv 0) (pv 1) rfl))),?_⟩
try dsimp-beta-proj-iota-zeta-eta only[wishK,cxK]
refine⟨_,rfl,.int i,_,_,rfl,.int i,_,rfl,?_⟩
rw[inBi i0 i1]
exact iteF ⟨_,rfl,_,rfl,c,_,a.dx,_,rfl,hc.ins,T.aE,T.aR,by show 10<1000;decide,q _ (hc.setLf (some i)) (Keep.upd hc.ins (λ_ z=>by cases z) (by simp[foot]))⟩)
noncomputable def qHS(K:W.Frag):Sp:=λvs H Q E=>∃l bl,vs=[.ref l,.int bl]∧SqL K H l []∧NewO H (.dK []) Q
theorem q7K(T:Txt K mg t)(S:Fns K t):S.tD.Ok0 P w mg base 3 (qHS K):=by(
refine S.tD.F.ok0 vC λcdv A _ s H vs Q E hr h=>?_
obtain⟨l,bl,rfl,sq,q⟩:=h
refine⟨_,(qB (qV (i:=2) vC.nd rfl (Or.inl rfl) uS) (qB (vG gI rfl (yA (pv 0)) (q2Z rfl (jW (qY (i:=3) vC.nd rfl (Or.inl rfl)) (jW (qY (i:=4) vC.nd rfl (Or.inl rfl)) q15))) (qB qT (qB qT (qB qT (qD qT))))) (qD (qO (pv 2))))),?_⟩
try dsimp-beta-proj-iota-zeta-eta only[wishK,cxK]
refine λp np=>?_
have s0:Same H (upd H p (.dK [])):=Same.upd np
refine⟨_,rfl,l,rfl,⟨[],s0.seq sq⟩,q0D (K:=K) (xs:=[]) (λ_ σ' H1=>(∃y z,σ'=[some (.ref l),some (.int bl),some (.ref p),y,z])∧H1=upd H p (.dK [])) ⟨⟨_,_,rfl⟩,rfl⟩ (λi σ' H1 _ hp=>by rw[hp.2];exact s0.seq sq) (λi x σ' H1 hx _=>by simp at hx) (λσ' H1 hp=>?_)⟩
obtain⟨⟨y,z,rfl⟩,rfl⟩:=hp
exact⟨_,rfl,q p _ np s0 qH⟩)
structure Wm(C x dx:Addr)(H G:Hp)(fs:List (Str×V))(os:List (Addr×HO)):Prop where
i:G x=some (.ins C dx fs)
u:Up x H G
o:∀p∈os,G p.1=some p.2∧H p.1=none∧p.1≠x
n:(os.map (·.1)).Nodup
section
variable{C x dx:Addr}{H G B:Hp}{fs fs':List (Str×V)}{os:List (Addr×HO)}
theorem Wm.same(h:Wm C x dx H G fs os)(s:Same G B):Wm C x dx H B fs os:=⟨s _ _ h.i,λb o n e=>s _ _ (h.u b o n e),λp hp=>⟨s _ _ (h.o p hp).1,(h.o p hp).2⟩,h.n⟩
theorem Wm.add(h:Wm C x dx H G fs os){a:Addr}{o:HO}(na:G a=none)(s:Same G B)(e:B a=some o):Wm C x dx H B fs (os++[(a,o)]):=by(
have ax:a≠x:=λz=>by rw[z,h.i]at na;cases na
have w:=h.same s
refine⟨w.i,w.u,λp hp=>?_,?_⟩
·rcases mO.mp hp with hp|hp
 ·exact w.o p hp
 rw[kC.mp hp];exact⟨e,Up.free h.u ax na,ax⟩
rw[mE]
refine mW.mpr ⟨h.n,by simp,λb hb c hc=>?_⟩
obtain⟨p,hp,rfl⟩:=mB.mp hb
obtain rfl:c=a:=by simpa using hc
exact qF (h.o p hp).1 na)
theorem Wm.set(h:Wm C x dx H G fs os):Wm C x dx H (upd G x (.ins C dx fs')) fs' os:=⟨qH,λb o n e=>by rw[qC n];exact h.u b o n e,λp hp=>⟨by rw[qC (h.o p hp).2.2];exact(h.o p hp).1,(h.o p hp).2⟩,h.n⟩
theorem Wm.fr(h:Wm C x dx H G fs os)(a:Addr)(ha:a∈os.map (·.1)):H a=none:=by obtain⟨p,hp,rfl⟩:=mB.mp ha;exact(h.o p hp).2.1
theorem Wm.put(h:Wm C x dx H G fs os)(f:Str)(v:V):Wm C x dx H (upd G x (.ins C dx (putF f v fs))) (putF f v fs) os:=h.set
end
noncomputable def spMk(t:Adr):Sp:=λvs H Q E=>∃x dx,∃b p m:Int,vs=[.ref x,.int b,.int p,.int m,.non]∧H x=some (.ins t.C_Chip dx [])∧2≤b∧b≤16∧1≤p∧p≤16∧0≤m∧m≤1000000∧∀a H',ChipAt t.C_Chip H' x a (CM.new b p m [])→(∀b∈[a.li,a.bo,a.cl,a.dc,a.br,a.rc],H b=none)→Up x H H'→Q .non H'
theorem q7L(T:Txt K mg t)(S:Fns K t):FnOk P w K mg base (CX0) 4 t.f_Chip_init S.bL ["self","blocks","pages","most","ills"] (spMk t):=by(
refine S.aAM.ok0 q7C λcdv A _ s H vs Q E hr h=>?_
obtain⟨x,dx,b,p,m,rfl,hx,b1,b2,p1,p2,m1,m2,q⟩:=h
refine⟨_,(qB (j8 (jO (jF (qR (q3S T S).mono hr rfl T.oW T.oR S.oI.b .nil qK (qA (pv 1) (qA (pv 2) qE))))) (qD qT) qL) (qB (j8 (jO (jF (qR (jJ T S).mono hr rfl T.aH T.aG S.aO.b .nil qK (qA (pv 3) (qA qI (qA (uD rfl T.fB ⟨_,rfl⟩ (v:=.int 1000000)) qE)))))) (qD qT) qL) (qB (jN (pv 0) (pv 1) rfl) (qB (jN (pv 0) (pv 2) rfl) (qB (jN (pv 0) (pv 3) rfl) (qB (jN (pv 0) (qR (q7K T S).mono hr rfl T.xK T.x9 S.tD.b .nil qK (qA (qB9 (j9 qBE (pv 4) yN (qZ _)) (yB qE) (pv 4)) (qA (pv 1) qE))) rfl) (qB (jN (pv 0) (qM zV (yB (qA yN qE)) (qM zT (pv 1) (pv 2))) rfl) (qB (jN (pv 0) (qM zV (yB (qA qI qE)) (pv 1)) rfl) (qB (jN (pv 0) (qM zV (yB (qA qI qE)) (pv 1)) rfl) (qB (jN (pv 0) (qM zV (yB (qA q3I qE)) (pv 1)) rfl) (qB (jN (pv 0) yN rfl) (qD (jN (pv 0) (yB qE) rfl))))))))))))),?_⟩
try dsimp-beta-proj-iota-zeta-eta only[wishK,cxK]
refine⟨_,rfl,_,rfl,.int b,.int p,rfl,.int b,.int p,_,rfl,?_⟩
rw[inBi b1 b2,inBi p1 p2]
refine iteF ?_
refine⟨_,rfl,.int m,_,_,rfl,.int m,_,rfl,?_⟩
rw[inBi m1 m2]
refine iteF ?_
have bp:b*p≤256:=Int.mul_le_mul b2 p2 (by lia) (by decide)
have bp0:0≤b*p:=nY (by lia) (by lia)
refine⟨_,rfl,_,rfl,x,_,dx,_,rfl,hx,T.aE,T.aX,by simp,?_⟩
have w1:Wm t.C_Chip x dx H (upd H x (.ins t.C_Chip dx (putF "blocks" (.int b) []))) (putF "blocks" (.int b) []) []:=⟨qH,Up.of (Same.refl H),by simp,by simp⟩
refine⟨_,rfl,_,rfl,x,_,dx,_,rfl,w1.i,T.aE,T.bD,by show 1<1000;decide,?_⟩
have w2:=w1.put "pages" (.int p)
refine⟨_,rfl,_,rfl,x,_,dx,_,rfl,w2.i,T.aE,T.xZ,by show 2<1000;decide,?_⟩
have w3:=w2.put "most" (.int m)
refine⟨_,rfl,rfl,_,rfl,iteT ⟨sz0,λl0 H2 n0 s0 e0=>?_⟩⟩
refine⟨_,rfl,l0,b,rfl,SqL.of e0,λli H3 n1 s1 e1=>?_⟩
have w4:=(w3.same s0).add n1 s1 e1
refine⟨_,rfl,x,_,dx,_,rfl,w4.i,T.aE,T.fR,by show 3<1000;decide,?_⟩
have w4:=w4.put "limits" (.ref li)
refine⟨sz1,λwa A1 n1 s1 e1=>⟨_,rfl,_,rfl,_,_,rfl,rfl,.inl ⟨by lia,by lia⟩,wa,_,_,rfl,rfl,e1,by lia,by lia,λbo B1 m1 r1 hbo=>?_⟩⟩
have w5:=(w4.same s1).add m1 r1 hbo
refine⟨_,rfl,x,_,dx,_,rfl,w5.i,T.aE,T.bO,by show 4<1000;decide,?_⟩
have w5:=w5.put "borne" (.ref bo)
refine⟨sz1,λwa A2 n2 s2 e2=>⟨_,rfl,wa,_,_,rfl,rfl,e2,by lia,by lia,λcl B2 m2 r2 hcl=>?_⟩⟩
have w6:=(w5.same s2).add m2 r2 hcl
refine⟨_,rfl,x,_,dx,_,rfl,w6.i,T.aE,T.eL,by show 5<1000;decide,?_⟩
have w6:=w6.put "clearings" (.ref cl)
refine⟨sz1,λwa A3 n3 s3 e3=>⟨_,rfl,wa,_,_,rfl,rfl,e3,by lia,by lia,λdc B3 m3 r3 hdc=>?_⟩⟩
have w7:=(w6.same s3).add m3 r3 hdc
refine⟨_,rfl,x,_,dx,_,rfl,w7.i,T.aE,T.bU,by show 6<1000;decide,?_⟩
have w7:=w7.put "deed_counts" (.ref dc)
refine⟨sz1,λwa A4 n4 s4 e4=>⟨_,rfl,wa,_,_,rfl,rfl,e4,by lia,by lia,λbr B4 m4 r4 hbr=>?_⟩⟩
have w8:=(w7.same s4).add m4 r4 hbr
refine⟨_,rfl,x,_,dx,_,rfl,w8.i,T.aE,T.b8,by show 7<1000;decide,?_⟩
have w8:=w8.put "broken" (.ref br)
refine⟨_,rfl,x,_,dx,_,rfl,w8.i,T.aE,T.aR,by show 8<1000;decide,?_⟩
have w9:=w8.put "deeds_left" .non
refine⟨sz0,λrc B5 m5 r5 hrc=>?_⟩
have w:=w9.add m5 r5 hrc
refine⟨_,rfl,x,_,dx,_,rfl,w.i,T.aE,T.eF,by show 9<1000;decide,?_⟩
have w:=w.set (fs':=chF ⟨dx,li,bo,cl,dc,br,rc⟩ (CM.new b p m []))
refine q ⟨dx,li,bo,cl,dc,br,rc⟩ _ ⟨w.i,(w.o (li,.dK []) (by simp)).1,(w.o (bo,.lst (List.replicate (b*p).toNat .non)) (by simp)).1,?_,?_,?_,⟨[],(w.o (rc,.lst []) (by simp)).1,.nil⟩,(m6.mp (show(li::[bo,cl,dc,br,rc]).Nodup from w.n)).2⟩ (λb' hb'=>w.fr b' hb') w.u
·show _=some (HO.lst ((List.replicate b.toNat (0:Int)).map V.int));rw[r6];exact(w.o (cl,.lst (List.replicate b.toNat (.int 0))) (by simp)).1
·show _=some (HO.lst ((List.replicate b.toNat (0:Int)).map V.int));rw[r6];exact(w.o (dc,.lst (List.replicate b.toNat (.int 0))) (by simp)).1
show _=some (HO.lst ((List.replicate b.toNat false).map V.bl))
rw[r6]
exact(w.o (br,.lst (List.replicate b.toNat (.bl false))) (by simp)).1)
theorem yP(T:Txt K mg t)(S:Fns K t):S.bC.Ok0 P w mg base 1 (qG0 K):=by(
refine S.bC.F.ok0 q5B λcdv A _ s H vs Q E hr h=>?_
obtain⟨a,ns,k,rfl,hS,h0,q⟩:=h
refine⟨_,(qB (j8 (j9 q1J (pv 1) (qP jT (by rfl) T.fY mR (qA (pv 0) qE)) (qZ _)) (qD (qO (jQ jR (pv 0) (pv 1) (λ_ _=>rfl)))) qL) (qD (qO qI))),?_⟩
try dsimp-beta-proj-iota-zeta-eta only[wishK,cxK]
refine⟨_,rfl,_,rfl,a,_,rfl,.inl hS,_,_,rfl,rfl,_,rfl,?_⟩
rw[hV]
by_cases h1:k<(ns.length:Int)
·rw[hI h1];refine iteT ?_;exact⟨_,rfl,_,rfl,a,_,k,_,rfl,rfl,hS,qAS h0 h1,q⟩
rw[hG h1]
refine iteF ?_
have e:=q95 h0 h1
rw[e]at q
exact q)
theorem qHT{H:Hp}{bl pg mo:Int}{Q:Addr→Hp→Prop}{E:XK}(b1:2≤bl)(b2:bl≤16)(p1:1≤pg)(p2:pg≤16)(m1:0≤mo)(m2:mo≤1000000)
 (q:∀x a H',ChipAt t.C_Chip H' x a (CM.new bl pg mo [])→Same H H'→(∀b∈a.li::foot x a,H b=none)→Q x H') (x dx:Addr) (nx:H x=none) (ndx:H dx=none) (ne:dx≠x):
 spMk t [.ref x,.int bl,.int pg,.int mo,.non] (upd (upd H dx (.own x)) x (.ins t.C_Chip dx [])) (λv H2=>v=.non∧Q x H2) E:=by(
have s0:Same H (upd (upd H dx (.own x)) x (.ins t.C_Chip dx [])):=λb o e=>by rw[qC (qF e nx),qC (qF e ndx)];exact e
refine⟨x,dx,bl,pg,mo,rfl,qH,b1,b2,p1,p2,m1,m2,λa H' hc fr u=>⟨rfl,q x a H' hc (λb o e=>u b o (qF e nx) (s0 b o e)) λb hb=>?_⟩⟩
have hb:b=x∨b∈[a.li,a.bo,a.cl,a.dc,a.br,a.rc]:=by simp[foot]at hb ⊢;rcases hb with rfl|rfl|rfl|rfl|rfl|rfl|rfl<;>simp
rcases hb with rfl|hb
·exact nx
exact s0.free (fr _ hb))
theorem q2W(T:Txt K mg t)(S:Fns K t):S.iA.Ok0 P w mg base 1 q9Y:=by(
refine S.iA.F.ok0 q7I λcdv A _ s H vs Q E hr h=>?_
obtain⟨x,rfl,kn,k⟩:=h
refine⟨_,(qD (qO (zB (qP jH (by rfl) T.aF (by kernel_rfl) (qA (pv 0) (qA (uO rfl T.aBP (by kernel_rfl) rfl (v:=.ty "int")) qE))) (vF (q8W (qP jH (by rfl) T.aF (by kernel_rfl) (qA (pv 0) (qA (uO rfl T.aBJ (by kernel_rfl) rfl (v:=.ty "bool")) qE)))))))),?_⟩
try dsimp-beta-proj-iota-zeta-eta only[wishK,cxK]
obtain⟨ty,q,e1,e2,_⟩:=kn.ty (K:=K)
refine⟨_,rfl,x,_,_,ty,_,rfl,rfl,.inl q,e1,_,rfl,?_⟩
have z:=qBZ x
cases qi:isI x with
|true=>rw[qi,kJ rfl]at z;refine iteT ?_;refine⟨_,rfl,x,_,_,ty,_,rfl,rfl,.inl q,e2,_,rfl,?_⟩;rw[z];exact k
|false=>rw[qi]at z;refine iteF ?_;have z':false=isW x:=z;rw[z'];exact k)
noncomputable def qHU(t:Adr):Sp:=λvs H Q E=>∃x dx fs b e,vs=[.ref x]∧H x=some (.ins t.C_Terms dx fs)∧fs.lookup (Str.ofString "blocks")=some (.int b)∧fs.lookup (Str.ofString "ill")=some (.int e)∧Q (.int (b-1-e)) H
theorem q43(T:Txt K mg t)(S:Fns K t):S.fE.Ok0 P w mg base 1 (qHU t):=by(
refine S.fE.F.ok0 q3Z λcdv A _ s H vs Q E hr h=>?_
obtain⟨x,dx,fs,b,e,rfl,hx,l1,l2,q⟩:=h
refine⟨_,(qD (qO (qM yJ (qM yJ (qJ (pv 0) rfl) qI) (qJ (pv 0) rfl)))),?_⟩
try dsimp-beta-proj-iota-zeta-eta only[wishK,cxK]
exact⟨_,rfl,x,_,dx,_,_,rfl,hx,T.aM,T.bH,l1,_,_,rfl,rfl,_,rfl,x,_,dx,_,_,rfl,hx,T.aM,T.iW,l2,_,_,rfl,rfl,q⟩)
noncomputable def teF(r0 r1 r2 r3 r4 r5:V):List (Str×V):=[("blocks",r0),("pages",r1),("sheets",r2),("share",r3),("ill",r4),("spread",r5)]
noncomputable def spTm(t:Adr):Sp:=λvs H Q E=>∃x dx,∃b p s r e d:Int,vs=[.ref x,.int b,.int p,.int s,.int r,.int e,.int d]∧H x=some (.ins t.C_Terms dx [])∧2≤b∧b≤16∧1≤p∧p≤16∧1≤s∧s≤64∧1≤r∧r≤(b-1-e)*p-2∧0≤e∧e≤b-2∧1≤d∧d≤1000000∧∀H',H' x=some (.ins t.C_Terms dx (teF (.int b) (.int p) (.int s) (.int r) (.int e) (.int d)))→Up x H H'→Q .non H'
theorem q5U(T:Txt K mg t)(S:Fns K t):FnOk P w K mg base (CX0) 4 t.f_Terms_init S.bE ["self","blocks","pages","sheets","share","ill","spread"] (spTm t):=by(
refine S.xX.ok0 q5T λcdv A _ s H vs Q E hr h=>?_
obtain⟨x,dx,b,p,s',r,e,d,rfl,hx,b1,b2,p1,p2,s1,s2,r1,r2,e1,e2,d1,d2,q⟩:=h
refine⟨_,(qB (j8 (jO (jF (qR (q3S T S).mono hr rfl T.oW T.oR S.oI.b .nil qK (qA (pv 1) (qA (pv 2) qE))))) (qD qT) qL) (qB (j8 (jO (jF (qR (jJ T S).mono hr rfl T.aH T.aG S.aO.b .nil qK (qA (pv 3) (qA qI (qA qI qE)))))) (qD qT) qL) (qB (j8 (jO (jF (qR (jJ T S).mono hr rfl T.aH T.aG S.aO.b .nil qK (qA (pv 5) (qA qI (qA (qM yJ (pv 1) qI) qE)))))) (qD qT) qL) (qB (j8 (jO (jF (qR (jJ T S).mono hr rfl T.aH T.aG S.aO.b .nil qK (qA (pv 6) (qA qI (qA (uD rfl T.fB ⟨_,rfl⟩ (v:=.int 1000000)) qE)))))) (qD qT) qL) (qB (jN (pv 0) (pv 1) rfl) (qB (jN (pv 0) (pv 2) rfl) (qB (jN (pv 0) (pv 3) rfl) (qB (jN (pv 0) (pv 4) rfl) (qB (jN (pv 0) (pv 5) rfl) (qB (jN (pv 0) (pv 6) rfl) (qD (j8 (jO (jF (qR (jJ T S).mono hr rfl T.aH T.aG S.aO.b .nil qK (qA (pv 4) (qA qI (qA (qM yJ (qM zT (jG (pv 0) T.aM T.tP (q43 T S).mono hr S.fE.b .nil qK) (pv 2)) qI) qE)))))) (qD qT) qL)))))))))))),?_⟩
try dsimp-beta-proj-iota-zeta-eta only[wishK,cxK]
refine⟨_,rfl,_,rfl,.int b,.int p,rfl,.int b,.int p,_,rfl,?_⟩
rw[inBi b1 b2,inBi p1 p2]
refine iteF ⟨_,rfl,.int s',_,_,rfl,.int s',_,rfl,?_⟩
rw[inBi s1 s2]
refine iteF ⟨_,rfl,_,rfl,_,_,rfl,rfl,.int e,_,_,rfl,.int e,_,rfl,?_⟩
rw[inBi e1 e2]
refine iteF ⟨_,rfl,.int d,_,_,rfl,.int d,_,rfl,?_⟩
rw[inBi d1 d2]
refine iteF ⟨_,rfl,_,rfl,x,_,dx,_,rfl,hx,T.aM,T.bH,by simp,?_⟩
have w1:Wm t.C_Terms x dx H (upd H x (.ins t.C_Terms dx (putF "blocks" (.int b) []))) (putF "blocks" (.int b) []) []:=⟨qH,Up.of (Same.refl H),by simp,by simp⟩
refine⟨_,rfl,_,rfl,x,_,dx,_,rfl,w1.i,T.aM,T.a9,by show 1<1000;decide,?_⟩
have w2:=w1.put "pages" (.int p)
refine⟨_,rfl,_,rfl,x,_,dx,_,rfl,w2.i,T.aM,T.bR,by show 2<1000;decide,?_⟩
have w3:=w2.put "sheets" (.int s')
refine⟨_,rfl,_,rfl,x,_,dx,_,rfl,w3.i,T.aM,T.bZ,by show 3<1000;decide,?_⟩
have w4:=w3.put "share" (.int r)
refine⟨_,rfl,_,rfl,x,_,dx,_,rfl,w4.i,T.aM,T.iW,by show 4<1000;decide,?_⟩
have w5:=w4.put "ill" (.int e)
refine⟨_,rfl,_,rfl,x,_,dx,_,rfl,w5.i,T.aM,T.oN,by show 5<1000;decide,?_⟩
have w:=w5.put "spread" (.int d)
refine⟨_,rfl,_,rfl,x,dx,_,rfl,w.i,rfl,x,dx,_,b,e,rfl,w.i,rfl,rfl,_,rfl,_,_,rfl,rfl,.inr ⟨by lia,by lia⟩,_,_,rfl,rfl,.int r,_,_,rfl,.int r,_,rfl,?_⟩
rw[inBi r1 r2]
exact iteF (q _ w.i w.u))
theorem qHV{H:Hp}{b p s r e d:Int}{Q:Addr→Hp→Prop}{E:XK}(b1:2≤b)(b2:b≤16)(p1:1≤p)(p2:p≤16)(s1:1≤s)(s2:s≤64)(r1:1≤r)(r2:r≤(b-1-e)*p-2)(e1:0≤e)(e2:e≤b-2)(d1:1≤d)(d2:d≤1000000)
 (q:∀x dx H',Same H H'→H' x=some (.ins t.C_Terms dx (teF (.int b) (.int p) (.int s) (.int r) (.int e) (.int d)))→Q x H') (x dx:Addr) (nx:H x=none) (ndx:H dx=none) (ne:dx≠x):
 spTm t [.ref x,.int b,.int p,.int s,.int r,.int e,.int d] (upd (upd H dx (.own x)) x (.ins t.C_Terms dx [])) (λv H2=>v=.non∧Q x H2) E:=by
 have s0:Same H (upd (upd H dx (.own x)) x (.ins t.C_Terms dx [])):=λb o e=>by rw[qC (qF e nx),qC (qF e ndx)];exact e
 exact⟨x,dx,b,p,s,r,e,d,rfl,qH,b1,b2,p1,p2,s1,s2,r1,r2,e1,e2,d1,d2,λH' h u=>⟨rfl,q x dx H' (λb o e=>u b o (qF e nx) (s0 b o e)) h⟩⟩
noncomputable def qHW:Sp:=λvs H Q _=>∃s n,vs=[.int s,.int n]∧Q (.int (s*128+n)) H
theorem q9J(T:Txt K mg t)(S:Fns K t):S.aAH.Ok0 P w mg base 1 qHW:=by(
refine S.aAH.F.ok0 q9H λcdv A _ s H vs Q E hr h=>?_
obtain⟨s',n,rfl,q⟩:=h
refine⟨_,(qD (qO (qM yG (qM zT (pv 0) (uD rfl T.aBA ⟨_,rfl⟩ (v:=.int 128))) (pv 1)))),?_⟩
try dsimp-beta-proj-iota-zeta-eta only[wishK,cxK]
exact⟨_,rfl,_,_,rfl,rfl,.inr ⟨by decide,by decide⟩,_,rfl,_,_,rfl,rfl,q⟩)
structure BkA where
bk:Addr
dx:Addr
wv:Addr
lv:Addr
fi:Addr
bo:Addr
structure BkAt(t:Adr)(H:Hp)(a:BkA)(m:QM):Prop where
o:H a.bk=some (.ins t.C_Book a.dx [("blocks",.int (m.B:Int)),("pages",.int (m.P:Int)),("stamp",.int m.nx),("where",.ref a.wv),("live",.ref a.lv),("filled",.ref a.fi),("born",.ref a.bo)])
w:H a.wv=some (.dK (dI m.V))
l:H a.lv=some (.lst (m.lv.map V.int))
f:H a.fi=some (.lst (m.fi.map V.int))
b:H a.bo=some (.lst (m.bo.map V.int))
structure Dst(a:BkA):Prop where
lf:a.lv≠a.fi
lb:a.lv≠a.bo
fb:a.fi≠a.bo
theorem BkAt.same{t:Adr}{H H':Hp}{a:BkA}{m:QM}(h:BkAt t H a m)(s:Same H H'):BkAt t H' a m:=⟨s _ _ h.o,s _ _ h.w,s _ _ h.l,s _ _ h.f,s _ _ h.b⟩
theorem BkAt.keep{t:Adr}{H H':Hp}{a:BkA}{m:QM}{F:List Addr}(h:BkAt t H a m)(k:Keep F H H')(n:∀b∈[a.bk,a.wv,a.lv,a.fi,a.bo],b∉F):BkAt t H' a m:=⟨k.k _ _ (n _ (by simp)) h.o,k.k _ _ (n _ (by simp)) h.w,k.k _ _ (n _ (by simp)) h.l,k.k _ _ (n _ (by simp)) h.f,k.k _ _ (n _ (by simp)) h.b⟩
noncomputable def bk0(B P:Nat):QM:=⟨P,B,1,[],List.replicate B 0,List.replicate B 0,List.replicate B 0⟩
noncomputable def qHX(t:Adr):Sp:=λvs H Q _=>∃x dx B P,vs=[.ref x,.int (B:Nat),.int (P:Nat)]∧B≤16∧H x=some (.ins t.C_Book dx [])∧∀(a:BkA) H',a.bk=x→a.dx=dx→BkAt t H' a (bk0 B P)→Dst a→(∀b∈[a.wv,a.lv,a.fi,a.bo],H b=none)→(∀b o,b≠x→H b=some o→H' b=some o)→Q .non H'
theorem q7M(T:Txt K mg t)(S:Fns K t):S.oO.Ok0 P w mg base 1 (qHX t):=by(
refine S.oO.F.ok0 q7E λcdv A _ s H vs Q E hr h=>?_
obtain⟨x,dx,B,P,rfl,hB,hx,q⟩:=h
refine⟨_,(qB (jN (pv 0) (pv 1) rfl) (qB (jN (pv 0) (pv 2) rfl) (qB (jN (pv 0) qI rfl) (qB (jN (pv 0) uS rfl) (qB (jN (pv 0) (qM zV (yB (qA qI qE)) (pv 1)) rfl) (qB (jN (pv 0) (qM zV (yB (qA qI qE)) (pv 1)) rfl) (qD (jN (pv 0) (qM zV (yB (qA qI qE)) (pv 1)) rfl)))))))),?_⟩
try dsimp-beta-proj-iota-zeta-eta only[wishK,cxK]
refine⟨_,rfl,_,rfl,x,_,dx,_,rfl,hx,T.aI,T.tQ,by decide,?_⟩
refine⟨_,rfl,_,rfl,x,_,dx,_,rfl,qH,T.aI,T.eM,by show 1<1000;decide,?_⟩
refine⟨_,rfl,x,_,dx,_,rfl,qH,T.aI,T.bN,by show 2<1000;decide,?_⟩
rw[q6T,q6T]
have w1:Wm t.C_Book x dx H (upd H x (.ins t.C_Book dx (putF "stamp" (.int 1) (putF "pages" (.int (P:Int)) (putF "blocks" (.int (B:Int)) []))))) (putF "stamp" (.int 1) (putF "pages" (.int (P:Int)) (putF "blocks" (.int (B:Int)) []))) []:=⟨qH,Up.of (Same.refl H),by simp,by simp⟩
have rep:∀n:Nat,List.replicate n (V.int 0)=(List.replicate n (0:Int)).map V.int:=λn=>by rw[r6]
have eB:((B:Int)).toNat=B:=by lia
refine λwv nwv=>?_
have w2:=w1.add nwv (Same.upd (o:=.dK []) nwv) qH
refine⟨_,rfl,x,_,dx,_,rfl,w2.i,T.aI,T.aU,by show 3<1000;decide,?_⟩
have w2:=w2.put "where" (.ref wv)
refine⟨sz1,λwa A3 n3 s3 e3=>⟨_,rfl,wa,_,_,rfl,rfl,e3,by lia,by lia,λlv B3 m3 r3 hlv=>?_⟩⟩
rw[eB,rep]at hlv
have w3:=(w2.same s3).add m3 r3 hlv
refine⟨_,rfl,x,_,dx,_,rfl,w3.i,T.aI,T.fH,by show 4<1000;decide,?_⟩
have w3:=w3.put "live" (.ref lv)
refine⟨sz1,λwa A4 n4 s4 e4=>⟨_,rfl,wa,_,_,rfl,rfl,e4,by lia,by lia,λfi B4 m4 r4 hfi=>?_⟩⟩
rw[eB,rep]at hfi
have w4:=(w3.same s4).add m4 r4 hfi
refine⟨_,rfl,x,_,dx,_,rfl,w4.i,T.aI,T.aS,by show 5<1000;decide,?_⟩
have w4:=w4.put "filled" (.ref fi)
refine⟨sz1,λwa A5 n5 s5 e5=>⟨_,rfl,wa,_,_,rfl,rfl,e5,by lia,by lia,λbo B5 m5 r5 hbo=>?_⟩⟩
rw[eB,rep]at hbo
have w5:=(w4.same s5).add m5 r5 hbo
refine⟨_,rfl,x,_,dx,_,rfl,w5.i,T.aI,T.i9,by show 6<1000;decide,?_⟩
have w5:=w5.put "born" (.ref bo)
have nd:[wv,lv,fi,bo].Nodup:=w5.n
simp only[m6,kR,gQ,not_or,wQ]at nd
exact q ⟨x,dx,wv,lv,fi,bo⟩ _ rfl rfl ⟨w5.i,(w5.o (wv,.dK []) (by simp)).1,(w5.o (lv,.lst ((List.replicate B (0:Int)).map V.int)) (by simp)).1,(w5.o (fi,.lst ((List.replicate B (0:Int)).map V.int)) (by simp)).1,(w5.o (bo,.lst ((List.replicate B (0:Int)).map V.int)) (by simp)).1⟩ ⟨nd.2.1.1,nd.2.1.2,nd.2.2.1⟩ (λb' hb'=>w5.fr b' hb') w5.u)
noncomputable def qGM(t:Adr):Sp:=λvs H Q _=>∃a,∃m:QM,∃n,vs=[.ref a.bk,.int n]∧BkAt t H a m∧Q (.int (m.nx*128+n)) H
theorem q7N(T:Txt K mg t)(S:Fns K t):S.tL.Ok0 P w mg base 2 (qGM t):=by(
refine S.tL.F.ok0 q7F λcdv A _ s H vs Q E hr h=>?_
obtain⟨a,m,n,rfl,hb,q⟩:=h
refine⟨_,(qD (qO (qR (q9J T S).mono hr rfl T.aAV T.aAW S.aAH.b .nil qK (qA (qJ (pv 0) rfl) (qA (pv 1) qE))))),?_⟩
try dsimp-beta-proj-iota-zeta-eta only[wishK,cxK]
exact⟨_,rfl,a.bk,_,a.dx,_,_,rfl,hb.o,T.aI,T.bN,rfl,_,rfl,_,_,rfl,q⟩)
noncomputable def spFg(t:Adr):Sp:=λvs H Q _=>∃a,∃m:QM,∃n,vs=[.ref a.bk,.int n]∧BkAt t H a m∧m.Ok∧Dst a∧∀H',BkAt t H' a (m.forget n)→Keep [a.wv,a.lv] H H'→Q .non H'
theorem q5D(T:Txt K mg t)(S:Fns K t):S.fW.Ok0 P w mg base 1 (spFg t):=by(
refine S.fW.F.ok0 q0Z λcdv A _ s H vs Q E hr h=>?_
obtain⟨a,m,n,rfl,hb,ok,ds,q⟩:=h
have hu:=uT hr
have p1:=ok.p1
have p2:=ok.p2
have ob:a.bk≠a.wv:=jK hb.o hb.w (by intro z;cases z)
have ol:a.bk≠a.lv:=jK hb.o hb.l (by intro z;cases z)
have wl:a.wv≠a.lv:=jK hb.w hb.l (by intro z;cases z)
have wf:a.fi≠a.wv:=jK hb.f hb.w (by intro z;cases z)
have wb:a.bo≠a.wv:=jK hb.b hb.w (by intro z;cases z)
refine⟨_,(qD (j8 (q4H (qBU hu (pv 1) (qJ (pv 0) rfl))) (qB (qV (i:=2) q0Z.nd rfl (Or.inl rfl) (qBX (qJ (pv 0) rfl) (pv 1) ⟨rfl,rfl,rfl,rfl⟩)) (qD (q44 (qJ (pv 0) rfl) (qM yD (pv 2) (qJ (pv 0) rfl)) q2E qI qF5 zQ))) qL)),?_⟩
try dsimp-beta-proj-iota-zeta-eta only[wishK,cxK]
refine⟨_,rfl,_,rfl,a.bk,_,a.dx,_,_,rfl,hb.o,T.aI,T.aU,rfl,a.wv,_,rfl,DGet.k (k:=Sum.inl n) hb.w,_,rfl,?_⟩
rcases QM.find_V (m:=m) (n:=n)with⟨p,hp,ef⟩|⟨hn,ef⟩
·have hv:(n,p)∈m.V:=hp;rw[q18 ok.nd hv];refine iteT ?_;refine⟨_,rfl,a.bk,_,a.dx,_,_,rfl,hb.o,T.aI,T.aU,rfl,a.wv,rfl,.inl ⟨_,.inl hb.w⟩,_,rfl,_,Sum.inl n,_,hb.w,rfl,q18 ok.nd hv,?_⟩;rw[qCL];have k1:Keep [a.wv,a.lv] H (upd H a.wv (.dK (dI (yE m.V n)))):=Keep.upd hb.w (λ_ z=>by cases z) (by simp);have w1:(upd H a.wv (.dK (dI (yE m.V n)))) a.wv=some (.dK (dI (yE m.V n))):=qH;have u1:∀b o,b≠a.wv→H b=some o→(upd H a.wv (.dK (dI (yE m.V n)))) b=some o:=λb o nb e=>by rw[qC nb];exact e
 generalize upd H a.wv (.dK (dI (yE m.V n)))=H1 at k1 w1 u1 ⊢;obtain⟨c,hc,ec⟩:=ok.blk _ hp;have ec:p / (m.P:Int)=(c:Int):=ec;have hcl:c<m.lv.length:=by rw[ok.ll];exact hc
 have l1:=u1 _ _ wl.symm hb.l;refine⟨_,rfl,a.bk,_,a.dx,_,_,rfl,u1 _ _ ob hb.o,T.aI,T.fH,rfl,_,rfl,_,rfl,a.bk,_,a.dx,_,_,rfl,u1 _ _ ob hb.o,T.aI,T.eM,rfl,_,_,rfl,rfl,⟨by lia,by lia⟩,a.lv,_,_,_,rfl,rfl,SqL.of l1,(by rw[ec];exact atV hcl),_,_,rfl,rfl,a.lv,_,_,c,rfl,rfl,l1,(by rw[ec];exact q75 (by rw[hV];exact hcl)),?_⟩;rw[setV];have el:(m.forget n).lv=m.lv.set c (m.lv.getD c 0-1):=by show BM.lvF m.P m.V m.lv n=_;unfold BM.lvF;rw[ef];show m.lv.set (p / (m.P:Int)).toNat (m.lv.getD (p / (m.P:Int)).toNat 0-1)=_;rw[ec,show((c:Int)).toNat=c by lia]
 refine q _ ⟨?_,?_,?_,?_,?_⟩ (k1.trans (Keep.upd l1 (λ_ z=>by cases z) (by simp)))
 ·rw[qC ol];exact u1 _ _ ob hb.o
 ·rw[qC wl];exact w1
 ·rw[el];exact qH
 ·rw[qC ds.lf.symm];exact u1 _ _ wf hb.f
 rw[qC ds.lb.symm];exact u1 _ _ wb hb.b
rw[zW (λz=>by obtain⟨r,hr',e⟩:=mB.mp z;exact hn r hr' e)]
refine iteF ?_
have el:(m.forget n).lv=m.lv:=by show BM.lvF m.P m.V m.lv n=_;unfold BM.lvF;rw[ef]
have eV:(m.forget n).V=m.V:=qE2 λr hr'=>hn r hr'
exact q H ⟨hb.o,by rw[eV];exact hb.w,by rw[el];exact hb.l,hb.f,hb.b⟩ Keep.refl)
theorem q12{V:Mp}:(dI V).length=V.length:=by unfold dI;rw[hV]
noncomputable def spNt(t:Adr):Sp:=λvs H Q _=>∃a,∃m:QM,∃b f n,vs=[.ref a.bk,.int ((b*m.P+f:Nat):Int),.int n]∧BkAt t H a m∧m.Ok∧Dst a∧b<m.B∧f<m.P∧m.fi.getD b 0=(f:Int)∧∀H',BkAt t H' a (m.put b f n)→Keep [a.bk,a.wv,a.lv,a.fi,a.bo] H H'→Q .non H'
theorem q7O(T:Txt K mg t)(S:Fns K t):S.oZ.Ok0 P w mg base 2 (spNt t):=by(
refine S.oZ.F.ok0 q2T λcdv A _ s H vs Q E hr h=>?_
obtain⟨a,m,b,f,n,rfl,hb,ok,ds,hB,hf,ef,q⟩:=h
have hu:=uT hr
have p1:=ok.p1
have p2:=ok.p2
have ob:a.bk≠a.wv:=jK hb.o hb.w (by intro z;cases z)
have ol:a.bk≠a.lv:=jK hb.o hb.l (by intro z;cases z)
have of':a.bk≠a.fi:=jK hb.o hb.f (by intro z;cases z)
have oo:a.bk≠a.bo:=jK hb.o hb.b (by intro z;cases z)
have wl:a.wv≠a.lv:=jK hb.w hb.l (by intro z;cases z)
have wf:a.fi≠a.wv:=jK hb.f hb.w (by intro z;cases z)
have wb:a.bo≠a.wv:=jK hb.b hb.w (by intro z;cases z)
have eb:((b*m.P+f:Nat):Int) / (m.P:Int)=(b:Int):=by rw[←nH,q73 hf]
refine⟨_,(qB (qV (i:=3) q2T.nd rfl (Or.inl rfl) (qM yD (pv 1) (qJ (pv 0) rfl))) (qB (jA (jB (pv 0) T.aI T.xH (q5D T S).mono hr S.fW.b .nil qK (qA (pv 2) qE))) (qB (uP hu (qJ (pv 0) rfl) (pv 2) (pv 1) rfl) (qB (q44 (qJ (pv 0) rfl) (pv 3) q2E qI q6V zQ) (vW (j8 (j9 v9 (jQ jR (qJ (pv 0) rfl) (pv 3) (λ_ _=>rfl)) qI (qZ _)) (qD (q8X (qJ (pv 0) rfl) (qBA (qJ (pv 0) rfl) (pv 3) zQ))) qL) (qB (q44 (qJ (pv 0) rfl) (pv 3) q2E qI q6V zQ) (qD (qAO (pv 0) qI qBJ)))))))),?_⟩
try dsimp-beta-proj-iota-zeta-eta only[wishK,cxK]
refine⟨_,rfl,_,rfl,a.bk,_,a.dx,_,_,rfl,hb.o,T.aI,T.eM,rfl,_,_,rfl,rfl,⟨by lia,by lia⟩,?_⟩
try dsimp only
rw[eb]
refine⟨_,rfl,a.bk,a.dx,_,rfl,hb.o,rfl,_,rfl,a,m,n,rfl,hb,ok,ds,λH1 hb1 k1=>?_⟩
have k1:Keep [a.bk,a.wv,a.lv,a.fi,a.bo] H H1:=k1.mono (by intro x hx;simp at hx ⊢;rcases hx with rfl|rfl<;>simp)
have lnV:(yE m.V n).length≤65:=mI (gD _ _) ok.lenV
have w0:H1 a.wv=some (.dK (dI (yE m.V n))):=hb1.w
refine⟨_,rfl,iV rfl (iF hb1.o T.aI T.aU rfl ⟨_,rfl,a.wv,_,rfl,.inl ⟨_,Sum.inl n,w0,rfl,(by rw[q12];exact cG (m:=65) (by lia) (by decide)),rfl⟩,?_⟩)⟩
rw[q76,qAZ]
have k2:Keep [a.bk,a.wv,a.lv,a.fi,a.bo] H1 (upd H1 a.wv (.dK (dI (yE m.V n++[(n,((b*m.P+f:Nat):Int))])))):=Keep.upd w0 (λ_ z=>by cases z) (by simp)
have w2:(upd H1 a.wv (.dK (dI (yE m.V n++[(n,((b*m.P+f:Nat):Int))])))) a.wv=some (.dK (dI (yE m.V n++[(n,((b*m.P+f:Nat):Int))]))):=qH
have u2:∀x o,x≠a.wv→H1 x=some o→(upd H1 a.wv (.dK (dI (yE m.V n++[(n,((b*m.P+f:Nat):Int))])))) x=some o:=λx o nb e=>by rw[qC nb];exact e
generalize upd H1 a.wv (.dK (dI (yE m.V n++[(n,((b*m.P+f:Nat):Int))])))=H2 at k2 w2 u2 ⊢
have o2:=u2 _ _ ob hb1.o
have l2:H2 a.lv=some (.lst ((BM.lvF m.P m.V m.lv n).map V.int)):=u2 _ _ wl.symm hb1.l
have f2:H2 a.fi=some (.lst (m.fi.map V.int)):=u2 _ _ wf hb1.f
have b2:H2 a.bo=some (.lst (m.bo.map V.int)):=u2 _ _ wb hb1.b
have hbl:b<(BM.lvF m.P m.V m.lv n).length:=by rw[show(BM.lvF m.P m.V m.lv n).length=m.B from(ok.forget n).ll];exact hB
have hbf:b<m.fi.length:=by rw[ok.lf];exact hB
have hbo:b<m.bo.length:=by rw[ok.lo];exact hB
refine⟨_,rfl,a.bk,_,a.dx,_,_,rfl,o2,T.aI,T.fH,rfl,_,rfl,a.lv,_,_,_,rfl,rfl,SqL.of l2,atV hbl,_,_,rfl,rfl,a.lv,_,_,b,rfl,rfl,l2,q75 (by rw[hV];exact hbl),?_⟩
rw[setV]
have k3:Keep [a.bk,a.wv,a.lv,a.fi,a.bo] H2 (upd H2 a.lv (.lst (((BM.lvF m.P m.V m.lv n).set b ((BM.lvF m.P m.V m.lv n).getD b 0+1)).map V.int))):=Keep.upd l2 (λ_ z=>by cases z) (by simp)
have l3:(upd H2 a.lv (.lst (((BM.lvF m.P m.V m.lv n).set b ((BM.lvF m.P m.V m.lv n).getD b 0+1)).map V.int))) a.lv=some (.lst (((BM.lvF m.P m.V m.lv n).set b ((BM.lvF m.P m.V m.lv n).getD b 0+1)).map V.int)):=qH
have u3:∀x o,x≠a.lv→H2 x=some o→(upd H2 a.lv (.lst (((BM.lvF m.P m.V m.lv n).set b ((BM.lvF m.P m.V m.lv n).getD b 0+1)).map V.int))) x=some o:=λx o nb e=>by rw[qC nb];exact e
generalize upd H2 a.lv (.lst (((BM.lvF m.P m.V m.lv n).set b ((BM.lvF m.P m.V m.lv n).getD b 0+1)).map V.int))=H3 at k3 l3 u3 ⊢
have o3:=u3 _ _ ol o2
have w3:=u3 _ _ wl w2
have f3:=u3 _ _ ds.lf.symm f2
have b3:=u3 _ _ ds.lb.symm b2
refine⟨λσ' H'=>σ'=[some (.ref a.bk),some (.int ((b*m.P+f:Nat):Int)),some (.int n),some (.int (b:Int))]∧Keep [a.bk,a.wv,a.lv,a.fi,a.bo] H3 H'∧H' a.bo=some (.lst ((m.put b f n).bo.map V.int))∧∀x o,x≠a.bo→H3 x=some o→H' x=some o,?_,?_⟩
·refine⟨_,rfl,a.bk,_,a.dx,_,_,rfl,o3,T.aI,T.aS,rfl,_,rfl,a.fi,_,_,_,rfl,rfl,SqL.of f3,atV hbf,rfl,_,rfl,?_⟩;rw[zD];by_cases z:m.fi.getD b 0=0
 ·rw[hI z];refine iteT ?_;refine⟨_,rfl,a.bk,_,a.dx,_,_,rfl,o3,T.aI,T.bN,rfl,_,rfl,a.bk,_,a.dx,_,_,rfl,o3,T.aI,T.i9,rfl,_,rfl,a.bo,_,_,b,rfl,rfl,b3,q75 (by rw[hV];exact hbo),?_⟩;rw[setV];refine⟨rfl,Keep.upd b3 (λ_ z=>by cases z) (by simp),?_,λx o nb e=>by rw[qC nb];exact e⟩;rw[qH];show _=some (HO.lst ((if m.fi.getD b 0=0 then m.bo.set b m.nx else m.bo).map V.int));rw[kJ z];rfl
 rw[hG z];refine iteF ⟨rfl,Keep.refl,?_,λx o _ e=>e⟩;show _=some (HO.lst ((if m.fi.getD b 0=0 then m.bo.set b m.nx else m.bo).map V.int));rw[kI z];exact b3
rintro σ' H4 ⟨rfl,k4,b4,u4⟩
have o4:=u4 _ _ oo o3
have w4:=u4 _ _ wb.symm w3
have l4:=u4 _ _ ds.lb l3
have f4:=u4 _ _ ds.fb f3
refine⟨_,rfl,a.bk,_,a.dx,_,_,rfl,o4,T.aI,T.aS,rfl,_,rfl,a.fi,_,_,_,rfl,rfl,SqL.of f4,atV hbf,_,_,rfl,rfl,a.fi,_,_,b,rfl,rfl,f4,q75 (by rw[hV];exact hbf),?_⟩
rw[setV]
have k5:Keep [a.bk,a.wv,a.lv,a.fi,a.bo] H4 (upd H4 a.fi (.lst ((m.fi.set b (m.fi.getD b 0+1)).map V.int))):=Keep.upd f4 (λ_ z=>by cases z) (by simp)
have f5:(upd H4 a.fi (.lst ((m.fi.set b (m.fi.getD b 0+1)).map V.int))) a.fi=some (.lst ((m.fi.set b (m.fi.getD b 0+1)).map V.int)):=qH
have u5:∀x o,x≠a.fi→H4 x=some o→(upd H4 a.fi (.lst ((m.fi.set b (m.fi.getD b 0+1)).map V.int))) x=some o:=λx o nb e=>by rw[qC nb];exact e
generalize upd H4 a.fi (.lst ((m.fi.set b (m.fi.getD b 0+1)).map V.int))=H5 at k5 f5 u5 ⊢
have o5:=u5 _ _ of' o4
refine⟨_,rfl,a.bk,_,a.dx,_,_,rfl,o5,T.aI,T.bN,rfl,_,_,rfl,rfl,a.dx,_,o5,by show 7<1000;decide,?_⟩
refine q _ ⟨?_,?_,?_,?_,?_⟩ ((((k1.trans k2).trans k3).trans k4).trans (k5.trans (Keep.upd o5 (λ_ z=>by cases z) (by simp))))
·exact qH
·rw[qC ob.symm];exact u5 _ _ wf.symm w4
·rw[qC ol.symm];exact u5 _ _ ds.lf l4
·rw[qC of'.symm];exact f5
rw[qC oo.symm]
exact u5 _ _ ds.fb.symm b4)
noncomputable def lamE:Expr:=match((jY jU).getLast?:Option Stmt)with
|some (Stmt.Return (some (Expr.Call _ _ (k::_) _)) _)=>k.value
|_=>Expr.Name "" ⟨0,0,0,0⟩
noncomputable abbrev lamA:Arguments:=match lamE with
| .Lambda a _ _ _=>a
|_=>yH jU
noncomputable abbrev lamB:Expr:=match lamE with
| .Lambda _ b _ _=>b
|_=>lamE
noncomputable abbrev qCY:Scope:=match lamE with
| .Lambda _ _ s _=>s
|_=>qG jU
noncomputable abbrev lamP:Pos:=match lamE with
| .Lambda _ _ _ p=>p
|_=>⟨0,0,0,0⟩
noncomputable abbrev lamQ:Str:=(PyProof.Rows.envOfC "Plain.free" (qG jU) 0 0 .none).qual++"<lambda>"
noncomputable abbrev q5E(clos:List (Str×Addr))(pm ct:Value)(c:Addr):FuncData:=W.kla_fn "<lambda>" lamQ lamA lamB qCY clos pm (.ref c) ct
noncomputable def tri(c:Addr):Array Value:=#[rawInt lamP.line,rawInt lamP.col,.ref c]
noncomputable def TbF(t:Adr)(H:Hp):Prop:=∃ps,H t.aA=some (.tbl ps)∧(ps=#[]∨∃c,ps=tri c∧H c=some (cdO c lamQ))
theorem TbF.same{t:Adr}{H H':Hp}(s:Same H H')(h:TbF t H):TbF t H':=by(
obtain⟨ps,hT,h⟩:=h
refine⟨ps,s _ _ hT,?_⟩
rcases h with h|⟨c,h,a⟩
·exact .inl h
exact .inr ⟨c,h,s _ _ a⟩)
structure Sto where
s:Addr
sd:Addr
tm:Addr
td:Addr
c:Addr
a:CA
k:BkA
noncomputable def bf(k:BkA):List Addr:=[k.bk,k.wv,k.lv,k.fi,k.bo]
noncomputable def sf(x:Sto):List Addr:=foot x.c x.a++bf x.k
structure Fit(m:CM)(q:QM):Prop where
ok:m.Ok
oq:q.Ok
eB:m.bl=(q.B:Int)
eP:m.pg=(q.P:Int)
structure StAt(t:Adr)(H:Hp)(x:Sto)(r2 r3 r4 r5:V)(m:CM)(q:QM):Prop where
o:H x.s=some (.ins t.C_Plain x.sd [("chip",.ref x.c),("terms",.ref x.tm),("book",.ref x.k.bk)])
te:H x.tm=some (.ins t.C_Terms x.td (teF (.int m.bl) (.int m.pg) r2 r3 r4 r5))
ch:ChipAt t.C_Chip H x.c x.a m
bk:BkAt t H x.k q
tb:TbF t H
ds:Dst x.k
d1:∀b∈x.a.li::foot x.c x.a,b∉bf x.k
d2:∀b∈[x.s,x.tm],b∉sf x
section
variable{H H':Hp}{x:Sto}{r2 r3 r4 r5:V}{m:CM}{q:QM}
theorem StAt.same(h:StAt t H x r2 r3 r4 r5 m q)(s:Same H H'):StAt t H' x r2 r3 r4 r5 m q:=⟨s _ _ h.o,s _ _ h.te,h.ch.same s,h.bk.same s,h.tb.same s,h.ds,h.d1,h.d2⟩
theorem TbF.ne(h:TbF t H){b:Addr}{o:HO}(e:H b=some o)(n:∀ps,o≠ .tbl ps):b≠t.aA:=λz=>by obtain⟨ps,hT,_⟩:=h;rw[z,hT]at e;exact n ps (kP e).symm
theorem StAt.nT(h:StAt t H x r2 r3 r4 r5 m q):∀b∈[x.s,x.tm]++(x.a.li::sf x),b∉[t.aA]:=by(
intro b hb z
have z:b=t.aA:=by simpa using z
have ne:∀{b:Addr} {o:HO},H b=some o→(∀ps,o≠ .tbl ps)→b≠t.aA:=λe n=>h.tb.ne e n
obtain⟨rs,er,_⟩:=h.ch.rc
have hb:b=x.s∨b=x.tm∨b=x.a.li∨b=x.c∨b=x.a.bo∨b=x.a.cl∨b=x.a.dc∨b=x.a.br∨b=x.a.rc∨b=x.k.bk∨b=x.k.wv∨b=x.k.lv∨b=x.k.fi∨b=x.k.bo:=by simpa[sf,bf,foot]using hb
rcases hb with y|y|y|y|y|y|y|y|y|y|y|y|y|y<;>rw[y]at z
·exact ne h.o (λ_ z=>by cases z) z
·exact ne h.te (λ_ z=>by cases z) z
·exact ne h.ch.li (λ_ z=>by cases z) z
·exact ne h.ch.ins (λ_ z=>by cases z) z
·exact ne h.ch.bo (λ_ z=>by cases z) z
·exact ne h.ch.cl (λ_ z=>by cases z) z
·exact ne h.ch.dc (λ_ z=>by cases z) z
·exact ne h.ch.br (λ_ z=>by cases z) z
·exact ne er (λ_ z=>by cases z) z
·exact ne h.bk.o (λ_ z=>by cases z) z
·exact ne h.bk.w (λ_ z=>by cases z) z
·exact ne h.bk.l (λ_ z=>by cases z) z
·exact ne h.bk.f (λ_ z=>by cases z) z
exact ne h.bk.b (λ_ z=>by cases z) z)
theorem StAt.keep(h:StAt t H x r2 r3 r4 r5 m q){F:List Addr}(k:Keep F H H')(n:∀b∈[x.s,x.tm]++(x.a.li::sf x),b∉F)(tb:TbF t H'):StAt t H' x r2 r3 r4 r5 m q:=⟨k.k _ _ (n _ (by simp)) h.o,k.k _ _ (n _ (by simp)) h.te,h.ch.keep k (λb hb=>n b (by
  rcases kR.mp hb with rfl|hb
  ·simp
  ·simp[sf,hb])),h.bk.keep k (λb hb=>n b (by
  have hb:b∈bf x.k:=hb;simp[sf,hb])),tb,h.ds,h.d1,h.d2⟩
theorem StAt.kT(h:StAt t H x r2 r3 r4 r5 m q)(k:Keep [t.aA] H H')(tb:TbF t H'):StAt t H' x r2 r3 r4 r5 m q:=h.keep k h.nT tb
end
noncomputable def spGd(t:Adr):Sp:=λvs H Q _=>∃x r2 r3 r4 r5 m q,vs=[.ref x.s]∧StAt t H x r2 r3 r4 r5 m q∧Fit m q∧NewO H (.lst ((vL q.B m.br).map vn)) Q
theorem q1R(T:Txt K mg t)(S:Fns K t):S.fM.Ok0 P w mg base 5 (spGd t):=by(
refine S.fM.F.ok0 q5Q λcdv A _ s H vs Q E hr h=>?_
obtain⟨x,r2,r3,r4,r5,m,q,rfl,hs,ft,k⟩:=h
have b2:=ft.oq.b2
have eB:=ft.eB
refine⟨_,(qD (qO (yY ["self","block"] [0] rfl (vD rfl T.iN (qA (qJ (qJ (pv 0) rfl) rfl) qE)) (λ_ _ _ _ _=>(qY (i:=1) (show List.Nodup (["self","block"]:List Str)from by decide) rfl (Or.inl rfl))) (λ_ _ _ _ _=>(q49 (jO (jF (jB (q2L (K:=K) rfl (pv 0) rfl) T.aE T.xB (q5C T S).mono hr S.fU.b .nil qK (qA (pv 1) qE)))))) (λ_ _ _ _ _=>(pv 1)) (by kernel_rfl) (y3 (by decide))))),?_⟩
try dsimp-beta-proj-iota-zeta-eta only[wishK,cxK]
refine(iV rfl (iF hs.o T.aB T.aN rfl (iF hs.te T.aM T.bH rfl ⟨m.bl,rfl,by lia,by lia,λD H2 nD s2 hD=>?_⟩)))
refine qB0 (D:=D) (λi H3=>Same H H3∧H3 D=some (.lst (((List.range i).filter λb=>!(m.br.getD b false)).map vn))) ⟨s2,hD⟩ (λi H3 hi hp=>?_) (λH3 hp=>?_)
·obtain⟨sm,hd⟩:=hp;have hi:i<q.B:=by lia
 have h3:=hs.same sm;refine(iV rfl (iF h3.o T.aB T.aL rfl (iM h3.ch.ins rfl ⟨_,rfl,x.c,x.a,m,_,rfl,h3.ch,ft.ok,by lia,by lia,?_⟩)));rw[show(0+(i:Int)).toNat=i by lia,dX];refine⟨_,rfl,?_⟩;rw[gN,rB,mE];cases z:m.br.getD i false with
 |true=>refine iteF ⟨sm,?_⟩;rw[hd,gW,z];simp
 |false=>
  refine iteT ?_;refine⟨_,rfl,_,hd,?_,λb o e=>?_,?_⟩
  ·rw[hV];have:((List.range i).filter λb=>!(m.br.getD b false)).length≤i:=mI (gD _ _) (by rw[mL];exact kH _);have:(16:Nat)<sizeLine:=by decide
   lia
  ·rw[qC (qF e nD)];exact sm _ _ e
  rw[qH,gW,z];rfl
obtain⟨sm,hd⟩:=hp
rw[show m.bl.toNat=q.B by lia]at hd
exact k D H3 nD sm hd)
noncomputable def spLm(t:Adr)(x:Sto)(g c:Addr)(fd:FuncData):Sp:=λvs H Q _=>∃r2 r3 r4 r5,∃m:CM,∃q:QM,∃b:Nat,vs=[.int (b:Int)]∧StAt t H x r2 r3 r4 r5 m q∧Fit m q∧b<q.B∧H g=some (fnO g fd)∧H c=some (cdO c lamQ)∧∀tp H',H tp=none→Same H H'→H' tp=some (.tup [.int (m.cl.getD b 0),.int (b:Int)])→Q (.ref tp) H'
theorem qGN(T:Txt K mg t)(S:Fns K t){g c ca:Addr}{pm ct:Value}{x:Sto}(hc:base.IsCell ca (some (.ref x.s))):
 FnOk P w K mg base CX0 5 g (q5E [("self",ca)] pm ct c) ["block"] (spLm t x g c (q5E [("self",ca)] pm ct c)):=by(
refine qDV (k:=4) (x0:="block") (fvs:=[.ref x.s]) (qB1 (u:=.ref x.s) rfl rfl rfl (by decide+kernel) (by decide+kernel) (by decide+kernel) rfl hc) (λvs H Q E h=>?_) (λvs H Q E h=>?_) (λA outer s H v0 Q E hr h=>?_)
·repeat obtain⟨_,h⟩:=h
 all_goals subst_vars;rfl
·obtain⟨r2,r3,r4,r5,m,q,b,rfl,_,_,_,a,d,_⟩:=h;exact⟨a,d⟩
obtain⟨r2,r3,r4,r5,m,q,b,e,hs,ft,hb,_,_,k⟩:=h
obtain rfl:v0=.int (b:Int):=by simpa using e
have eB:=ft.eB
refine⟨_,vV (qA (jB (qJ (pv 1) rfl) T.aE T.tV (q42 T S).mono hr S.fG.b .nil qK (qA (pv 0) qE)) (qA (pv 0) qE)),?_⟩
refine(iV rfl (iF hs.o T.aB T.aL rfl (iM hs.ch.ins rfl ⟨_,rfl,x.c,x.a,m,_,rfl,hs.ch,ft.ok,by lia,by lia,?_⟩)))
rw[g7]
exact⟨_,rfl,sz2,k⟩)
theorem qB7{clos:List (Str×Addr)}{c:Addr}{pm ct:Value}:yC K (q5E clos pm ct c) ["block"] []:=yC.all λus hl=>match us,hl with| [_],_=>rfl
theorem qEI{t:Adr}{H:Hp}(h:TbF t H):∃ps,H t.aA=some (.tbl ps)∧TriplesOk ps.toList∧((codeAmong lamP ps.toList=none∧∀c H',H' t.aA=some (.tbl (ps++tri c))→H' c=some (cdO c lamQ)→TbF t H')∨∃c,codeAmong lamP ps.toList=some (.ref c)∧H c=some (cdO c lamQ)):=by(
obtain⟨ps,hT,h⟩:=h
rcases h with rfl|⟨c,rfl,a⟩
·exact⟨_,hT,trivial,.inl ⟨rfl,λc H' e1 e2=>⟨_,e1,.inr ⟨c,rfl,e2⟩⟩⟩⟩
exact⟨_,hT,trivial,.inr ⟨c,rfl,a⟩⟩)
theorem q6R(T:Txt K mg t)(S:Fns K t){cells:List (Str×Addr)}{σ:St}{H4:Hp}{D f c':Addr}{x:Sto}{r2 r3 r4 r5:V}{m:CM}{q:QM}{clos:List (Str×Addr)}{pm ct:Value}{Q:VK}(hσ:σ[0]?=some (some (.ref x.s)))(hcl:∀ca,cells.lookup ("self":Str)=some ca→clos=[(("self":Str),ca)])
 (hs:StAt t H4 x r2 r3 r4 r5 m q) (ft:Fit m q) (hD:H4 D=some (.lst ((yL q.B m.br q.fi).map vn))) (hf:H4 f=some (fnO f (q5E clos pm ct c'))) (hc:H4 c'=some (cdO c' lamQ)) (k:∀l p H',FreeIs q.B m.br m.cl q.fi l→H4 p=none→Same H4 H'→H' p=some (.lst (l.map vn))→Q (.ref p) H'):
 ∃(f':Addr) (fd:FuncData) (sp:Heap→Sp),V.ref f=.ref f'∧(∀base',(∀b o,base.get? b=some o→base'.get? b=some o)→q4X cells σ base' [(0,"self")]→FnOk P w K mg base' CX0 5 f' fd ["block"] (sp base'))∧yC K fd ["block"] []∧∃(l:Addr) (us:List V) (Pv:Nat→List V→Hp→Prop),[V.ref D]=[.ref l]∧SqL K H4 l us∧us.length<64∧Pv 0 [] H4∧(∀base' i x zs H',q4X cells σ base' [(0,"self")]→us[i]?=some x→Pv i zs H'→sp base' [x] H' (λz H''=>Pv (i+1) (zs++[z]) H'') E0)∧∀zs H',zs.length=us.length→Pv us.length zs H'→∃kk m,Paired (TupI K H') zs kk∧(∀k∈kk,k.length=m)∧0<m∧∀q:List Nat,q.Perm (List.range us.length)→(q.map λi=>kk.getD i []).Pairwise (λa b=>lx b a=false)→NewO H' (.lst (q.map λi=>us.getD i .non)) Q:=by(
have b2:=ft.oq.b2
have ln:=qB3 (B:=q.B) (br:=m.br) (fi:=q.fi)
refine⟨f,q5E clos pm ct c',λ_=>spLm t x f c' (q5E clos pm ct c'),rfl,λbase' _ cv=>?_,qB7,D,_,λi zs H'=>Same H4 H'∧Paired (TupD H') zs (((yL q.B m.br q.fi).take i).map (keyN m.cl)),rfl,SqL.of hD,by rw[hV];lia,⟨Same.refl H4,.nil⟩,λbase' i y zs H' _ hy hp=>?_,λzs H' lz hp=>?_⟩
·obtain⟨ca,u,hk,ru,hcell⟩:=cv (0,"self") (kC.mpr rfl) (.ref x.s) hσ;obtain rfl:u=Value.ref x.s:=ru;rw[hcl ca hk];exact qGN T S hcell
·obtain⟨sm,pr⟩:=hp;rw[mC]at hy;obtain⟨b,hb,rfl⟩:=mY.mp hy;have mb:=q6N.mp (gH hb);refine⟨r2,r3,r4,r5,m,q,b,rfl,hs.same sm,ft,mb.1.1,sm _ _ hf,sm _ _ hc,λtp H5 ntp s5 e5=>⟨sm.trans s5,?_⟩⟩;rw[q6O (f:=keyN m.cl) hb];exact L2.Paired.snoc (q9B pr s5) ⟨tp,rfl,e5⟩
obtain⟨sm,pr⟩:=hp
rw[hV,dG]at pr
refine⟨_,2,qE5 pr,λk hk=>?_,by decide,λq' p1 p2 p H5 np s5 e5=>?_⟩
·obtain⟨b,_,rfl⟩:=mB.mp hk;rfl
rw[hV]at p1
have hin:∀i∈q',i<(yL q.B m.br q.fi).length:=λi hi=>kW.mp (p1.mem_iff.mp hi)
rw[q52 (e:=0) hin]at e5
exact k _ p H5 (qEB p1 p2) (Same.free sm np) (sm.trans s5) e5)
noncomputable def spFr(t:Adr):Sp:=λvs H Q _=>∃x r2 r3 r4 r5 m q,vs=[.ref x.s]∧StAt t H x r2 r3 r4 r5 m q∧Fit m q∧∀l p H',FreeIs q.B m.br m.cl q.fi l→H p=none→Keep [t.aA] H H'→TbF t H'→H' p=some (.lst (l.map vn))→Q (.ref p) H'
theorem q1S(T:Txt K mg t)(S:Fns K t)(B:BmIn base mg):FnOk P w K mg base (CX0) 8 t.f_Plain_free S.eT ["self"] (spFr t):=by(
refine S.aAA.ok0 q1O λA _ s H vs Q E hr h=>?_
obtain⟨x,r2,r3,r4,r5,m,q,rfl,hs,ft,k⟩:=h
have b2:=ft.oq.b2
have eB:=ft.eB
refine⟨_,(qB (q2I (i:=1) ["self","block"] [0] rfl (yA (jG (pv 0) T.aB T.iZ (q1R T S).mono hr S.fM.b .nil qK)) (λ_ _ _ _ _=>(qY (i:=1) (show List.Nodup (["self","block"]:List Str)from by decide) rfl (Or.inl rfl))) (λ_ _ _ _ _=>(q49 (j9 v9 (jQ (qCB (K:=K) rfl) (q2L (K:=K) rfl (q2L (K:=K) rfl (pv 0) rfl) rfl) (pv 1) (λ_ _=>rfl)) qI (qZ _)))) (λ_ _ _ _ _=>(pv 1)) (by kernel_rfl) (y3 (by decide)) q1O.nd rfl (Or.inl rfl)) (qD (qO (q9C (k:=5) (x:="block") [(0,"self")] (by intro p hp;simp only[kR,gQ,wQ]at hp;rcases hp with rfl<;>exact⟨rfl,by kernel_rfl,rfl⟩) hr (by rfl) T.aAU (qE7 rfl T.tY B (qE6 (by kernel_rfl)) rfl) (qA (pv 1) qE))))),?_⟩
try dsimp-beta-proj-iota-zeta-eta only[wishK,cxK]
refine⟨_,rfl,x.s,x.sd,_,rfl,hs.o,rfl,x,r2,r3,r4,r5,m,q,rfl,hs,ft,λp H1 n1 s1 h1=>?_⟩
refine⟨p,rfl,⟨_,SqL.of h1⟩,λD H2 nD s2 hD=>?_⟩
refine q8B (K:=K) (xs:=(vL q.B m.br).map vn) (D:=D) (λi H3=>Same H1 H3∧H3 D=some (.lst ((((vL q.B m.br).take i).filter λb=>decide (q.fi.getD b 0=0)).map vn))) ⟨s2,hD⟩ (λi H3 hp=>SqL.of (hp.1 _ _ h1)) (λi y H3 hy hp=>?_) (λH3 hp=>?_)
·obtain⟨sm,hd⟩:=hp;have h3:=(hs.same s1).same sm;rw[mC]at hy;obtain⟨b,hb,rfl⟩:=mY.mp hy;have hi:=(kD.mp hb).1;have mb:=q2M.mp (gH hb);refine(iV rfl (iF h3.o T.aB T.aP rfl (iF h3.bk.o T.aI T.aS rfl ⟨_,rfl,iL (k:=_) (v:=_) (SqL.of h3.bk.f) (atV (by rw[ft.oq.lf];exact mb.1)) ⟨rfl,_,rfl,?_⟩⟩)));rw[zD,←m9 hi,rB,mE];obtain rfl:(vL q.B m.br)[i]=b:=(kD.mp hb).2;by_cases z:q.fi.getD (vL q.B m.br)[i] 0=0
 ·rw[hI z];refine iteT ?_;refine⟨_,rfl,_,hd,?_,λb o e=>?_,?_⟩
  ·rw[hV];have l1:(((vL q.B m.br).take i).filter λb=>decide (q.fi.getD b 0=0)).length≤q.B:=mI (gD _ _) (mI (by rw[dE];lia) (q8I (B:=q.B) (br:=m.br)));have:(16:Nat)<sizeLine:=by decide
   lia
  ·rw[qC (qF e nD)];exact sm _ _ e
  rw[qH,gW,hI z];rfl
 rw[hG z];refine iteF ⟨sm,?_⟩;rw[hd,gW,hG z];simp
obtain⟨sm,hd⟩:=hp
rw[hV,dG]at hd
have hd:H3 D=some (.lst ((yL q.B m.br q.fi).map vn)):=hd
have h3:=(hs.same s1).same sm
refine⟨_,rfl,?_⟩
obtain⟨ps,hT,ht,hc⟩:=qEI h3.tb
have nT:D≠t.aA:=h3.tb.ne hd (λ_ z=>by cases z)
have keep:∀(f c':Addr) (ctv pm:Value) (clos:List (Str×Addr)) (H4:Hp),H4 f=some (fnO f (q5E clos pm ctv c'))→H4 c'=some (cdO c' lamQ)→TbF t H4→(∀b o,b≠t.aA→H3 b=some o→H4 b=some o)→Keep [t.aA] H3 H4:=λf c' ctv pm clos H4 _ _ tb4 kp=>⟨λb o nb e=>kp b o (λz=>nb (by rw[z];simp)) e,λb xs e=>kp b _ (h3.tb.ne e (λ_ z=>by cases z)) e⟩
refine⟨ps,hT,ht,?_⟩
rcases hc with⟨hn,tb⟩|⟨c0,hn,hc0⟩
·refine .inl ⟨hn,λf c' ctv H4 nf hf hc' hT4 kp=>?_⟩;have tb4:=tb c' H4 hT4 hc';have k4:=keep f c' ctv _ _ H4 hf hc' tb4 kp;refine q6R T S rfl (λca hk=>q8H (names:=qCY.names) hk rfl) (h3.kT k4 tb4) ft (kp _ _ nT hd) hf hc' (λl p' H5 hl np s5 e5=>k l p' H5 hl ?_ ?_ (tb4.same s5) e5)
 ·refine Same.free s1 (Same.free sm (k4.none (λz=>?_) np));obtain⟨ps',hT',_⟩:=tb4;rw[kC.mp z,hT']at np;cases np
 exact((Keep.same s1).trans (Keep.same sm)).trans (k4.trans (Keep.same s5))
refine .inr ⟨c0,hn,λf ctv H4 nf hf s4=>?_⟩
refine q6R T S rfl (λca hk=>q8H (names:=qCY.names) hk rfl) (h3.same s4) ft (s4 _ _ hd) hf (s4 _ _ hc0) (λl p' H5 hl np s5 e5=>k l p' H5 hl ?_ ?_ ((h3.tb.same s4).same s5) e5)
·exact Same.free s1 (Same.free sm (Same.free s4 np))
exact Keep.same (((s1.trans sm).trans s4).trans s5))
noncomputable def spPt(t:Adr):Sp:=λvs H Q _=>∃x r2 r3 r4 r5 m q,vs=[.ref x.s]∧StAt t H x r2 r3 r4 r5 m q∧Fit m q∧∀H',Same H H'→Q (oV (q1L q.B q.P m.br q.fi)) H'
theorem qB8{α:Type}{p:α→Bool}{L:List α}{i:Nat}{x:α}(h:L[i]?=some x)(n:(L.take i).find? p=none):(p x=true→L.find? p=some x)∧(p x=false→(L.take (i+1)).find? p=none):=by(
have hi:=(kD.mp h).1
obtain rfl:L[i]=x:=(kD.mp h).2
constructor
·intro hp;have e:L=L.take i++L[i]::L.drop (i+1):=by rw[List.getElem_cons_drop,List.take_append_drop]
 conv=>lhs;arg 2;rw[e]
 rw[sZ,n,g8,hp];rfl
intro hp
rw[←m9 hi,sZ,n,g8,hp]
rfl)
theorem q1T(T:Txt K mg t)(S:Fns K t):S.fN.Ok0 P w mg base 6 (spPt t):=by(
refine S.fN.F.ok0 q1P λcdv A _ s H vs Q E hr h=>?_
obtain⟨x,r2,r3,r4,r5,m,q,rfl,hs,ft,k⟩:=h
refine⟨_,(qB (vG gI rfl (yA (jG (pv 0) T.aB T.iZ (q1R T S).mono hr S.fM.b .nil qK)) (qY (i:=1) q1P.nd rfl (Or.inl rfl)) (qD (j8 (q4J q1J q1J qI (jQ jR (qJ (qJ (pv 0) rfl) rfl) (pv 1) (λ_ _=>rfl)) (qJ (qJ (pv 0) rfl) rfl)) (qD (qO (pv 1))) qL))) (qD (qO yN))),?_⟩
try dsimp-beta-proj-iota-zeta-eta only[wishK,cxK]
refine⟨_,rfl,x.s,x.sd,_,rfl,hs.o,rfl,x,r2,r3,r4,r5,m,q,rfl,hs,ft,λp H1 n1 s1 h1=>?_⟩
refine⟨p,rfl,⟨_,SqL.of h1⟩,?_⟩
refine q0D (K:=K) (xs:=(vL q.B m.br).map vn) (λi σ' H2=>∃y,σ'=[some (.ref x.s),y]∧Same H1 H2∧((vL q.B m.br).take i).find? (zE q.P q.fi)=none) ⟨_,rfl,Same.refl H1,rfl⟩ (λi σ' H2 hi hp=>?_) (λi y σ' H2 hy hp=>?_) (λσ' H2 hp=>?_)
·obtain⟨y,rfl,sm,_⟩:=hp;exact SqL.of (sm _ _ h1)
·obtain⟨y',rfl,sm,hn⟩:=hp;have h3:=(hs.same s1).same sm;rw[mC]at hy;obtain⟨b,hb,rfl⟩:=mY.mp hy;have mb:=q2M.mp (gH hb);obtain⟨y1,y2⟩:=qB8 hb hn;refine(iV rfl (iF h3.o T.aB T.aP rfl (iF h3.bk.o T.aI T.aS rfl ⟨_,rfl,iL (k:=_) (v:=_) (SqL.of h3.bk.f) (atV (by rw[ft.oq.lf];exact mb.1)) ?_⟩)));refine⟨_,_,rfl,rfl,_,rfl,?_⟩;by_cases z1:0<q.fi.getD b 0
 ·rw[hI z1];refine iteT ?_;refine(iV rfl (iF h3.o T.aB T.aN rfl (iF h3.te T.aM T.a9 rfl (iI ⟨_,rfl,?_⟩))));by_cases z2:q.fi.getD b 0<m.pg
  ·rw[hI z2];have z:=k H2 (s1.trans sm);unfold q1L at z;rw[y1 (by unfold zE;rw[hI z1,hI (by rw[←ft.eP];exact z2)];rfl)]at z;exact iteT ⟨_,rfl,z⟩
  rw[hG z2];exact iteF ⟨_,rfl,sm,y2 (by unfold zE;rw[hI z1,hG (by rw[←ft.eP];exact z2)];rfl)⟩
 rw[hG z1];exact iteF ⟨_,rfl,iteF ⟨_,rfl,sm,y2 (by unfold zE;rw[hG z1];rfl)⟩⟩
obtain⟨y',rfl,sm,hn⟩:=hp
rw[hV,dG]at hn
have z:=k H2 (s1.trans sm)
unfold q1L at z
rw[hn]at z
exact z)
noncomputable def spSp(t:Adr):Sp:=λvs H Q _=>∃x r2 r3 r4 r5 m q,vs=[.ref x.s]∧StAt t H x r2 r3 r4 r5 m q∧Fit m q∧∀l H',FreeIs q.B m.br m.cl q.fi l→Keep [t.aA] H H'→TbF t H'→Q (pgV q.P q.fi (vX q.B q.P m.br q.fi l)) H'
theorem q5V(T:Txt K mg t)(S:Fns K t)(B:BmIn base mg):S.iH.Ok0 P w mg base 9 (spSp t):=by(
refine S.iH.F.ok0 zN λcdv A _ s H vs Q E hr h=>?_
obtain⟨x,r2,r3,r4,r5,m,q,rfl,hs,ft,k⟩:=h
refine⟨_,(qB (qV (i:=1) zN.nd rfl (Or.inl rfl) (jG (pv 0) T.aB T.i5 (q1T T S).mono hr S.fN.b .nil qK)) (qB (j8 (j9 q45 (pv 1) yN (qZ _)) (qD (qO (qM yG (qM zT (pv 1) (qJ (qJ (pv 0) rfl) rfl)) (jQ jR (qJ (qJ (pv 0) rfl) rfl) (pv 1) (λ_ _=>rfl))))) qL) (qB (qV (i:=2) zN.nd rfl (Or.inl rfl) (jG (pv 0) T.aB T.i4 (q1S T S B).mono hr S.i3 .nil qK)) (qB (j8 (j9 (qG7 hr.units) (pv 2) (yB qE) (qZ _)) (qD (qO yN)) qL) (qD (qO (qM zT (jQ jR (pv 2) qI (λ_ _=>rfl)) (qJ (qJ (pv 0) rfl) rfl)))))))),?_⟩
try dsimp-beta-proj-iota-zeta-eta only[wishK,cxK]
refine⟨_,rfl,x.s,x.sd,_,rfl,hs.o,rfl,x,r2,r3,r4,r5,m,q,rfl,hs,ft,λH1 s1=>?_⟩
have h1:=hs.same s1
have b2:=ft.oq.b2
have p2:=ft.oq.p2
have eP:=ft.eP
cases hpn:q1L q.B q.P m.br q.fi with
|some b=>
 have hb:=q51 hpn;refine⟨_,rfl,rfl,_,rfl,iteT ?_⟩;refine⟨_,rfl,iV rfl (iF h1.o T.aB T.aN rfl (iF h1.te T.aM T.a9 rfl (iI ⟨.inl ⟨by lia,by lia⟩,?_⟩)))⟩;refine(iV rfl (iF h1.o T.aB T.aP rfl (iF h1.bk.o T.aI T.aS rfl ⟨_,rfl,iL (k:=_) (v:=_) (SqL.of h1.bk.f) (atV (by rw[ft.oq.lf];exact hb.1)) (iI ?_)⟩)));obtain⟨l,hl⟩:=FreeIs.ex q.B m.br m.cl q.fi;have kk:=k l H1 hl (Keep.same s1) h1.tb;unfold vX at kk;rw[hpn]at kk;have e:pgV q.P q.fi (some b)=V.int ((b:Int)*m.pg+q.fi.getD b 0):=by rw[eP];rfl
 have kk:Q (pgV q.P q.fi (some b)) H1:=kk;rw[e]at kk;exact kk
|none=>
 refine⟨_,rfl,rfl,_,rfl,iteF ?_⟩;refine⟨_,rfl,x.s,x.sd,_,rfl,h1.o,rfl,x,r2,r3,r4,r5,m,q,rfl,h1,ft,λl p H2 hl np k2 tb2 h2=>?_⟩;have h2':=h1.kT k2 tb2;refine⟨_,rfl,sz0,λe H3 n3 s3 h3=>⟨p,_,e,rfl,rfl,SqL.of (s3 _ _ h2),SqL.of h3,_,rfl,?_⟩⟩;have h3':=h2'.same s3;have kk:=k l H3 hl (((Keep.same s1).trans k2).trans (Keep.same s3)) (tb2.same s3);unfold vX at kk;rw[hpn]at kk;cases l with
 |nil=>refine iteT ?_;exact kk
 |cons b r=>
  refine iteF ?_;have hb:=hl.mem (kU (a:=b) (l:=r));refine⟨_,rfl,iL (k:=0) (v:=.int (b:Int)) (SqL.of (s3 _ _ h2)) (uE (j:=0) rfl) (iV rfl (iF h3'.o T.aB T.aN rfl (iF h3'.te T.aM T.a9 rfl (iI ⟨.inl ⟨by lia,by lia⟩,?_⟩))))⟩;have e:pgV q.P q.fi ((b::r).head?)=V.int ((b:Int)*m.pg):=by show V.int ((b:Int)*(q.P:Int)+q.fi.getD b 0)=_;rw[hb.2.2,eP,Int.add_zero]
  have kk:Q (pgV q.P q.fi ((b::r).head?)) H3:=kk;rw[e]at kk;exact kk)
theorem q3H(T:Txt K mg t)(S:Fns K t):S.eR.Ok0 P w mg base 1 (λvs H Q _=>∃x,vs=[.ref x]∧Q (.int 0) H):=by refine S.eR.F.ok0 q3E λcdv A _ s H vs Q E hr h=>?_;obtain⟨x,rfl,q⟩:=h;exact⟨_,(qD (qO qI)),q⟩
theorem qCZ{B P:Nat}{br:List Bool}{fi:List Int}{l:List Nat}:(vX B P br fi l).isSome=(decide (0<l.length)||(q1L B P br fi).isSome):=by(
unfold vX
cases q1L B P br fi with
|some b=>simp
|none=>cases l<;>simp)
noncomputable def spRd(t:Adr):Sp:=λvs H Q _=>∃x r2 r3 r4 r5 m q,vs=[.ref x.s]∧StAt t H x r2 r3 r4 r5 m q∧Fit m q∧∀l H',FreeIs q.B m.br m.cl q.fi l→Keep [t.aA] H H'→TbF t H'→Q (.bl (vX q.B q.P m.br q.fi l).isSome) H'
theorem q5F(T:Txt K mg t)(S:Fns K t)(B:BmIn base mg):S.f7.Ok0 P w mg base 9 (spRd t):=by(
refine S.f7.F.ok0 q10 λcdv A _ s H vs Q E hr h=>?_
obtain⟨x,r2,r3,r4,r5,m,q,rfl,hs,ft,k⟩:=h
refine⟨_,(qB (qV (i:=1) q10.nd rfl (Or.inl rfl) (qM yJ (qP jT (by rfl) T.fY mR (qA (jG (pv 0) T.aB T.i4 (q1S T S B).mono hr S.i3 .nil qK) qE)) (jG (pv 0) T.aB T.tH (q3H T S).mono hr S.eR.b .nil qK))) (qD (qO (qGY (yM qBD (pv 1) qI (qZ _)) (vF (zB (yM v9 (pv 1) qI (qZ _)) (vF (yM q45 (jG (pv 0) T.aB T.i5 (q1T T S).mono hr S.fN.b .nil qK) yN (qZ _))))))))),?_⟩
try dsimp-beta-proj-iota-zeta-eta only[wishK,cxK]
refine(iV rfl (iM hs.o rfl ⟨x,r2,r3,r4,r5,m,q,rfl,hs,ft,λl p H1 hl np k1 tb1 h1=>?_⟩))
have hs1:=hs.kT k1 tb1
refine⟨p,_,rfl,.inl (SqL.of h1),iV rfl (iM hs1.o rfl ⟨x.s,rfl,iI ?_⟩)⟩
refine⟨_,rfl,_,_,rfl,rfl,_,rfl,?_⟩
have kk:=λH' s'=>k l H' hl (k1.trans (Keep.same s')) (tb1.same s')
rw[qCZ]at kk
rw[hV]
by_cases z:0<l.length
·rw[hI (show((l.length:Int)-0>0) by lia)];refine iteT ?_;have:=kk H1 (Same.refl H1);rw[hI z]at this;exact this
rw[hG (show ¬((l.length:Int)-0>0) by lia)]
refine iteF ?_
have e0:(l.length:Int)-0=0:=by lia
refine⟨_,rfl,rfl,_,rfl,?_⟩
rw[zD,hI e0]
refine iteT ?_
refine(iV rfl (iM hs1.o rfl ⟨x,r2,r3,r4,r5,m,q,rfl,hs1,ft,λH2 s2=>⟨rfl,?_⟩⟩))
have:=kk H2 s2
rw[hG z,lN]at this
cases hp:q1L q.B q.P m.br q.fi with
|none=>rw[hp]at this;exact this
|some b=>rw[hp]at this;exact this)
noncomputable def spMr(t:Adr):Sp:=λvs H Q E=>∃x r2 r3 r4 r5 m q,vs=[.ref x.s]∧StAt t H x r2 r3 r4 r5 m q∧Fit m q∧∀l H',FreeIs q.B m.br m.cl q.fi l→Keep [t.aA] H H'→TbF t H'→if(vX q.B q.P m.br q.fi l).isSome=true then Q .non H' else False
theorem q1I(T:Txt K mg t)(S:Fns K t)(B:BmIn base mg):S.bM.Ok0 P w mg base 10 (spMr t):=by(
refine S.bM.F.ok0 q1H λcdv A _ s H vs Q E hr h=>?_
obtain⟨x,r2,r3,r4,r5,m,q,rfl,hs,ft,k⟩:=h
refine⟨_,(qD (j8 (jO (jF (jG (pv 0) T.aB T.xF (q5F T S B).mono hr S.f7.b .nil qK))) (qD qT) qL)),?_⟩
try dsimp-beta-proj-iota-zeta-eta only[wishK,cxK]
refine(iV rfl (iM hs.o rfl ⟨x,r2,r3,r4,r5,m,q,rfl,hs,ft,λl H1 hl k1 tb1=>⟨_,rfl,?_⟩⟩))
have kk:=k l H1 hl k1 tb1
cases z:(vX q.B q.P m.br q.fi l).isSome with
|true=>rw[z,kJ rfl]at kk;exact iteF kk
|false=>rw[z,kI (by decide)]at kk;exact kk.elim)
noncomputable def qEW(t:Adr):Sp:=λvs H Q E=>∃x r2 r3 r4 r5 m q n v,vs=[.ref x.s,.int n,.int v]∧StAt t H x r2 r3 r4 r5 m q∧Fit m q∧Gd m∧m.rc.length<1000000∧∀l,FreeIs q.B m.br m.cl q.fi l→∃b f:Nat,vX q.B q.P m.br q.fi l=some b∧q.fi.getD b 0=(f:Int)∧m.bo.getD (b*q.P+f) .non=.non∧∀tp H',H' tp=some (.tup [.int (q.nx*128+n),.int v])→Keep (t.aA::sf x) H H'→StAt t H' x r2 r3 r4 r5 (putC m (b*q.P+f) (.ref tp)) (q.put b f n)→Q (.int ((b*q.P+f:Nat):Int)) H'
theorem StAt.put{H H':Hp}{x:Sto}{r2 r3 r4 r5:V}{m m':CM}{q:QM}(h:StAt t H x r2 r3 r4 r5 m q)(hc:ChipAt t.C_Chip H' x.c x.a m')(k:Keep (foot x.c x.a) H H')(e1:m'.bl=m.bl)(e2:m'.pg=m.pg):StAt t H' x r2 r3 r4 r5 m' q:=by(
have nf:∀b∈bf x.k,b∉foot x.c x.a:=λb hb z=>h.d1 b (hZ _ z) hb
have n2:∀b∈[x.s,x.tm],b∉foot x.c x.a:=λb hb z=>h.d2 b hb (by unfold sf;exact mD _ z)
obtain⟨ps,hT,hc'⟩:=h.tb
have nT:t.aA∉foot x.c x.a:=λz=>h.nT t.aA (by simp[sf,z]) (by simp)
refine⟨k.k _ _ (n2 _ (by simp)) h.o,by rw[e1,e2];exact k.k _ _ (n2 _ (by simp)) h.te,hc,h.bk.keep k nf,⟨ps,k.k _ _ nT hT,?_⟩,h.ds,h.d1,h.d2⟩
rcases hc' with z|⟨c,z,hcd⟩
·exact .inl z
refine .inr ⟨c,z,k.k _ _ (λy=>?_) hcd⟩
have y:c=x.c∨c=x.a.bo∨c=x.a.cl∨c=x.a.dc∨c=x.a.br∨c=x.a.rc:=by simpa[foot]using y
obtain⟨rs,er,_⟩:=h.ch.rc
rcases y with y|y|y|y|y|y<;>rw[y]at hcd
·rw[h.ch.ins]at hcd;cases hcd
·rw[h.ch.bo]at hcd;cases hcd
·rw[h.ch.cl]at hcd;cases hcd
·rw[h.ch.dc]at hcd;cases hcd
·rw[h.ch.br]at hcd;cases hcd
rw[er]at hcd;cases hcd)
theorem StAt.note{H H':Hp}{x:Sto}{r2 r3 r4 r5:V}{m:CM}{q q':QM}(h:StAt t H x r2 r3 r4 r5 m q)(hb:BkAt t H' x.k q')(k:Keep (bf x.k) H H'):StAt t H' x r2 r3 r4 r5 m q':=by(
have n2:∀b∈[x.s,x.tm],b∉bf x.k:=λb hb z=>h.d2 b hb (by unfold sf;exact kN _ z)
obtain⟨ps,hT,hc'⟩:=h.tb
have nT:t.aA∉bf x.k:=λz=>h.nT t.aA (by simp[sf,z]) (by simp)
refine⟨k.k _ _ (n2 _ (by simp)) h.o,k.k _ _ (n2 _ (by simp)) h.te,h.ch.keep k h.d1,hb,⟨ps,k.k _ _ nT hT,?_⟩,h.ds,h.d1,h.d2⟩
rcases hc' with z|⟨c,z,hcd⟩
·exact .inl z
refine .inr ⟨c,z,k.k _ _ (λy=>?_) hcd⟩
have y:c=x.k.bk∨c=x.k.wv∨c=x.k.lv∨c=x.k.fi∨c=x.k.bo:=by simpa[bf]using y
rcases y with y|y|y|y|y<;>rw[y]at hcd
·rw[h.bk.o]at hcd;cases hcd
·rw[h.bk.w]at hcd;cases hcd
·rw[h.bk.l]at hcd;cases hcd
·rw[h.bk.f]at hcd;cases hcd
rw[h.bk.b]at hcd;cases hcd)
theorem q2X(T:Txt K mg t)(S:Fns K t)(B:BmIn base mg):S.b9.Ok0 P w mg base 10 (qEW t):=by(
refine S.b9.F.ok0 vY λcdv A _ s H vs Q E hr h=>?_
obtain⟨x,r2,r3,r4,r5,m,q,n,v,rfl,hs,ft,gd,hrc,k⟩:=h
refine⟨_,(qB (qV (i:=3) vY.nd rfl (Or.inl rfl) (jG (pv 0) T.aB T.xU (q5V T S B).mono hr S.iH.b .nil qK)) (qB (j8 (j9 qBE (pv 3) yN (qZ _)) (qD qT) qL) (qB (jA (jB (qJ (pv 0) rfl) T.aE T.aA3 (q8Q T S).mono hr S.xE.b .nil qK (qA (pv 3) (qA (vV (qA (jB (qJ (pv 0) rfl) T.aI T.aAK (q7N T S).mono hr S.tL.b .nil qK (qA (pv 1) qE)) (qA (pv 2) qE))) qE q4T)))) (qB (jA (jB (qJ (pv 0) rfl) T.aI T.aAP (q7O T S).mono hr S.oZ.b .nil qK (qA (pv 3) (qA (pv 1) qE)))) (qD (qO (pv 3))))))),?_⟩
try dsimp-beta-proj-iota-zeta-eta only[wishK,cxK]
refine⟨_,rfl,x.s,x.sd,_,rfl,hs.o,rfl,x,r2,r3,r4,r5,m,q,rfl,hs,ft,λl H1 hl k1 tb1=>?_⟩
have hs1:=hs.kT k1 tb1
obtain⟨b,f,hsp,ef,hn,kk⟩:=k l hl
rw[hsp]
obtain⟨hB,hbr,f0,f1⟩:=qCQ hl ft.oq.p1 hsp
have hf:f<q.P:=by lia
have epg:pgV q.P q.fi (some b)=V.int ((b*q.P+f:Nat):Int):=by show V.int ((b:Int)*(q.P:Int)+q.fi.getD b 0)=_;rw[ef,wV,wW]
rw[epg]
refine⟨_,rfl,rfl,_,rfl,iteF ?_⟩
refine(iV rfl (iF hs1.o T.aB T.aL rfl (iM hs1.ch.ins rfl ⟨_,rfl,?_⟩)))
refine(iV rfl (iF hs1.o T.aB T.aP rfl (iM hs1.bk.o rfl ⟨_,rfl,x.k,q,n,rfl,hs1.bk,_,rfl,sz2,λtp H2 n2 s2 e2=>?_⟩)))
have hs2:=hs1.same s2
have hpg:((b*q.P+f:Nat):Int)≤m.bl*m.pg-1:=by rw[ft.eB,ft.eP,←wW];have:b*q.P+f<q.B*q.P:=(Nat.div_lt_iff_lt_mul (by lia)).mp (by rw[q73 hf];exact hB);lia
refine⟨x.c,x.a,m,_,.ref tp,rfl,hs2.ch,ft.ok,hrc,gd,hpg,hn,λH3 hc3 k3=>?_⟩
have hs3:=hs2.put hc3 k3 rfl rfl
refine(iV rfl (iF hs3.o T.aB T.aP rfl (iM hs3.bk.o rfl ⟨_,rfl,_,rfl,x.k,q,b,f,n,rfl,hs3.bk,ft.oq,hs3.ds,hB,hf,ef,λH4 hb4 k4=>⟨_,rfl,?_⟩⟩)))
exact kk tp H4 (k4.tp _ _ (k3.tp _ _ e2)) ((((k1.mono (by simp)).trans (Keep.same s2)).trans (k3.mono (λb hb=>by unfold sf;exact hZ _ (mD _ hb)))).trans (k4.mono (λb hb=>by unfold sf;exact hZ _ (kN _ hb)))) (hs3.note hb4 k4))
theorem q7P(T:Txt K mg t)(S:Fns K t)(B:BmIn base mg):S.oQ.Ok0 P w mg base 11 (qEW t):=by(
refine S.oQ.F.ok0 q7H λcdv A _ s H vs Q E hr h=>?_
obtain⟨x,r2,r3,r4,r5,m,q,n,v,rfl,hs,k⟩:=h
refine⟨_,(qD (qO (jB (pv 0) T.aB T.oE (q2X T S B).mono hr S.b9.b .nil qK (qA (pv 1) (qA (pv 2) qE))))),?_⟩
try dsimp-beta-proj-iota-zeta-eta only[wishK,cxK]
exact⟨_,rfl,x.s,x.sd,_,rfl,hs.o,rfl,_,rfl,_,rfl,x,r2,r3,r4,r5,m,q,n,v,rfl,hs,k⟩)
noncomputable def hdN(W:Mp):List Int:=(W.map (·.1)).filter λn=>decide (n≠64)
noncomputable def spHe(t:Adr):Sp:=λvs H Q _=>∃a,∃m:QM,vs=[.ref a.bk]∧BkAt t H a m∧m.Ok∧(hdN m.V).length<64∧∀l ns H',Same H H'→H l=none→H' l=some (.lst (List.map V.int ns))→ns.Perm (hdN m.V)→ns.Pairwise (·≤·)→Q (.ref l) H'
theorem q7Q(T:Txt K mg t)(S:Fns K t):S.tE.Ok0 P w mg base 1 (spHe t):=by(
refine S.tE.F.ok0 q7G λcdv A _ s H vs Q E hr h=>?_
obtain⟨a,m,rfl,hb,ok,hl64,q⟩:=h
have hu:=uT hr
have lV:m.V.length≤65:=ok.lenV
refine⟨_,(qD (qO (qP q70 (by rfl) T.aAU (by kernel_rfl) (qA (qA3 (yY ["name"] [] rfl (qDW (qJ (pv 0) rfl)) (λ_ _ _ _ _=>(qY (i:=0) (show List.Nodup (["name"]:List Str)from by decide) rfl (Or.inl rfl))) (λ_ _ _ _ _=>(q49 (j9 q3J (pv 0) (uD rfl T.aBL ⟨_,rfl⟩ (v:=.int 64)) (qZ _)))) (λ_ _ _ _ _=>(pv 0)) (by kernel_rfl) (y3 (by decide)))) qE)))),?_⟩
try dsimp-beta-proj-iota-zeta-eta only[wishK,cxK]
refine⟨a.wv,_,hb.w,_,rfl,a.bk,_,a.dx,_,_,rfl,hb.o,T.aI,T.aU,rfl,a.wv,_,rfl,hb.w,λo D H2 nD s2 hD=>?_⟩
have kk:∀x u,x≠a.wv→H x=some u→H2 x=some u:=λx u nx e=>s2 _ _ (by rw[qC nx];exact e)
have fz:H2 a.wv=some (.frz o (.dK (dI m.V))):=s2 _ _ qH
have Dw:D≠a.wv:=λz=>by rw[z,fz]at hD;cases hD
have nDH:H D=none:=by rw[qC Dw]at nD;exact nD
refine qCN (D:=D) (λi H3=>H3 a.wv=some (.frz o (.dK (dI m.V)))∧(∀x u,x≠a.wv→H x=some u→H3 x=some u)∧H3 D=some (.lst ((hdN (m.V.take i)).map V.int))) ⟨fz,kk,hD⟩ (λi H3 hp=>hp.1) (λi kv H3 hk hp=>?_) (λH3 hp=>?_)
·obtain⟨fz3,k3,hd⟩:=hp;have hi:i<m.V.length:=by have:=(kD.mp hk).1;rw[q12]at this;exact this
 obtain rfl:((Sum.inl m.V[i].1:Key),V.int m.V[i].2)=kv:=by
  have e:(dI m.V)[i]?=some ((Sum.inl m.V[i].1:Key),V.int m.V[i].2):=by unfold dI;rw[mC,hX hi];rfl
  rw[e]at hk;exact kP hk
 have tk:m.V.take (i+1)=m.V.take i++[m.V[i]]:=(m9 hi).symm;show vT _ (V.int m.V[i].1) _ _ _;refine⟨_,rfl,rfl,_,rfl,?_⟩;rw[zD];by_cases e:m.V[i].1=64
 ·rw[hI e];refine iteF ?_;refine⟨fz3,k3,?_⟩;have:hdN (m.V.take (i+1))=hdN (m.V.take i):=by unfold hdN;rw[tk,mE,rB];simp[e]
  rw[this];exact hd
 rw[hG e];refine iteT ?_;refine⟨_,rfl,_,hd,?_,?_,λx u nx e'=>?_,?_⟩
 ·rw[hV];have l2:(hdN (m.V.take i)).length≤65:=by unfold hdN;refine mI (gD _ _) ?_;rw[hV,dE];lia
  have:(65:Nat)<sizeLine:=by decide
  lia
 ·rw[qC Dw.symm];exact fz3
 ·rw[qC (qF e' nDH)];exact k3 _ _ nx e'
 have:hdN (m.V.take (i+1))=hdN (m.V.take i)++[m.V[i].1]:=by unfold hdN;rw[tk,mE,rB];simp[e]
 rw[qH,this,mE];rfl
obtain⟨fz3,k3,hd⟩:=hp
rw[q12,dG]at hd
refine⟨o,_,fz3,?_⟩
have sH:Same H (upd H3 a.wv (.dK (dI m.V))):=qCO hb.w k3
have hd4:(upd H3 a.wv (.dK (dI m.V))) D=some (.lst ((hdN m.V).map V.int)):=by rw[qC Dw];exact hd
generalize upd H3 a.wv (.dK (dI m.V))=H4 at sH hd4 ⊢
refine⟨D,hdN m.V,rfl,SqL.of hd4,by lia,λns pp pw l H5 n5 s5 h5=>?_⟩
exact q l ns H5 (sH.trans s5) (sH.free n5) h5 pp pw)
structure HeldIs(q:QM)(ns:List Int):Prop where
pm:ns.Perm (hdN q.V)
so:ns.Pairwise (·≤·)
noncomputable def spHd(t:Adr):Sp:=λvs H Q _=>∃x r2 r3 r4 r5 m q,vs=[.ref x.s]∧StAt t H x r2 r3 r4 r5 m q∧Fit m q∧(hdN q.V).length<64∧∀l ns H',HeldIs q ns→Same H H'→H l=none→H' l=some (.lst (List.map V.int ns))→Q (.ref l) H'
theorem zO(T:Txt K mg t)(S:Fns K t):S.eG.Ok0 P w mg base 2 (spHd t):=by(
refine S.eG.F.ok0 q5S λcdv A _ s H vs Q E hr h=>?_
obtain⟨x,r2,r3,r4,r5,m,q,rfl,hs,ft,h64,k⟩:=h
refine⟨_,(qD (qO (jG (qJ (pv 0) rfl) T.aI T.aAL (q7Q T S).mono hr S.tE.b .nil qK))),?_⟩
try dsimp-beta-proj-iota-zeta-eta only[wishK,cxK]
exact(iV rfl (iF hs.o T.aB T.aP rfl (iM hs.bk.o rfl ⟨x.k,q,rfl,hs.bk,ft.oq,h64,λl ns H' s' n' h' pm so=>k l ns H' ⟨pm,so⟩ s' n' h'⟩))))
noncomputable def spCs(t:Adr):Sp:=λvs H Q E=>∃x r3 r4 r5 m q v,∃sh:Int,vs=[.ref x.s,v]∧StAt t H x (.int sh) r3 r4 r5 m q∧Knd H v∧(if inB v 0 (sh-1)=true then Q .non H else False)
theorem uZ(T:Txt K mg t)(S:Fns K t):S.aV.Ok0 P w mg base 3 (spCs t):=by(
refine S.aV.F.ok0 q11 λcdv A _ s H vs Q E hr h=>?_
obtain⟨x,r3,r4,r5,m,q,v,sh,rfl,hs,kn,k⟩:=h
refine⟨_,(qD (j8 (jO (jF (qR (jJ T S).mono hr rfl T.aH T.aG S.aO.b .nil qK (qA (pv 1) (qA qI (qA (qM yJ (qJ (qJ (pv 0) rfl) rfl) qI) qE)))))) (qD qT) qL)),?_⟩
try dsimp-beta-proj-iota-zeta-eta only[wishK,cxK]
refine⟨_,rfl,iV rfl (iF hs.o T.aB T.aN rfl (iF hs.te T.aM T.bR rfl (iI ⟨v,_,_,rfl,kn,_,rfl,?_⟩)))⟩
cases z:inB v 0 (sh-1)with
|true=>rw[z,kJ rfl]at k;exact iteF k
|false=>rw[z,kI (by decide)]at k;exact k.elim)
theorem q3T(T:Txt K mg t)(S:Fns K t):S.oK.Ok0 P w mg base 3 (λvs H Q _=>∃v,vs=[v]∧Knd H v∧Q (.bl (inB v 0 (10 ^ 30-1))) H):=by(
refine S.oK.F.ok0 q8P λcdv A _ s H vs Q E hr h=>?_
obtain⟨v,rfl,kn,k⟩:=h
refine⟨_,(qD (qO (qR (jJ T S).mono hr rfl T.aH T.aG S.aO.b .nil qK (qA (pv 0) (qA qI (qA (qM yJ (qM qF6 qI qI) qI) qE)))))),?_⟩
try dsimp-beta-proj-iota-zeta-eta only[wishK,cxK]
exact⟨_,rfl,_,_,rfl,rfl,⟨by decide,by decide,by decide⟩,_,_,rfl,rfl,v,_,_,rfl,kn,k⟩)
noncomputable def hold(q:QM)(s:Int):Bool:=decide (s∈hdN q.V)
theorem q4D{s:Int}:∀{ns:List Int},inV (.int s) (ns.map V.int)=decide (s∈ns)
| []=>rfl
|n::r=>by
 have ih:=q4D (s:=s) (ns:=r);unfold inV at ih ⊢;rw[mM,rG,ih];by_cases e:n=s
 ·subst e;simp[eqV]
 have e':¬s=n:=λz=>e z.symm;simp[eqV,e,e']
theorem qD0{ns:List Int}:(ns.map V.int).all vI=true:=by(
rw[gR]
intro v hv
obtain⟨n,_,rfl⟩:=mB.mp hv
rfl)
theorem HeldIs.hold{q:QM}{ns:List Int}(h:HeldIs q ns)(s:Int):decide (s∈ns)=hold q s:=by(
unfold W1.hold
by_cases z:s∈ns
·rw[hI z,hI (h.pm.mem_iff.mp z)]
rw[hG z,hG (λy=>z (h.pm.mem_iff.mpr y))])
noncomputable def spSh(t:Adr):Sp:=λvs H Q E=>∃x r2 r4 r5 m q,∃s sr:Int,vs=[.ref x.s,.int s]∧StAt t H x r2 (.int sr) r4 r5 m q∧Fit m q∧(hdN q.V).length<64∧∀H',Same H H'→if hold q s=false∧sr≤((hdN q.V).length:Int)then False else Q .non H'
theorem q13(T:Txt K mg t)(S:Fns K t):S.bI.Ok0 P w mg base 4 (spSh t):=by(
refine S.bI.F.ok0 uY λcdv A _ s H vs Q E hr h=>?_
obtain⟨x,r2,r4,r5,m,q,s,sr,rfl,hs,ft,h64,k⟩:=h
refine⟨_,(qB (qV (i:=2) uY.nd rfl (Or.inl rfl) (jG (pv 0) T.aB T.e7 (zO T S).mono hr S.eG.b .nil qK)) (qD (j8 (PW.pt (q8V (j9 zU (pv 1) (pv 2) rfl) (q6U (j9 q9T (qP jT (by rfl) T.fY mR (qA (pv 2) qE)) (qJ (qJ (pv 0) rfl) rfl) (qZ _))))) (qD qT) qL))),?_⟩
try dsimp-beta-proj-iota-zeta-eta only[wishK,cxK]
refine⟨_,rfl,x.s,x.sd,_,rfl,hs.o,rfl,x,r2,.int sr,r4,r5,m,q,rfl,hs,ft,h64,λl ns H1 hn s1 n1 h1=>?_⟩
refine⟨_,rfl,_,rfl,?_⟩
refine⟨l,_,rfl,.inl (SqL.of h1),rfl,qD0,_,rfl,?_⟩
have kk:=k H1 s1
have e:inV (.int s) (ns.map V.int)=hold q s:=by rw[q4D];exact hn.hold s
show if(!inV (.int s) (ns.map V.int))=true then _ else _
rw[e]
cases z:hold q s with
|true=>rw[z,kI (λy=>by cases y.1)]at kk;exact iteF kk
|false=>
 refine iteT ?_;refine⟨_,rfl,l,_,rfl,.inl (SqL.of h1),iV rfl (iF (hs.same s1).o T.aB T.aN rfl (iF (hs.same s1).te T.aM T.bZ rfl (iI ⟨_,rfl,?_⟩)))⟩;rw[hV,hn.pm.length_eq];by_cases y:sr≤((hdN q.V).length:Int)
 ·rw[hI y];rw[kJ ⟨z,y⟩]at kk;exact kk.elim
 rw[hG y];rw[kI (λw=>y w.2)]at kk;exact iteF kk)
theorem _root_.L2.ChipAt.has{C c:Addr}{a:CA}{m:CM}{H:Hp}(h:ChipAt C H c a m){b:Addr}(hb:b∈a.li::foot c a):∃o,H b=some o∧(b≠c→∀C d f,o≠ .ins C d f):=by(
obtain⟨rs,er,_⟩:=h.rc
have hb:b=a.li∨b=c∨b=a.bo∨b=a.cl∨b=a.dc∨b=a.br∨b=a.rc:=by simpa[foot]using hb
rcases hb with rfl|rfl|rfl|rfl|rfl|rfl|rfl
·exact⟨_,h.li,λ_ _ _ _ z=>by cases z⟩
·exact⟨_,h.ins,λn=>absurd rfl n⟩
·exact⟨_,h.bo,λ_ _ _ _ z=>by cases z⟩
·exact⟨_,h.cl,λ_ _ _ _ z=>by cases z⟩
·exact⟨_,h.dc,λ_ _ _ _ z=>by cases z⟩
·exact⟨_,h.br,λ_ _ _ _ z=>by cases z⟩
exact⟨_,er,λ_ _ _ _ z=>by cases z⟩)
noncomputable def spPi(t:Adr):Sp:=λvs H Q E=>∃x dx tm td c a r2 r3 r4 r5,∃m:CM,∃B P:Nat,vs=[.ref x,.ref c,.ref tm]∧H x=some (.ins t.C_Plain dx [])∧H tm=some (.ins t.C_Terms td (teF (.int (B:Int)) (.int (P:Int)) r2 r3 r4 r5))∧ChipAt t.C_Chip H c a m∧m.bl=(B:Int)∧m.pg=(P:Int)∧B≤16∧TbF t H∧∀k H',StAt t H' ⟨x,dx,tm,td,c,a,k⟩ r2 r3 r4 r5 m (bk0 B P)→(∀b∈bf k,H b=none)→(∀b o,b≠x→H b=some o→H' b=some o)→Q .non H'
theorem q5W(T:Txt K mg t)(S:Fns K t):S.iR.Ok0 P w mg base 3 (spPi t):=by(
refine S.iR.F.ok0 q5P λcdv A _ s H vs Q E hr h=>?_
obtain⟨x,dx,tm,td,c,a,r2,r3,r4,r5,m,B,P',rfl,hx,htm,hc,eB,eP,hB,tb,k⟩:=h
refine⟨_,(qB (j8 (PW.pt (q0C (j9 q3J (qJ (pv 2) rfl) (qJ (pv 1) rfl) (qZ _)) (v3 (j9 q3J (qJ (pv 2) rfl) (qJ (pv 1) rfl) (qZ _))))) (qD qT) qL) (qB (jN (pv 0) (pv 1) rfl) (qB (jN (pv 0) (pv 2) rfl) (qD (jN (pv 0) (q16 T.aBT (q7M T S).mono hr rfl T.aBQ S.oO.b .nil qK (qA (qJ (pv 1) rfl) (qA (qJ (pv 1) rfl) qE))) rfl))))),?_⟩
try dsimp-beta-proj-iota-zeta-eta only[wishK,cxK]
refine⟨_,rfl,tm,_,td,_,_,rfl,htm,T.aM,T.bH,rfl,_,rfl,c,_,a.dx,_,_,rfl,hc.ins,T.aE,T.aX,rfl,rfl,_,rfl,?_⟩
rw[show(!decide (V.int (B:Int)=V.int m.bl))=false by rw[eB];simp]
refine iteF ?_
refine⟨_,rfl,tm,_,td,_,_,rfl,htm,T.aM,T.a9,rfl,_,rfl,c,_,a.dx,_,_,rfl,hc.ins,T.aE,T.bD,rfl,rfl,_,rfl,?_⟩
rw[show(!decide (V.int (P':Int)=V.int m.pg))=false by rw[eP];simp]
refine iteF ?_
refine⟨_,rfl,_,rfl,x,_,dx,_,rfl,hx,T.aB,T.aL,by decide,?_⟩
refine⟨_,rfl,_,rfl,x,_,dx,_,rfl,qH,T.aB,T.aN,by show 1<1000;decide,?_⟩
rw[q6T]
have tx:tm≠x:=jK htm hx (by intro z;injection z with z1 z2 z3;unfold teF at z3;cases z3)
have cx:c≠x:=jK hc.ins hx (by intro z;injection z with z1 z2 z3;unfold chF at z3;cases z3)
have k1:∀b o,b≠x→H b=some o→(upd H x (.ins t.C_Plain dx [("chip",.ref c),("terms",.ref tm)])) b=some o:=λb o nb e=>by rw[qC nb];exact e
have o1:(upd H x (.ins t.C_Plain dx [("chip",.ref c),("terms",.ref tm)])) x=some (.ins t.C_Plain dx [("chip",.ref c),("terms",.ref tm)]):=qH
have f1:∀b,(upd H x (.ins t.C_Plain dx [("chip",.ref c),("terms",.ref tm)])) b=none→H b=none:=λb e=>by
 by_cases z:b=x
 ·rw[z,qH]at e;cases e
 rw[qC z]at e;exact e
rw[show putF "terms" (.ref tm) (putF "chip" (.ref c) ([]:List (Str×V)))=([("chip",V.ref c),("terms",V.ref tm)]:List (Str×V))from rfl]
generalize upd H x (.ins t.C_Plain dx [("chip",.ref c),("terms",.ref tm)])=H1 at k1 o1 f1 ⊢
have hc1:=k1 _ _ cx hc.ins
refine⟨_,rfl,c,_,a.dx,_,_,rfl,hc1,T.aE,T.aX,rfl,_,rfl,c,_,a.dx,_,_,rfl,hc1,T.aE,T.bD,rfl,λk' kd nk nkd nn=>?_⟩
rw[eB,eP]
refine⟨k',kd,B,P',rfl,hB,qH,λka H3 e1 e2 hb3 ds fr up=>⟨rfl,?_⟩⟩
have s0:Same H1 (upd (upd H1 kd (.own k')) k' (.ins t.C_Book kd [])):=q4B nk nkd
have up':∀b o,H1 b=some o→H3 b=some o:=λb o e=>up b o (qF e nk) (s0 b o e)
refine⟨_,rfl,x,_,dx,_,rfl,up' _ _ o1,T.aB,T.aP,by show 2<1000;decide,?_⟩
have hx3:=up' _ _ o1
have kx:ka.bk≠x:=by rw[e1];exact(qF o1 nk).symm
have lH:∀b∈bf ka,H b=none:=λb hb=>by
 have hb:b=ka.bk∨b∈[ka.wv,ka.lv,ka.fi,ka.bo]:=by simpa[bf]using hb
 rcases hb with rfl|hb
 ·rw[e1];exact f1 _ nk
 exact f1 _ (Same.free s0 (fr b hb))
have kpx:∀b o,b≠x→H3 b=some o→(upd H3 x (.ins t.C_Plain dx (putF "book" (.ref k') [("chip",V.ref c),("terms",V.ref tm)]))) b=some o:=λb o nb e=>by rw[qC nb];exact e
have up2:∀b o,b≠x→H b=some o→(upd H3 x (.ins t.C_Plain dx (putF "book" (.ref k') [("chip",V.ref c),("terms",V.ref tm)]))) b=some o:=λb o nb e=>kpx b o nb (up' b o (k1 b o nb e))
have nx:∀{b:Addr} {o:HO},H3 b=some o→(∀C d fs,o≠ .ins C d fs)→b≠x:=fun {b o} e n z=>by rw[z,hx3]at e;exact n _ _ _ (kP e).symm
have cfx:∀b∈a.li::foot c a,b≠x:=λb hb z=>by
 obtain⟨o,e,no⟩:=hc.has hb;by_cases y:b=c
 ·exact cx (y.symm.trans z)
 rw[z,hx]at e;exact no y _ _ _ (kP e).symm
have kK:Keep [x] H (upd H3 x (.ins t.C_Plain dx (putF "book" (.ref k') [("chip",V.ref c),("terms",V.ref tm)]))):=⟨λb o nb e=>up2 b o (λz=>nb (by rw[z];simp)) e,λb xs e=>up2 b _ (λz=>by rw[z,hx]at e;cases e) e⟩
refine k ka _ ⟨?_,?_,?_,?_,?_,ds,?_,?_⟩ lH up2
·rw[e1];exact qH
·rw[eB,eP];exact up2 _ _ tx htm
·exact hc.keep kK (λb hb z=>cfx b hb (kC.mp z))
·exact⟨kpx _ _ kx hb3.o,kpx _ _ (nx hb3.w (λ_ _ _ z=>by cases z)) hb3.w,kpx _ _ (nx hb3.l (λ_ _ _ z=>by cases z)) hb3.l,kpx _ _ (nx hb3.f (λ_ _ _ z=>by cases z)) hb3.f,kpx _ _ (nx hb3.b (λ_ _ _ z=>by cases z)) hb3.b⟩
·obtain⟨ps,hT,h⟩:=tb;refine⟨ps,up2 _ _ (λz=>by rw[z,hx]at hT;cases hT) hT,?_⟩;rcases h with h|⟨c',h,hcd⟩
 ·exact .inl h
 exact .inr ⟨c',h,up2 _ _ (λz=>by rw[z,hx]at hcd;cases hcd) hcd⟩
·intro b hb z;obtain⟨o,e,_⟩:=hc.has hb;rw[lH b z]at e;cases e
intro b hb z
have hb:b=x∨b=tm:=by simpa using hb
have y0:b∈foot c a∨b∈bf ka:=by simpa[sf]using z
clear z
rcases y0 with z|z
·rcases hb with rfl|rfl
 ·exact cfx _ (hZ _ z) rfl
 obtain⟨o,e,no⟩:=hc.has (hZ _ z);by_cases y:b=c
 ·rw[y,hc.ins]at htm;have htm:=kP htm;injection htm with z1 z2 z3
  unfold chF teF at z3;have:=dS List.length z3;simp at this
 rw[htm]at e;exact no y _ _ _ (kP e).symm
have n:=lH b z
rcases hb with rfl|rfl
·rw[hx]at n;cases n
rw[htm]at n;cases n)
noncomputable def RT(t:Adr)(H H':Hp):Prop:=∀b o,b≠t.aA→H b=some o→H' b=some o
theorem RT.keep{H Hi Hj:Hp}{F:List Addr}(r:RT t H Hi)(k:Keep F Hi Hj)(f:∀b∈F,b=t.aA∨H b=none):RT t H Hj:=λb o nb e=>k.k b o (λz=>by
 rcases f b z with z|z
 ·exact nb z
 rw[z]at e;cases e) (r b o nb e)
theorem RT.of{H Hi:Hp}(s:Same H Hi):RT t H Hi:=λb o _ e=>s b o e
theorem RT.sq{H Hi:Hp}{ps:Array Value}{sa:Addr}{xs:List V}(r:RT t H Hi)(hT:H t.aA=some (.tbl ps))(h:SqL K H sa xs):SqL K Hi sa xs:=by(
rcases h with(h|⟨ob,h⟩)|h
·exact .inl (.inl (r _ _ (λz=>by rw[z,hT]at h;cases h) h))
·exact .inl (.inr ⟨ob,r _ _ (λz=>by rw[z,hT]at h;cases h) h⟩)
exact .inr h)
theorem qGO{B0 P1:Nat}(b2:B0≤16)(p1:1≤P1)(p2:P1≤16):(bk0 B0 P1).Ok:=by(
refine⟨p1,p2,b2,mT,mT,mT,by simp[bk0],λq hq=>absurd (show q∈([]:Mp)from hq) (by simp),λq hq=>absurd (show q∈([]:Mp)from hq) (by simp),λb hb=>⟨0,?_,mJ _⟩⟩
show(List.replicate B0 (0:Int)).getD b 0=_
rw[rep8]
rfl)
theorem qEJ{ns:List Int}{lo hi:Option Int}{i:Nat}{x:V}(h:(cutV (ns.map V.int) lo hi)[i]?=some x):∃n,x=.int n:=by(
have m1:=gH h
unfold cutV at m1
obtain⟨n,_,rfl⟩:=mB.mp (List.mem_of_mem_drop (List.mem_of_mem_take m1))
exact⟨n,rfl⟩)
theorem jS{W:Mp}{x:Int}:x∈W.map (·.1)↔∃v,(x,v)∈W:=by(
constructor
·intro h;obtain⟨⟨a,b⟩,h1,rfl⟩:=mB.mp h;exact⟨b,h1⟩
rintro⟨v,h⟩
exact mB.mpr ⟨_,h,rfl⟩)
theorem qAF{V:Mp}{x:Int}:x∈hdN V↔(∃p,(x,p)∈V)∧x≠64:=by unfold hdN;rw[gM,jS,k9]
theorem qGP{V W:Mp}{s p v:Int}(ndV:(V.map (·.1)).Nodup)(ndW:(W.map (·.1)).Nodup)(pm:(hdN V).Perm (W.map (·.1)))(s64:s≠64):(hdN (yE V s++[(s,p)])).Perm ((putW W s v).map (·.1)):=by(
have n1:((yE V s++[(s,p)]).map (·.1)).Nodup:=by
 rw[mE];refine mW.mpr ⟨q50 ndV,by simp,λa ha c hc=>?_⟩;obtain⟨q,hq,rfl⟩:=mB.mp ha;have hc:c=s:=by simpa using hc
 rw[hc];exact(jD.mp hq).2
refine q74 (n1.sublist p8) (q19 ndW) λx=>?_
rw[qAF,jS]
have hx:x∈hdN V↔x∈W.map (·.1):=pm.mem_iff
rw[qAF,jS]at hx
constructor
·rintro⟨⟨p',h⟩,h64⟩
 rcases mO.mp h with h|h
 ·obtain⟨h1,h2⟩:=jD.mp h;obtain⟨v',hv⟩:=hx.mp ⟨⟨p',h1⟩,h64⟩;exact⟨v',(yO ndW).mpr (.inr (jD.mpr ⟨hv,h2⟩))⟩
 obtain⟨rfl,rfl⟩:x=s∧p'=p:=by simpa using h
 exact⟨v,(yO ndW).mpr (.inl rfl)⟩
rintro⟨v',h⟩
rcases(yO ndW).mp h with h|h
·obtain⟨rfl,rfl⟩:x=s∧v'=v:=by simpa using h
 exact⟨⟨p,kN _ (by simp)⟩,s64⟩
obtain⟨h1,h2⟩:=jD.mp h
obtain⟨⟨p',hp⟩,h64⟩:=hx.mpr ⟨v',h1⟩
exact⟨⟨p',mD _ (jD.mpr ⟨hp,h2⟩)⟩,h64⟩)
structure PS(t:Adr)(H:Hp)(x:Sto)(so:Nat)(sr:Int)(m:CM)(q:QM)(n:Nat)(W:Mp)(dk:Bool):Prop where
st:StAt t H x (.int (so:Int)) (.int sr) (.int 0) (.int 1000000) m q
ft:Fit m q
br:m.br=List.replicate q.B false
cl:m.cl=List.replicate q.B 0
fi:q.fi=linF q.B q.P n
li:∀b,valV m.lim (Sum.inl b)=none
lf:m.lf=if dk then some 0 else none
nb:n≤q.B*q.P
rc:m.rc.length=n
cr:∀p:Nat,n≤p→m.bo.getD p .non=.non
nd:(W.map (·.1)).Nodup
pm:(hdN q.V).Perm (W.map (·.1))
kb:∀s∈W.map (·.1),0≤s∧s<(so:Int)
vl:∀s v,(s,v)∈W→∃p st mk,(s,p)∈q.V∧0≤p∧p≤m.bl*m.pg-1∧m.bo.getD p.toNat .non=.ref st∧H st=some (.tup [mk,.int v])
so1:so≤60
section
variable{H H':Hp}{x:Sto}{so:Nat}{sr:Int}{m:CM}{q:QM}{n:Nat}{W:Mp}{dk:Bool}
theorem PS.mv(h:PS t H x so sr m q n W dk)(st:StAt t H' x (.int (so:Int)) (.int sr) (.int 0) (.int 1000000) m q)(tp:∀b xs,H b=some (.tup xs)→H' b=some (.tup xs)):PS t H' x so sr m q n W dk:=by
 have vl':∀a b,(a,b)∈W→∃p st mk,(a,p)∈q.V∧0≤p∧p≤m.bl*m.pg-1∧m.bo.getD p.toNat .non=.ref st∧H' st=some (.tup [mk,.int b]):=λa b c=>by obtain⟨p,st,mk,a1,a2,a3,a4,a5⟩:=h.vl a b c;exact⟨p,st,mk,a1,a2,a3,a4,tp _ _ a5⟩
 exact { h with st:=st,vl:=vl' }
theorem PS.same(h:PS t H x so sr m q n W dk)(s:Same H H'):PS t H' x so sr m q n W dk:=h.mv (h.st.same s) λb xs e=>s _ _ e
theorem PS.kT(h:PS t H x so sr m q n W dk)(k:Keep [t.aA] H H')(tb:TbF t H'):PS t H' x so sr m q n W dk:=h.mv (h.st.kT k tb) λb xs e=>k.tp _ _ e
theorem PS.hold(h:PS t H x so sr m q n W dk)(s:Int):hold q s=decide (s∈W.map (·.1)):=by unfold W1.hold;exact wM.mpr h.pm.mem_iff
theorem PS.h64(h:PS t H x so sr m q n W dk):(hdN q.V).length<64:=by(
have so1:=h.so1
rw[h.pm.length_eq]
have:=q8F (l:=W.map (·.1)) (m:=(List.range so).map λi:Nat=>(i:Int)) h.nd λz hz=>by have:=h.kb z hz;exact mB.mpr ⟨z.toNat,kW.mpr (by lia),by lia⟩
rw[hV (as:=List.range so),mL]at this
lia)
theorem PS.spot(h:PS t H x so sr m q n W dk){l:List Nat}(hl:FreeIs q.B m.br m.cl q.fi l):vX q.B q.P m.br q.fi l=if n<q.B*q.P then some (n / q.P)else none:=by rw[h.br,h.cl,h.fi]at hl;rw[h.br,h.fi];exact qCR h.ft.oq.p1 h.nb hl
theorem PS.at(h:PS t H x so sr m q n W dk)(hn:n<q.B*q.P):n / q.P<q.B∧q.fi.getD (n / q.P) 0=((n%q.P:Nat):Int)∧n / q.P*q.P+n%q.P=n∧n%q.P<q.P:=by obtain⟨a,b⟩:=q8J h.ft.oq.p1 hn;obtain⟨c,d⟩:=q1B (P:=q.P) (n:=n) h.ft.oq.p1;exact⟨a,by rw[h.fi];exact b,c.symm,d⟩
theorem PS.gd(h:PS t H x so sr m q n W false):Gd m:=⟨h.lf,λb=>by rw[h.br];exact rep8,h.li⟩
theorem PS.wrote{F:List Addr}(h:PS t H x so sr m q n W false)(hn:n<q.B*q.P)(hn9:n<1000){s v:Int}{mk:V}{tp:Addr}(s0:0≤s)(s1:s<(so:Int))(st':StAt t H' x (.int (so:Int)) (.int sr) (.int 0) (.int 1000000) (putC m n (.ref tp)) (q.put (n / q.P) (n%q.P) s))
 (htp:H' tp=some (.tup [mk,.int v])) (k:Keep F H H'):PS t H' x so sr (putC m n (.ref tp)) (q.put (n / q.P) (n%q.P) s) (n+1) (putW W s v) false:=by(
obtain⟨a,b,c,d⟩:=h.at hn
have so1:=h.so1
have rc:=h.rc
have eB:=h.ft.eB
have eP:=h.ft.eP
have nbo:=h.ft.ok.nbo
have lbo:m.bo.length=q.B*q.P:=by rw[eB,eP,←wW]at nbo;lia
have okd:(m.deed "put" (n:Int) ((n:Int) / m.pg) false).Ok:=h.ft.ok.deed (by lia)
have ok':CM.Ok (putC m n (.ref tp)):=⟨okd.bl1,okd.bl2,okd.pg1,okd.pg2,by show((m.bo.set n (.ref tp)).length:Int)=_;rw[m7];exact nbo,okd.ncl,okd.ndc,okd.nbr,okd.lim,okd.nrc⟩
refine⟨st',⟨ok',h.ft.oq.put a d b s0 (by lia),eB,eP⟩,h.br,h.cl,?_,h.li,by show m.lf.map _=none;rw[h.lf];rfl,hn,?_,λp hp=>?_,q19 h.nd,qGP h.ft.oq.nd h.nd h.pm (by lia),λs' hs'=>?_,λs' v' hv=>?_,h.so1⟩
·show q.fi.set (n / q.P) (q.fi.getD (n / q.P) 0+1)=linF q.B q.P (n+1);rw[h.fi];exact qED h.ft.oq.p1 hn
·show(m.rc++[_]).length=n+1;rw[mP,rc];rfl
·show(m.bo.set n (.ref tp)).getD p .non=.non;rw[q2K,kI (λy=>by lia)];exact h.cr p (by lia)
·obtain⟨v',hv⟩:=jS.mp hs';rcases(yO h.nd).mp hv with hv|hv
 ·obtain⟨rfl,rfl⟩:s'=s∧v'=v:=by simpa using hv
  exact⟨s0,s1⟩
 exact h.kb s' (jS.mpr ⟨v',(jD.mp hv).1⟩)
rcases(yO h.nd).mp hv with hv|hv
·obtain⟨rfl,rfl⟩:s'=s∧v'=v:=by simpa using hv
 refine⟨(n:Int),tp,mk,?_,by lia,?_,?_,htp⟩
 ·refine kN _ ?_;rw[c];simp
 ·show(n:Int)≤m.bl*m.pg-1;rw[eB,eP,←wW];lia
 show(m.bo.set n (.ref tp)).getD ((n:Int)).toNat .non=_;rw[show((n:Int)).toNat=n by lia,q2K,kJ ⟨rfl,by lia⟩]
obtain⟨h1,h2⟩:=jD.mp hv
obtain⟨p,st,mk',a1,a2,a3,a4,a5⟩:=h.vl s' v' h1
refine⟨p,st,mk',mD _ (jD.mpr ⟨a1,h2⟩),a2,a3,?_,k.tp _ _ a5⟩
show(m.bo.set n (.ref tp)).getD p.toNat .non=_
rw[q2K,kI (λy=>by rw[←y.1,h.cr n (kH _)]at a4;cases a4)]
exact a4)
end
noncomputable def spWr(t:Adr):Sp:=λvs H Q E=>∃x so sr m q n W,∃s v:Int,vs=[.ref x.s,.int s,.int v]∧PS t H x so sr m q n W false∧0≤s∧s<(so:Int)∧0≤v∧v<10 ^ 30∧n<q.B*q.P∧n<1000∧(s∈W.map (·.1)∨((W.length:Nat):Int)<sr)∧∀m' q' p H',PS t H' x so sr m' q' (n+1) (putW W s v) false→q'.B=q.B→q'.P=q.P→Keep (t.aA::sf x) H H'→Q (.int p) H'
theorem q5G(T:Txt K mg t)(S:Fns K t)(B:BmIn base mg):S.fX.Ok0 P w mg base 12 (spWr t):=by(
refine S.fX.F.ok0 q5A λcdv A _ s H vs Q E hr h=>?_
obtain⟨x,so,sr,m,q,n,W,s,v,rfl,h,s0,s1,v0,v1,nb,n9,hw,k⟩:=h
refine⟨_,(qB (jA (jB (pv 0) T.aB T.bS (uZ T S).mono hr S.aV.b .nil qK (qA (pv 1) qE))) (qB (j8 (jO (jF (qR (q3T T S).mono hr rfl T.oS T.tM S.oK.b .nil qK (qA (pv 2) qE)))) (qD qT) qL) (qB (jA (jB (pv 0) T.aB T.f6 (q13 T S).mono hr S.bI.b .nil qK (qA (pv 1) qE))) (qB (jA (jG (pv 0) T.aB T.iB (q1I T S B).mono hr S.bM.b .nil qK)) (qD (qO (jB (pv 0) T.aB T.aAN (q7P T S B).mono hr S.oQ.b .nil qK (qA (pv 1) (qA (pv 2) qE))))))))),?_⟩
try dsimp-beta-proj-iota-zeta-eta only[wishK,cxK]
have hs:=h.st
refine(iV rfl (iM hs.o rfl ⟨_,rfl,x,_,_,_,m,q,.int s,(so:Int),rfl,hs,.int _,?_⟩))
rw[kJ (inBi s0 (by lia))]
refine⟨_,rfl,.int v,rfl,.int _,?_⟩
refine⟨_,rfl,?_⟩
rw[inBi v0 (by lia)]
refine iteF ?_
refine(iV rfl (iM hs.o rfl ⟨_,rfl,x,_,_,_,m,q,s,sr,rfl,hs,h.ft,h.h64,λH1 s1'=>?_⟩))
have lw:(hdN q.V).length=W.length:=by rw[h.pm.length_eq,hV]
rw[kI (λz=>by
 rw[h.hold,lw]at z;rcases hw with y|y
 ·exact absurd z.1 (by rw[hI y];decide)
 lia)]
have h1:=h.same s1'
refine(iV rfl (iM h1.st.o rfl ⟨x,_,_,_,_,m,q,rfl,h1.st,h1.ft,λl H2 hl k2 tb2=>?_⟩))
rw[h1.spot hl,kJ nb]
refine iteT ?_
have h2:=h1.kT k2 tb2
refine(iV rfl (iM h2.st.o rfl ⟨_,rfl,_,rfl,x,_,_,_,_,m,q,s,v,rfl,h2.st,h2.ft,h2.gd,by rw[h.rc];lia,λl' hl'=>?_⟩))
obtain⟨a,b,c,d⟩:=h2.at nb
refine⟨n / q.P,n%q.P,by rw[h2.spot hl',kJ nb],b,by rw[c];exact h.cr n (kH _),λtp H3 htp k3 st3=>?_⟩
rw[c]at st3 ⊢
exact k _ _ _ H3 (h2.wrote nb n9 s0 s1 st3 htp k3) rfl rfl (((Keep.same s1').trans (k2.mono (by simp))).trans k3))
noncomputable def spPR(t:Adr):Sp:=λvs H Q E=>∃x so sr m q n W,∃s:Int,vs=[.ref x.s,.int s]∧PS t H x so sr m q n W false∧0≤s∧s<(so:Int)∧(s∉W.map (·.1)→∀H',Same H H'→Q .non H')∧(∀v,(s,v)∈W→∀H',Same H H'→Q (.int v) H')
theorem q5X(T:Txt K mg t)(S:Fns K t):S.iG.Ok0 P w mg base 5 (spPR t):=by(
refine S.iG.F.ok0 q5R λcdv A _ s H vs Q E hr h=>?_
obtain⟨x,so,sr,m,q,n,W,s,rfl,h,s0,s1,kn,ky⟩:=h
have hu:=uT hr
have hs:=h.st
refine⟨_,(qB (jA (jB (pv 0) T.aB T.bS (uZ T S).mono hr S.aV.b .nil qK (qA (pv 1) qE))) (qB (j8 (j9 zU (pv 1) (jG (pv 0) T.aB T.e7 (zO T S).mono hr S.eG.b .nil qK) rfl) (qD (qO yN)) qL) (qD (qO (jQ q4M (jB (qJ (pv 0) rfl) T.aE T.aAQ (q7J T S).mono hr S.tK.b .nil qK (qA (qW hu (qJ (qJ (pv 0) rfl) rfl) (pv 1) (λ_ _=>rfl)) qE)) qI (λ_ _=>rfl)))))),?_⟩
try dsimp-beta-proj-iota-zeta-eta only[wishK,cxK]
refine(iV rfl (iM hs.o rfl ⟨_,rfl,x,_,_,_,m,q,.int s,(so:Int),rfl,hs,.int _,?_⟩))
rw[kJ (inBi s0 (by lia))]
refine⟨_,rfl,iV rfl (iM hs.o rfl ⟨x,_,_,_,_,m,q,rfl,hs,h.ft,h.h64,λl ns H1 hn s1 n1 h1=>?_⟩)⟩
have hs1:=hs.same s1
refine⟨l,_,rfl,.inl (SqL.of h1),rfl,qD0,_,rfl,?_⟩
have e:inV (.int s) (ns.map V.int)=decide (s∈W.map (·.1)):=by rw[q4D,hn.hold s,h.hold]
show if(!inV (.int s) (ns.map V.int))=true then _ else _
rw[e]
by_cases y:s∈W.map (·.1)
·rw[hI y];obtain⟨v,hv⟩:=jS.mp y;obtain⟨p,st,mk,a1,a2,a3,a4,a5⟩:=h.vl s v hv;refine iteF ?_;refine(iV rfl (iF hs1.o T.aB T.aL rfl (iM hs1.ch.ins rfl (iV rfl (iF hs1.o T.aB T.aP rfl (iF hs1.bk.o T.aI T.aU rfl ⟨_,rfl,x.k.wv,.int p,rfl,?_,?_⟩))))))
 ·have:=DGet.k (k:=Sum.inl s) hs1.bk.w;rw[q18 h.ft.oq.nd a1]at this;exact this
 refine⟨x.c,x.a,m,_,rfl,hs1.ch,h.ft.ok,h.lf,a2,a3,?_⟩;rw[a4];exact(iT (k:=1) (v:=.int v) (SqT.of (s1 _ _ a5)) rfl (ky v hv H1 s1))
rw[hG y]
exact iteT (kn y H1 s1))
noncomputable def lowC(c:Nat):Bool:=!decide (([c]:List Nat) < [97])&& !decide (([122]:List Nat) < [c])
noncomputable def isNm:V→Bool
| .str x=>decide (1≤x.length)&&decide (x.length≤8)&&x.cps.toList.all lowC
|_=>false
noncomputable def spNm:Sp:=λvs H Q _=>∃v,vs=[v]∧Knd H v∧(∀x,v=.str x→x.length≤100)∧∀H',Same H H'→Q (.bl (isNm v)) H'
theorem q9K(T:Txt K mg t)(S:Fns K t):S.aAJ.Ok0 P w mg base 1 spNm:=by(
refine S.aAJ.F.ok0 q9G λcdv A _ s H vs Q E hr h=>?_
obtain⟨v,rfl,kn,ln,k⟩:=h
refine⟨_,(qB (j8 (PW.pt (q0C (jO (jF (qP jH (by rfl) T.aF (by kernel_rfl) (qA (pv 0) (qA (uO rfl T.aBV (by kernel_rfl) rfl (v:=.ty "str")) qE))))) (v3 (jO (q4J q7Z q7Z qI (qP q6Y (by rfl) T.fY mR (qA (pv 0) qE)) qI))))) (qD (qO q3I)) qL) (qD (qO (qP (qAV rfl) (by rfl) T.aBW (by kernel_rfl) (qA (yY ["sign"] [] rfl (qGI (pv 0)) (λ_ _ _ _ _=>(qY (i:=0) (show List.Nodup (["sign"]:List Str)from by decide) rfl (Or.inl rfl))) (λ_ _ _ _ _=>yX) (λ_ _ _ _ _=>(q80 q6P q6P qS (pv 0) qS)) (by kernel_rfl) (y3 (by decide))) qE))))),?_⟩
try dsimp-beta-proj-iota-zeta-eta only[wishK,cxK]
obtain⟨ty,q,_,_,e3⟩:=kn.ty (K:=K)
refine⟨_,rfl,v,_,_,ty,_,rfl,rfl,.inl q,e3,_,rfl,?_⟩
cases v with
|str x=>
 have sz:(100:Nat)<sizeLine:=by decide
 have l1:=ln x rfl;refine iteF ?_;refine⟨_,rfl,_,rfl,by lia,_,_,rfl,rfl,_,rfl,?_⟩;have kk:∀H',Same H H'→Q (.bl (decide (1≤x.length)&&decide (x.length≤8)&&x.cps.toList.all lowC)) H':=k;by_cases z1:1≤x.length
 ·rw[hI (show(1:Int)≤(x.length:Int) by lia)];rw[hI z1]at kk;refine iteT (iI ⟨_,rfl,?_⟩);by_cases z2:x.length≤8
  ·rw[hI (show(x.length:Int)≤(8:Int) by lia)];rw[hI z2]at kk;refine iteF ?_;refine⟨_,rfl,x,rfl,λD H1 nD s1 hD=>?_⟩;refine qEG (D:=D) (λi H3=>Same H H3∧H3 D=some (.lst (((x.cps.toList.take i).map lowC).map V.bl))) ⟨s1,hD⟩ (λi c H3 hc hp=>?_) (λH3 hp=>?_)
   ·obtain⟨sm,hd⟩:=hp;have ci:i<x.cps.toList.length:=(kD.mp hc).1;have cl:x.cps.toList.length=x.length:=by simp[Str.length]
    have fin:∃vs,H3 D=some (HO.lst vs)∧vs.length<sizeLine∧Same H (upd H3 D (.lst (vs++[.bl (lowC c)])))∧upd H3 D (.lst (vs++[.bl (lowC c)])) D=some (.lst (((x.cps.toList.take (i+1)).map lowC).map V.bl)):=by
     refine⟨_,hd,by rw[hV,hV,dE];lia,λb o e=>?_,?_⟩
     ·rw[qC (qF e nD)];exact sm _ _ e
     rw[qH,q6O (f:=lowC) hc,mE];rfl
    refine⟨_,rfl,_,_,rfl,rfl,_,rfl,?_⟩;show if(!decide (([c]:List Nat) < [97]))=true then _ else _;rw[show lowC c=(!decide (([c]:List Nat) < [97])&& !decide (([122]:List Nat) < [c]))from rfl]at fin;cases z3:!decide (([c]:List Nat) < [97])with
    |true=>rw[z3,cT]at fin;exact iteT ⟨(⟨#[c]⟩:Str),(Str.ofString "z"),rfl,rfl,fin⟩
    |false=>rw[z3,nS]at fin;exact iteF fin
   obtain⟨sm,hd⟩:=hp;rw[dG]at hd;refine⟨D,_,rfl,SqL.of hd,?_⟩;have:=kk H3 sm;rw[lR];exact this
  rw[hG (show ¬(x.length:Int)≤(8:Int) by lia)];rw[hG z2]at kk;exact iteT (kk H (Same.refl H))
 rw[hG (show ¬(1:Int)≤(x.length:Int) by lia)];rw[hG z1]at kk;exact iteF ⟨_,rfl,iteT (kk H (Same.refl H))⟩
|_=>exact iteT (k H (Same.refl H)))
noncomputable def isF:V→Bool
| .int i=>decide (1≤i)
|_=>false
theorem vS(T:Txt K mg t)(S:Fns K t):S.bT.Ok0 P w mg base 2 (λvs H Q _=>∃v,vs=[v]∧Knd H v∧Q (.bl (isF v)) H):=by(
refine S.bT.F.ok0 q57 λcdv A _ s H vs Q E hr h=>?_
obtain⟨v,rfl,kn,k⟩:=h
refine⟨_,(qD (qO (zB (qR (q3R T S).mono hr rfl T.o0 T.oP S.oJ.b .nil qK (qA (pv 0) qE)) (vF (yM q9T (pv 0) qI (qZ _)))))),?_⟩
try dsimp-beta-proj-iota-zeta-eta only[wishK,cxK]
refine⟨_,rfl,v,rfl,kn,_,rfl,?_⟩
cases v with
|int i=>exact iteT ⟨_,rfl,iI k⟩
|_=>exact iteF k)
noncomputable def RwAt(H:Hp)(v:V)(x:Str)(c s:Int):Prop:=∃a,v=.ref a∧H a=some (.tup [.str x,.int c,.int s])
theorem RwAt.tp{H H':Hp}{v:V}{x:Str}{c s:Int}(h:RwAt H v x c s)(k:∀b xs,H b=some (.tup xs)→H' b=some (.tup xs)):RwAt H' v x c s:=by obtain⟨a,e,h⟩:=h;exact⟨a,e,k _ _ h⟩
noncomputable def qHY:Sp:=λvs H Q _=>∃v x c s,vs=[v]∧RwAt H v x c s∧isNm (.str x)=true∧1≤c∧1≤s∧∀H',Same H H'→Q .non H'
theorem q7R(T:Txt K mg t)(S:Fns K t):S.tN.Ok0 P w mg base 3 qHY:=by(
refine S.tN.F.ok0 q7B λcdv A _ s H vs Q E hr h=>?_
obtain⟨v,x,c,s',rfl,⟨a,rfl,ha⟩,nm,c1,s1,k⟩:=h
refine⟨_,(qB (j8 (PW.pt (q0C (jO (jF (qP jH (by rfl) T.aF (by kernel_rfl) (qA (pv 0) (qA (uO rfl T.aBO (by kernel_rfl) rfl (v:=.ty "tuple")) qE))))) (v3 (j9 q3J (qP jT (by rfl) T.fY mR (qA (pv 0) qE)) qI (qZ _))))) (qD qT) qL) (qB (j8 (jO (jF (qR (q9K T S).mono hr rfl T.aA1 T.aA4 S.aAJ.b .nil qK (qA (jQ q4M (pv 0) qI (λ_ _=>rfl)) qE)))) (qD qT) qL) (qD (j8 (PW.pt (q0C (jO (jF (qR (vS T S).mono hr rfl T.eC T.eD S.bT.b .nil qK (qA (jQ q4M (pv 0) qI (λ_ _=>rfl)) qE)))) (v3 (jO (jF (qR (vS T S).mono hr rfl T.eC T.eD S.bT.b .nil qK (qA (jQ q4M (pv 0) qI (λ_ _=>rfl)) qE))))))) (qD qT) qL)))),?_⟩
try dsimp-beta-proj-iota-zeta-eta only[wishK,cxK]
refine⟨_,rfl,.ref a,_,_,.type "tuple",_,rfl,rfl,.inl (.tup ha),qFZ,_,rfl,iteF ?_⟩
refine⟨_,rfl,a,_,rfl,.inr (SqT.of ha),rfl,_,rfl,iteF ?_⟩
refine⟨_,rfl,iT (k:=0) (v:=.str x) (SqT.of ha) rfl ?_⟩
have l8:x.length≤8:=by unfold isNm at nm;simp at nm;exact nm.1.2
refine⟨.str x,rfl,.str x,λy e=>by cases e;lia,λH1 s1'=>⟨_,rfl,?_⟩⟩
rw[nm]
refine iteF ?_
have ha1:=s1' _ _ ha
refine⟨_,rfl,iT (k:=1) (v:=.int c) (SqT.of ha1) rfl ⟨.int c,rfl,.int c,_,rfl,?_⟩⟩
rw[show isF (.int c)=true from hI c1]
refine iteF ?_
refine⟨_,rfl,iT (k:=2) (v:=.int s') (SqT.of ha1) rfl ⟨.int s',rfl,.int s',_,rfl,?_⟩⟩
rw[show isF (.int s')=true from hI s1]
exact iteF (k H1 s1'))
theorem q14{K:W.Frag}{l D:Addr}{H1 H2:Hp}{us:List V}{n k:Nat}{g:Nat→V}{j:Int}{σ0:St}{R:Hp→Prop}(hk:k<σ0.length)(hl:H1 l=some (.lst us))(s2:Same H1 H2)(nD:H1 D=none)(hD:H2 D=some (.lst []))(ln:us.length=n)(n4:n≤100)
 (h:∀i,i<n→∃a xs,us[i]?=some (.ref a)∧H1 a=some (.tup xs)∧atI xs j=some (g i)) (hd:∀H3,Same H1 H3→H3 D=some (.lst ((List.range n).map g))→R H3):
 ∃W:Nat→Nat→Hp→Prop,(∃m,W 0 m H2)∧∀i m H3,W i m H3→((Itl K l).stop i H3∧R H3)∨((Itl K l).go i H3∧∃N:Hp→Prop,(∀H',N H'→∃m',m'<m∧W (i+1) m' H')∧∀x H4,(Itl K l).yld i H3 x H4→vT k x σ0 H4 λσ5 H5=>q0F σ5 H5 λb H6=>
   if b=true then tOp (rIxT K) (tVar k) (tC (.int j)) σ5 H6 (λv H7=>∃vs,H7 D=some (.lst vs)∧vs.length<sizeLine∧N (upd H7 D (.lst (vs++[v]))))else N H6):=by(
have sz:(100:Nat)<sizeLine:=by decide
refine q8C (K:=K) (xs:=us) (λi H3=>Same H1 H3∧H3 D=some (.lst ((List.range i).map g))) ⟨s2,hD⟩ (λi H3 hp=>SqL.of (hp.1 _ _ hl)) (λi x H3 hx hp=>?_) (λH3 hp=>?_)
·obtain⟨sm,hd⟩:=hp;have hi:i<n:=by rw[←ln];exact(kD.mp hx).1
 obtain⟨a,xs,e1,e2,e3⟩:=h i hi;rw[hx]at e1;cases e1;refine⟨_,by rw[wB hk],a,xs,j,g i,rfl,rfl,SqT.of (sm _ _ e2),e3,_,hd,by rw[hV,mL];lia,λb o e=>?_,?_⟩
 ·rw[qC (qF e nD)];exact sm _ _ e
 rw[qH,gN,mE];rfl
obtain⟨sm,hd'⟩:=hp
rw[ln]at hd'
exact hd H3 sm hd')
structure TabOk(n:Nat)(nm:Nat→Str)(ct sc:Nat→Nat):Prop where
n4:n≤4
u:Unl n nm
nm:∀i,i<n→isNm (.str (nm i))=true
c1:∀i,i<n→1≤ct i
s1:∀i,i<n→1≤sc i
noncomputable def Rws(H:Hp)(us:List V)(n:Nat)(nm:Nat→Str)(ct sc:Nat→Nat):Prop:=us.length=n∧∀i,i<n→∃v,us[i]?=some v∧RwAt H v (nm i) (ct i) (sc i)
theorem Rws.tp{H H':Hp}{us:List V}{n:Nat}{nm:Nat→Str}{ct sc:Nat→Nat}(h:Rws H us n nm ct sc)(k:∀b xs,H b=some (.tup xs)→H' b=some (.tup xs)):Rws H' us n nm ct sc:=⟨h.1,λi hi=>by
 obtain⟨v,e,r⟩:=h.2 i hi;exact⟨v,e,r.tp k⟩⟩
theorem Rws.same{H H':Hp}{us:List V}{n:Nat}{nm:Nat→Str}{ct sc:Nat→Nat}(h:Rws H us n nm ct sc)(k:Same H H'):Rws H' us n nm ct sc:=h.tp λb xs e=>k _ _ e
theorem Rws.at{H:Hp}{us:List V}{n:Nat}{nm:Nat→Str}{ct sc:Nat→Nat}(h:Rws H us n nm ct sc){i:Nat}(hi:i<n):∃a,us[i]?=some (.ref a)∧H a=some (.tup [.str (nm i),.int (ct i:Nat),.int (sc i:Nat)]):=by obtain⟨v,e,a,rfl,ha⟩:=h.2 i hi;exact⟨a,e,ha⟩
theorem q6S{n:Nat}{nm:Nat→Str}(u:Unl n nm):(unl ((List.range n).map λi=>(Sum.inr (nm i):Key))).length=n:=by(
have nd:((List.range n).map λi=>(Sum.inr (nm i):Key)).Nodup:=by refine sY _ (λa b h=>h) (dQ.mpr λi j hi hj hij=>?_);simp at hi hj ⊢;intro e;have:=u i j hi hj e;lia
have e:=qB4 (ks:=(List.range n).map λi=>(Sum.inr (nm i):Key))
have l1:=qAA (ks:=(List.range n).map λi=>(Sum.inr (nm i):Key))
have l2:=q8F nd λx hx=>q78.mpr hx
simp at l1 l2
lia)
noncomputable def qGQ(t:Adr):Sp:=λvs H Q _=>∃l us tm td n nm ct sc b p so sr i d,vs=[.ref l,.ref tm]∧H l=some (.lst us)∧Rws H us n nm ct sc∧TabOk n nm ct sc∧H tm=some (.ins t.C_Terms td (teF b p (.int so) (.int sr) i d))∧((fst ct n:Nat):Int)≤so∧((fst sc n:Nat):Int)≤sr∧∀H',Same H H'→Q .non H'
theorem q5Y(T:Txt K mg t)(S:Fns K t):S.iO.Ok0 P w mg base 4 (qGQ t):=by(
refine S.iO.F.ok0 q1M λcdv A _ s H vs Q E hr h=>?_
obtain⟨l,us,tm,td,n,nm,ct,sc,b,p,so,sr,i0,d,rfl,hl,rw',ok,htm,h1,h2,k⟩:=h
have ln:=rw'.1
have n4:=ok.n4
refine⟨_,(qB (j8 (jO (jF (qP jH (by rfl) T.aF (by kernel_rfl) (qA (pv 0) (qA (uO rfl T.aA5 (by kernel_rfl) rfl (v:=.ty "list")) qE))))) (qD qT) qL) (qB (vG gI rfl (yA (pv 0)) (qY (i:=2) q1M.nd rfl (Or.inl rfl)) (qD (jA (qR (q7R T S).mono hr rfl T.xR T.xW S.tN.b .nil qK (qA (pv 2) qE))))) (qB (j8 (j9 q1J (qP qB6 (by rfl) T.fY mR (qA (q31 (qB5 rfl) (by rfl) T.aBY (by kernel_rfl) (qA (yY ["row"] [] rfl (yA (pv 0)) (λ_ _ _ _ _=>(qY (i:=0) (show List.Nodup (["row"]:List Str)from by decide) rfl (Or.inl rfl))) (λ_ _ _ _ _=>yX) (λ_ _ _ _ _=>(jQ (uG (K:=K) rfl) (pv 0) qI (λ_ _=>rfl))) (by kernel_rfl) (y3 (by decide))) qE)) qE)) (qP jT (by rfl) T.fY mR (qA (pv 0) qE)) (qZ _)) (qD qT) qL) (qB (j8 (j9 qBD (qP (vE rfl) (by rfl) T.aA2 (by kernel_rfl) (qA (yY ["row"] [] rfl (yA (pv 0)) (λ_ _ _ _ _=>(qY (i:=0) (show List.Nodup (["row"]:List Str)from by decide) rfl (Or.inl rfl))) (λ_ _ _ _ _=>yX) (λ_ _ _ _ _=>(jQ (uG (K:=K) rfl) (pv 0) qI (λ_ _=>rfl))) (by kernel_rfl) (y3 (by decide))) qE)) (qJ (pv 1) rfl) (qZ _)) (qD qT) qL) (qD (j8 (j9 qBD (qP (vE rfl) (by rfl) T.aA2 (by kernel_rfl) (qA (yY ["row"] [] rfl (yA (pv 0)) (λ_ _ _ _ _=>(qY (i:=0) (show List.Nodup (["row"]:List Str)from by decide) rfl (Or.inl rfl))) (λ_ _ _ _ _=>yX) (λ_ _ _ _ _=>(jQ (uG (K:=K) rfl) (pv 0) qI (λ_ _=>rfl))) (by kernel_rfl) (y3 (by decide))) qE)) (qJ (pv 1) rfl) (qZ _)) (qD qT) qL)))))),?_⟩
try dsimp-beta-proj-iota-zeta-eta only[wishK,cxK]
refine⟨_,rfl,.ref l,_,_,.type "list",_,rfl,rfl,.inl (.lst hl),qBY,_,rfl,iteF ?_⟩
refine⟨_,rfl,l,rfl,⟨_,SqL.of hl⟩,?_⟩
refine q0D (K:=K) (xs:=us) (λi σ' H2=>∃y,σ'=[some (.ref l),some (.ref tm),y]∧Same H H2) ⟨_,rfl,Same.refl H⟩ (λi σ' H2 hi hp=>?_) (λi y σ' H2 hy hp=>?_) (λσ' H2 hp=>?_)
·obtain⟨y,rfl,sm⟩:=hp;exact SqL.of (sm _ _ hl)
·obtain⟨y',rfl,sm⟩:=hp;have hi:i<n:=by rw[←ln];exact(kD.mp hy).1
 obtain⟨v,e,r⟩:=(rw'.same sm).2 i hi;rw[hy]at e;cases e;have c1:=ok.c1 i hi;have s1:=ok.s1 i hi;exact⟨_,rfl,_,_,_,_,rfl,r,ok.nm i hi,by lia,by lia,λH3 s3=>⟨_,rfl,sm.trans s3⟩⟩
obtain⟨y',rfl,sm⟩:=hp
have rw2:=rw'.same sm
have hl2:=sm _ _ hl
refine⟨_,rfl,l,rfl,⟨_,SqL.of hl2⟩,λD H3 nD s3 hD=>?_⟩
refine q14 (n:=n) (g:=λi=>.str (nm i)) (by show(0:Nat)<1;decide) hl2 s3 nD hD ln (by lia) (λi hi=>?_) λH4 s4 hD4=>?_
·obtain⟨a,e,ha⟩:=rw2.at hi;exact⟨a,_,e,ha,rfl⟩
have hk:H4 D=some (.lst (((List.range n).map λi=>(Sum.inr (nm i):Key)).map kV)):=by rw[hD4,gZ];rfl
refine⟨D,_,rfl,SqL.of hk,by rw[hV,mL];lia,λa H5 na s5 h5=>?_⟩
refine⟨a,_,rfl,h5,by rw[q6S ok.u];lia,?_⟩
rw[q6S ok.u]
have s25:=s4.trans s5
refine⟨_,rfl,l,us,rfl,.inl (SqL.of (s25 _ _ hl2)),iI ⟨_,rfl,?_⟩⟩
rw[ln,hG (Int.lt_irrefl _)]
refine iteF ?_
refine⟨_,rfl,l,rfl,⟨_,SqL.of (s25 _ _ hl2)⟩,λD2 H6 n6 s6 h6=>?_⟩
refine q14 (n:=n) (g:=λi=>.int (ct i:Nat)) (by show(0:Nat)<1;decide) (s25 _ _ hl2) s6 n6 h6 ln (by lia) (λi hi=>?_) λH7 s7 h7=>?_
·obtain⟨a,e,ha⟩:=(rw2.same s25).at hi;exact⟨a,_,e,ha,rfl⟩
have h7:H7 D2=some (.lst (((List.range n).map λi=>((ct i:Nat):Int)).map V.int)):=by rw[h7,gZ];rfl
have tm7:=(sm.trans (s25.trans s7)) _ _ htm
refine⟨D2,_,rfl,SqL.of h7,iV rfl (iF tm7 T.aM T.bR rfl (iI ⟨_,rfl,?_⟩))⟩
rw[q1D,hG (by lia)]
refine iteF ?_
have s25:=s25.trans s7
refine⟨_,rfl,l,rfl,⟨_,SqL.of (s25 _ _ hl2)⟩,λD3 H6 n6 s6 h6=>?_⟩
refine q14 (n:=n) (g:=λi=>.int (sc i:Nat)) (by show(0:Nat)<1;decide) (s25 _ _ hl2) s6 n6 h6 ln (by lia) (λi hi=>?_) λH7 s7 h7=>?_
·obtain⟨a,e,ha⟩:=(rw2.same s25).at hi;exact⟨a,_,e,ha,rfl⟩
have h7:H7 D3=some (.lst (((List.range n).map λi=>((sc i:Nat):Int)).map V.int)):=by rw[h7,gZ];rfl
have tm7:=(sm.trans (s25.trans s7)) _ _ htm
refine⟨D3,_,rfl,SqL.of h7,iV rfl (iF tm7 T.aM T.bZ rfl (iI ⟨_,rfl,?_⟩))⟩
rw[q1D,hG (by lia)]
exact iteF (k H7 (sm.trans (s25.trans s7))))
structure Pz where
p:Addr
pd:Addr
fs:Addr
cs:Addr
ss:Addr
structure PtAt(t:Adr)(H:Hp)(z:Pz)(s:Addr)(n:Nat)(nm:Nat→Str)(ct sc:Nat→Nat):Prop where
o:H z.p=some (.ins t.C_Parts z.pd [("store",.ref s),("firsts",.ref z.fs),("counts",.ref z.cs),("shares",.ref z.ss)])
f:H z.fs=some (.dK (dN n nm λi=>.int (fst ct i:Nat)))
c:H z.cs=some (.dK (dN n nm λi=>.int (ct i:Nat)))
s:H z.ss=some (.dK (dN n nm λi=>.int (sc i:Nat)))
d1:z.fs≠z.ss
d2:z.cs≠z.ss
noncomputable def zf(z:Pz):List Addr:=[z.p,z.fs,z.cs,z.ss]
theorem PtAt.keep{t:Adr}{H H':Hp}{z:Pz}{s:Addr}{n:Nat}{nm:Nat→Str}{ct sc:Nat→Nat}(h:PtAt t H z s n nm ct sc){F:List Addr}(k:Keep F H H')(d:∀b∈zf z,b∉F):PtAt t H' z s n nm ct sc:=⟨k.k _ _ (d _ (by simp[zf])) h.o,k.k _ _ (d _ (by simp[zf])) h.f,k.k _ _ (d _ (by simp[zf])) h.c,k.k _ _ (d _ (by simp[zf])) h.s,h.d1,h.d2⟩
theorem PtAt.same{t:Adr}{H H':Hp}{z:Pz}{s:Addr}{n:Nat}{nm:Nat→Str}{ct sc:Nat→Nat}(h:PtAt t H z s n nm ct sc)(k:Same H H'):PtAt t H' z s n nm ct sc:=⟨k _ _ h.o,k _ _ h.f,k _ _ h.c,k _ _ h.s,h.d1,h.d2⟩
noncomputable def isP(n:Nat)(nm:Nat→Str)(v:V):Prop:=∃i,i<n∧v=.str (nm i)
noncomputable def spCk(t:Adr):Sp:=λvs H Q E=>∃z s n nm ct sc v,vs=[.ref z.p,v]∧PtAt t H z s n nm ct sc∧Unl n nm∧Knd H v∧(isP n nm v→Q .non H)∧(¬isP n nm v→E (.ref t.C_NoPart) none H)
theorem jX(T:Txt K mg t)(S:Fns K t):S.aK.OkE P w mg base 1 (spCk t):=by(
refine S.aK.F.okE q1E (λvs H Q E h=>?_) (λcdv A outer s H vs Q E hr h=>?_)
·repeat obtain⟨_,h⟩:=h
 all_goals subst_vars;rfl
obtain⟨z,s',n,nm,ct,sc,v,rfl,hp,u,kn,k1,k2⟩:=h
have hu:=uT hr
refine⟨_,(qD (j8 (PW.pt (q0C (jO (jF (qP jH (by rfl) T.aF (by kernel_rfl) (qA (pv 1) (qA (uO rfl T.aBV (by kernel_rfl) rfl (v:=.ty "str")) qE))))) (v3 (q4H (q6H hu (pv 1) (qJ (pv 0) rfl)))))) (qD (q2G zS rfl rfl T.x8 T.aBD (qA qS qE))) qL)),?_⟩
try dsimp-beta-proj-iota-zeta-eta only[wishK,cxK]
obtain⟨ty,q,_,_,e3⟩:=kn.ty (K:=K)
refine⟨_,rfl,v,_,_,ty,_,rfl,rfl,.inl q,e3,_,rfl,?_⟩
cases v with
|str x=>
 refine iteF ?_;refine⟨_,rfl,iV rfl (iF hp.o T.aD T.aJ rfl ⟨z.ss,_,rfl,DGet.k (k:=Sum.inr x) hp.s,_,rfl,?_⟩)⟩;by_cases y:∃i,i<n∧nm i=x
 ·obtain⟨i,hi,rfl⟩:=y;rw[yW u hi];exact iteF (k1 ⟨i,hi,rfl⟩)
 rw[q2O (λi hi e=>y ⟨i,hi,e⟩)];exact iteT ⟨sz1,k2 (λ⟨i,hi,e⟩=>y ⟨i,hi,(V.str.inj e).symm⟩)⟩
|_=>exact iteT ⟨sz1,k2 (λ⟨i,hi,e⟩=>by cases e)⟩)
noncomputable def spSo(t:Adr):Sp:=λvs H Q E=>∃z s n nm ct sc i,vs=[.ref z.p,.str (nm i)]∧PtAt t H z s n nm ct sc∧Unl n nm∧i<n∧Q (.int (sc i:Nat)) H
theorem vZ(T:Txt K mg t)(S:Fns K t):S.bJ.Ok0 P w mg base 2 (spSo t):=by(
refine S.bJ.F.ok0 q2Q λcdv A _ s H vs Q E hr h=>?_
obtain⟨z,s',n,nm,ct,sc,i,rfl,hp,u,hi,k⟩:=h
have hu:=uT hr
refine⟨_,(qB (jA (vJ uU (pv 0) T.aD T.aQ (jX T S).mono hr S.aK.b .nil (qA (pv 1) qE))) (qD (qO (qW hu (qJ (pv 0) rfl) (pv 1) (λ_ _=>rfl))))),?_⟩
try dsimp-beta-proj-iota-zeta-eta only[wishK,cxK]
refine(iV rfl (iM hp.o rfl ⟨_,rfl,z,s',n,nm,ct,sc,.str (nm i),rfl,hp,u,.str _,λ_=>?_,λy=>absurd ⟨i,hi,rfl⟩ y⟩))
refine(iV rfl (iF hp.o T.aD T.aJ rfl ⟨_,rfl,z.ss,_,rfl,?_,k⟩))
have:=DGet.k (k:=Sum.inr (nm i)) hp.s
rw[yW u hi]at this
exact this)
noncomputable def spPl(t:Adr):Sp:=λvs H Q E=>∃z s n nm ct sc i,∃k:Int,vs=[.ref z.p,.str (nm i),.int k]∧PtAt t H z s n nm ct sc∧Unl n nm∧i<n∧0≤k∧k<(ct i:Nat)∧Q (.int ((fst ct i:Nat)+k)) H
theorem zA(T:Txt K mg t)(S:Fns K t):S.bK.Ok0 P w mg base 3 (spPl t):=by(
refine S.bK.F.ok0 q2R λcdv A _ s H vs Q E hr h=>?_
obtain⟨z,s',n,nm,ct,sc,i,j,rfl,hp,u,hi,j0,j1,k⟩:=h
have hu:=uT hr
refine⟨_,(qB (jA (vJ uU (pv 0) T.aD T.aQ (jX T S).mono hr S.aK.b .nil (qA (pv 1) qE))) (qB (j8 (jO (jF (qR (jJ T S).mono hr rfl T.aH T.aG S.aO.b .nil qK (qA (pv 2) (qA qI (qA (qM yJ (qW hu (qJ (pv 0) rfl) (pv 1) (λ_ _=>rfl)) qI) qE)))))) (qD qT) qL) (qD (qO (qM yG (qW hu (qJ (pv 0) rfl) (pv 1) (λ_ _=>rfl)) (pv 2)))))),?_⟩
try dsimp-beta-proj-iota-zeta-eta only[wishK,cxK]
refine(iV rfl (iM hp.o rfl ⟨_,rfl,z,s',n,nm,ct,sc,.str (nm i),rfl,hp,u,.str _,λ_=>?_,λy=>absurd ⟨i,hi,rfl⟩ y⟩))
have gc:=DGet.k (k:=Sum.inr (nm i)) hp.c
rw[yW u hi]at gc
have gf:=DGet.k (k:=Sum.inr (nm i)) hp.f
rw[yW u hi]at gf
refine⟨_,rfl,iV rfl (iF hp.o T.aD T.aT rfl ⟨_,rfl,z.cs,_,rfl,gc,_,_,rfl,rfl,.int j,_,_,rfl,.int j,_,rfl,?_⟩)⟩
rw[inBi j0 (by lia)]
refine iteF ?_
exact(iV rfl (iF hp.o T.aD T.bG rfl ⟨_,rfl,z.fs,_,rfl,gf,_,rfl,iI k⟩)))
noncomputable def spPh(t:Adr):Sp:=λvs H Q E=>∃z x so sr m q n' W dk n nm ct sc i,vs=[.ref z.p,.str (nm i)]∧PtAt t H z x.s n nm ct sc∧PS t H x so sr m q n' W dk∧Unl n nm∧i<n∧∀l ks H',HeldIs q ks→Same H H'→H l=none→H' l=some (.lst ((cutP (fst ct i) (ct i) ks).map V.int))→Q (.ref l) H'
theorem zP(T:Txt K mg t)(S:Fns K t):S.eJ.Ok0 P w mg base 3 (spPh t):=by(
refine S.eJ.F.ok0 q1N λcdv A _ s H vs Q E hr h=>?_
obtain⟨z,x,so,sr,m,q,n',W,dk,n,nm,ct,sc,i,rfl,hp,hs,u,hi,k⟩:=h
have hu:=uT hr
refine⟨_,(qB (jA (vJ uU (pv 0) T.aD T.aQ (jX T S).mono hr S.aK.b .nil (qA (pv 1) qE))) (qB (qV (i:=2) q1N.nd rfl (Or.inr rfl) (qW hu (qJ (pv 0) rfl) (pv 1) (λ_ _=>rfl))) (qD (qO (yY ["self","name","first","sheet"] [0,1,2] rfl (yA (jG (qJ (pv 0) rfl) T.aB T.e7 (zO T S).mono hr S.eG.b .nil qK)) (λ_ _ _ _ _=>(qY (i:=3) (show List.Nodup (["self","name","first","sheet"]:List Str)from by decide) rfl (Or.inl rfl))) (λ_ _ _ _ _=>(q49 (q4J q7Z q1J (pv 2) (pv 3) (qM yG (pv 2) (qW hu (q2L (K:=K) rfl (pv 0) rfl) (pv 1) (λ_ _=>rfl)))))) (λ_ _ _ _ _=>(qM yJ (pv 3) (pv 2))) (by kernel_rfl) (y3 (by decide))))))),?_⟩
try dsimp-beta-proj-iota-zeta-eta only[wishK,cxK]
refine(iV rfl (iM hp.o rfl ⟨_,rfl,z,x.s,n,nm,ct,sc,.str (nm i),rfl,hp,u,.str _,λ_=>?_,λy=>absurd ⟨i,hi,rfl⟩ y⟩))
have gf:=DGet.k (k:=Sum.inr (nm i)) hp.f
rw[yW u hi]at gf
refine(iV rfl (iF hp.o T.aD T.bG rfl ⟨_,rfl,z.fs,_,rfl,gf,?_⟩))
refine(iV rfl (iF hp.o T.aD T.aZ rfl (iM hs.st.o rfl ⟨x,_,_,_,_,m,q,rfl,hs.st,hs.ft,hs.h64,λl ks H1 hk s1 n1 h1=>?_⟩)))
have l64:ks.length<64:=by rw[hk.pm.length_eq];exact hs.h64
have sz:(64:Nat)<sizeLine:=by decide
refine⟨l,rfl,⟨_,SqL.of h1⟩,λD H2 nD s2 hD=>?_⟩
refine q8B (K:=K) (xs:=ks.map V.int) (D:=D) (λj H3=>Same H1 H3∧H3 D=some (.lst ((cutP (fst ct i) (ct i) (ks.take j)).map V.int))) ⟨s2,hD⟩ (λj H3 hp=>SqL.of (hp.1 _ _ h1)) (λj y H3 hy hj=>?_) (λH3 hj=>?_)
·obtain⟨sm,hd⟩:=hj;have hp3:=(hp.same s1).same sm;rw[mC]at hy;obtain⟨b,hb,rfl⟩:=mY.mp hy;have gc:=DGet.k (k:=Sum.inr (nm i)) hp3.c;rw[yW u hi]at gc;have e0:cutP (fst ct i) (ct i) (ks.take (j+1))=cutP (fst ct i) (ct i) (ks.take j)++cutP (fst ct i) (ct i) [b]:=by obtain⟨hj',rfl⟩:=kD.mp hb;rw[←m9 hj'];unfold cutP;rw[rB,mE]
 have ll:(cutP (fst ct i) (ct i) (ks.take j)).length≤64:=by unfold cutP;rw[hV];exact mI (gD _ _) (by rw[dE];lia)
 refine⟨_,rfl,_,rfl,_,_,rfl,rfl,_,rfl,?_⟩;by_cases z1:((fst ct i:Nat):Int)≤b
 ·rw[hI z1];refine iteT ?_;refine⟨_,rfl,iV rfl (iF hp3.o T.aD T.aT rfl ⟨_,rfl,z.cs,_,rfl,gc,_,_,rfl,rfl,iI ⟨_,rfl,?_⟩⟩)⟩;by_cases z2:b<((fst ct i:Nat):Int)+((ct i:Nat):Int)
  ·rw[hI z2];refine iteT ?_;refine⟨_,rfl,_,rfl,iI ⟨_,hd,by rw[hV];lia,λb' o e=>?_,?_⟩⟩
   ·rw[qC (qF e nD)];exact sm _ _ e
   rw[qH,e0,mE];unfold cutP;simp[z1,z2]
  rw[hG z2];refine iteF ⟨sm,?_⟩;rw[hd,e0];unfold cutP;simp[z2]
 rw[hG z1];refine iteF ⟨_,rfl,iteF ⟨sm,?_⟩⟩;rw[hd,e0];unfold cutP;simp[z1]
obtain⟨sm,hd⟩:=hj
rw[hV,dG]at hd
exact k D ks H3 hk (s1.trans sm) (s1.free nD) hd)
noncomputable def spRo(t:Adr):Sp:=λvs H Q E=>∃z x so sr m q n' W dk n nm ct sc i,vs=[.ref z.p,.str (nm i)]∧PtAt t H z x.s n nm ct sc∧PS t H x so sr m q n' W dk∧Unl n nm∧i<n∧∀H',Same H H'→Q (.int (max 0 ((sc i:Nat)-((cutP (fst ct i) (ct i) (W.map (·.1))).length:Int)))) H'
theorem q1U(T:Txt K mg t)(S:Fns K t):S.fO.Ok0 P w mg base 4 (spRo t):=by(
refine S.fO.F.ok0 q5M λcdv A _ s H vs Q E hr h=>?_
obtain⟨z,x,so,sr,m,q,n',W,dk,n,nm,ct,sc,i,rfl,hp,hs,u,hi,k⟩:=h
refine⟨_,(qD (qO (qP (q65 rfl) (by rfl) T.aBU (by kernel_rfl) (qA qI (qA (qM yJ (jB (pv 0) T.aD T.eW (vZ T S).mono hr S.bJ.b .nil qK (qA (pv 1) qE)) (qP jT (by rfl) T.fY mR (qA (jB (pv 0) T.aD T.fI (zP T S).mono hr S.eJ.b .nil qK (qA (pv 1) qE)) qE))) qE))))),?_⟩
try dsimp-beta-proj-iota-zeta-eta only[wishK,cxK]
refine(iV rfl (iM hp.o rfl ⟨_,rfl,z,x.s,n,nm,ct,sc,i,rfl,hp,u,hi,?_⟩))
refine(iV rfl (iM hp.o rfl ⟨_,rfl,z,x,so,sr,m,q,n',W,dk,n,nm,ct,sc,i,rfl,hp,hs,u,hi,λl ks H1 hk s1 n1 h1=>?_⟩))
have e:(cutP (fst ct i) (ct i) ks).length=(cutP (fst ct i) (ct i) (W.map (·.1))).length:=(q6Q (hk.pm.trans hs.pm)).length_eq
refine⟨l,_,rfl,.inl (SqL.of h1),iI ?_⟩
refine⟨_,_,rfl,?_⟩
have kk:=k H1 s1
rw[hV,e]
have e2:∀a:Int,(if a>0 then a else 0)=max 0 a:=λa=>by split<;>lia
rw[e2]
exact kk)
noncomputable def qHZ(t:Adr):Sp:=λvs H Q E=>∃z x so sr m q n' W n nm ct sc i,∃j:Int,vs=[.ref z.p,.str (nm i),.int j]∧PtAt t H z x.s n nm ct sc∧PS t H x so sr m q n' W false∧Unl n nm∧i<n∧0≤j∧j<(ct i:Nat)∧fst ct n≤so∧((fst ct i:Nat)+j∉W.map (·.1)→∀H',Same H H'→Q .non H')∧(∀v,((fst ct i:Nat)+j,v)∈W→∀H',Same H H'→Q (.int v) H')
theorem q9L{ct:Nat→Nat}{n i:Nat}{j:Int}{so:Nat}(hi:i<n)(j1:j<(ct i:Nat))(hs:fst ct n≤so):((fst ct i:Nat):Int)+j<(so:Int):=by have:=q2P (ct:=ct) (show i+1≤n from hi);have e:fst ct (i+1)=fst ct i+ct i:=rfl;lia
theorem q5Z(T:Txt K mg t)(S:Fns K t):S.iU.Ok0 P w mg base 6 (qHZ t):=by(
refine S.iU.F.ok0 q5L λcdv A _ s H vs Q E hr h=>?_
obtain⟨z,x,so,sr,m,q,n',W,n,nm,ct,sc,i,j,rfl,hp,hs,u,hi,j0,j1,hso,k1,k2⟩:=h
refine⟨_,(qD (qO (jB (qJ (pv 0) rfl) T.aB T.aAC (q5X T S).mono hr S.iG.b .nil qK (qA (jB (pv 0) T.aD T.eU (zA T S).mono hr S.bK.b .nil qK (qA (pv 1) (qA (pv 2) qE))) qE)))),?_⟩
try dsimp-beta-proj-iota-zeta-eta only[wishK,cxK]
refine(iV rfl (iF hp.o T.aD T.aZ rfl (iM hs.st.o rfl ?_)))
refine(iV rfl (iM hp.o rfl ⟨_,rfl,_,rfl,z,x.s,n,nm,ct,sc,i,j,rfl,hp,u,hi,j0,j1,?_⟩))
exact⟨x,so,sr,m,q,n',W,_,rfl,hs,by lia,q9L hi j1 hso,k1,k2⟩)
noncomputable def spPw(t:Adr):Sp:=λvs H Q E=>∃z x so sr m q n' W n nm ct sc i,∃j v:Int,vs=[.ref z.p,.str (nm i),.int j,.int v]∧PtAt t H z x.s n nm ct sc∧PS t H x so sr m q n' W false∧Unl n nm∧i<n∧0≤j∧j<(ct i:Nat)∧fst ct n≤so∧0≤v∧v<10 ^ 30∧n'<q.B*q.P∧n'<1000∧((fst ct i:Nat)+j∈W.map (·.1)∨(cutP (fst ct i) (ct i) (W.map (·.1))).length<sc i→((fst ct i:Nat)+j∈W.map (·.1)∨((W.length:Nat):Int)<sr)∧∀m' q' p H',PS t H' x so sr m' q' (n'+1) (putW W ((fst ct i:Nat)+j) v) false→q'.B=q.B→q'.P=q.P→Keep (t.aA::sf x) H H'→Q (.int p) H')∧(¬((fst ct i:Nat)+j∈W.map (·.1)∨(cutP (fst ct i) (ct i) (W.map (·.1))).length<sc i)→∀H',Same H H'→E (.ref t.C_Full) none H')
theorem q5H(T:Txt K mg t)(S:Fns K t)(B:BmIn base mg):S.fZ.OkE P w mg base 13 (spPw t):=by(
refine S.fZ.F.okE q0Y (λvs H Q E h=>?_) (λcdv A outer s H vs Q E hr h=>?_)
·repeat obtain⟨_,h⟩:=h
 all_goals subst_vars;rfl
obtain⟨z,x,so,sr,m,q,n',W,n,nm,ct,sc,i,j,v,rfl,hp,hs,u,hi,j0,j1,hso,v0,v1,nb,n9,k1,k2⟩:=h
refine⟨_,(qB (qV (i:=4) q0Y.nd rfl (Or.inl rfl) (jB (pv 0) T.aD T.eU (zA T S).mono hr S.bK.b .nil qK (qA (pv 1) (qA (pv 2) qE)))) (qB (j8 (jO (jF (qR (q3T T S).mono hr rfl T.oS T.tM S.oK.b .nil qK (qA (pv 3) qE)))) (qD qT) qL) (qB (j8 (PW.pt (q8V (j9 v9 (jB (pv 0) T.aD T.l9 (q1U T S).mono hr S.fO.b .nil qK (qA (pv 1) qE)) qI (qZ _)) (q6U (j9 zU (pv 2) (jB (pv 0) T.aD T.fI (zP T S).mono hr S.eJ.b .nil qK (qA (pv 1) qE)) rfl)))) (qD (q2G zS rfl rfl T.t6 T.aBK (qA qS qE))) qL) (qD (qO (jB (qJ (pv 0) rfl) T.aB T.t7 (q5G T S B).mono hr S.fX.b .nil qK (qA (pv 4) (qA (pv 3) qE)))))))),?_⟩
try dsimp-beta-proj-iota-zeta-eta only[wishK,cxK]
refine(iV rfl (iM hp.o rfl ⟨_,rfl,_,rfl,z,x.s,n,nm,ct,sc,i,j,rfl,hp,u,hi,j0,j1,?_⟩))
refine⟨_,rfl,.int v,rfl,.int _,?_⟩
refine⟨_,rfl,?_⟩
rw[inBi v0 (by lia)]
refine iteF ?_
refine(iV rfl (iM hp.o rfl ⟨_,rfl,z,x,so,sr,m,q,n',W,false,n,nm,ct,sc,i,rfl,hp,hs,u,hi,λH1 s1=>?_⟩))
have hp1:=hp.same s1
have hs1:=hs.same s1
generalize hL:(cutP (fst ct i) (ct i) (W.map (·.1))).length=L at k1 k2 ⊢
refine⟨rfl,_,rfl,?_⟩
rw[zD]
by_cases zz:L<sc i
·rw[hG (show ¬max 0 (((sc i:Nat):Int)-(L:Int))=0 by lia)];refine iteF ?_;exact(iV rfl (iF (hp.same s1).o T.aD T.aZ rfl ⟨x.s,x.sd,_,rfl,(hs.same s1).st.o,rfl,_,rfl,_,rfl,x,so,sr,m,q,n',W,_,v,rfl,hs.same s1,by lia,q9L hi j1 hso,v0,v1,nb,n9,(k1 (.inr zz)).1,λm' q' p H' a b c kk=>(k1 (.inr zz)).2 m' q' p H' a b c ((Keep.same s1).trans kk)⟩))
rw[hI (show max 0 (((sc i:Nat):Int)-(L:Int))=0 by lia)]
refine iteT ?_
refine⟨_,rfl,iV rfl (iM hp1.o rfl ⟨_,rfl,z,x,so,sr,m,q,n',W,false,n,nm,ct,sc,i,rfl,hp1,hs1,u,hi,λl ks H2 hk s2 n2 h2=>?_⟩)⟩
refine⟨l,_,rfl,.inl (SqL.of h2),rfl,qD0,_,rfl,?_⟩
have s12:=s1.trans s2
show if(!inV (.int j) ((cutP (fst ct i) (ct i) ks).map V.int))=true then _ else _
have e:j∈cutP (fst ct i) (ct i) ks↔((fst ct i:Nat):Int)+j∈W.map (·.1):=by rw[q8M,(hk.pm.trans hs.pm).mem_iff];exact⟨λa=>a.1,λa=>⟨a,j0,j1⟩⟩
rw[q4D]
by_cases y:((fst ct i:Nat):Int)+j∈W.map (·.1)
·rw[hI (e.mpr y)];refine iteF ?_;exact(iV rfl (iF (hp.same s12).o T.aD T.aZ rfl ⟨x.s,x.sd,_,rfl,(hs.same s12).st.o,rfl,_,rfl,_,rfl,x,so,sr,m,q,n',W,_,v,rfl,hs.same s12,by lia,q9L hi j1 hso,v0,v1,nb,n9,(k1 (.inl y)).1,λm' q' p H' a b c kk=>(k1 (.inl y)).2 m' q' p H' a b c ((Keep.same s12).trans kk)⟩))
rw[hG (λa=>y (e.mp a))]
exact iteT ⟨sz1,k2 (λa=>a.elim y zz) H2 s12⟩)
noncomputable def spTl(t:Adr):Sp:=λvs H Q E=>∃z s n nm ct sc,vs=[.ref z.p]∧PtAt t H z s n nm ct sc∧Unl n nm∧n≤4∧∀l us H',Same H H'→H l=none→H' l=some (.lst us)→Rws H' us n nm ct sc→Q (.ref l) H'
theorem uQ(T:Txt K mg t)(S:Fns K t):S.bP.Ok0 P w mg base 1 (spTl t):=by(
refine S.bP.F.ok0 q5N λcdv A _ s H vs Q E hr h=>?_
obtain⟨z,s',n,nm,ct,sc,rfl,hp,u,n4,q⟩:=h
have hu:=uT hr
have ob:z.p≠z.ss:=jK hp.o hp.s (by intro z;cases z)
have sz:(4:Nat)<sizeLine:=by decide
refine⟨_,(qD (qO (qA3 (yY ["self","name","share"] [0] rfl (qGD (qFB r9 cX PySem.F.type_dict_items qCH (qJ (pv 0) rfl))) (λ_ _ _ _ _=>(qE4 (K:=K) (n:=2) rfl rfl (jW (qY (i:=1) (show List.Nodup (["self","name","share"]:List Str)from by decide) rfl (Or.inl rfl)) (jW (qY (i:=2) (show List.Nodup (["self","name","share"]:List Str)from by decide) rfl (Or.inl rfl)) q15)) rfl rfl)) (λ_ _ _ _ _=>yX) (λ_ _ _ _ _=>(vV (qA (pv 1) (qA (qW hu (q2L (K:=K) rfl (pv 0) rfl) (pv 1) (λ_ _=>rfl)) (qA (pv 2) qE))))) (by kernel_rfl) (qDS (q89 (by decide) (q89 (by decide) qDR))))))),?_⟩
try dsimp-beta-proj-iota-zeta-eta only[wishK,cxK]
refine⟨z.ss,_,hp.s,iV rfl (iF hp.o T.aD T.aJ rfl ⟨.inr (.inr (.inl ⟨rfl,.inl ⟨_,hp.s⟩⟩)),z.ss,_,rfl,rfl,hp.s,λv nv=>?_⟩)⟩
have sv:Same H (upd H v (q3P v z.ss)):=Same.upd nv
have vv:(upd H v (q3P v z.ss)) v=some (q3P v z.ss):=qH
generalize upd H v (q3P v z.ss)=H1 at sv vv ⊢
refine⟨v,z.ss,_,rfl,vv,sv _ _ hp.s,λo D H2 nD s2 hD=>?_⟩
have kk:∀x u,x≠z.ss→H x=some u→H2 x=some u:=λx u nx e=>s2 _ _ (by rw[qC nx];exact sv _ _ e)
have fz:H2 z.ss=some (.frz o (.dK (dN n nm λi=>.int (sc i:Nat)))):=s2 _ _ qH
have nDH:H D=none:=by
 cases y':H D with
 |none=>rfl
 |some u=>
  by_cases y:D=z.ss
  ·rw[y,qH]at nD;cases nD
  rw[qC y,sv _ _ y']at nD;cases nD
have Dw:D≠z.ss:=λy=>by rw[y,fz]at hD;cases hD
refine qDY (D:=D) (λi H3=>H3 z.ss=some (.frz o (.dK (dN n nm λi=>.int (sc i:Nat))))∧(∀x u,x≠z.ss→H x=some u→H3 x=some u)∧∃us,H3 D=some (.lst us)∧Rws H3 us i nm ct sc) ⟨fz,kk,[],hD,rfl,λi hi=>by lia⟩ (λi H3 hp=>hp.1) (λi kv W H3 hk hj nW=>?_) (λH3 hj=>?_)
·obtain⟨fz3,k3,us,hd,pr⟩:=hj;have hi:i<n:=by have:=(kD.mp hk).1;rw[vM]at this;exact this
 obtain rfl:((Sum.inr (nm i):Key),V.int (sc i:Nat))=kv:=by
  have e:(dN n nm λi=>.int (sc i:Nat))[i]?=some ((Sum.inr (nm i):Key),V.int (sc i:Nat)):=by unfold dN;rw[mC,dB hi];rfl
  rw[e]at hk;exact kP hk
 have sW:Same H3 (upd H3 W (.tup [.str (nm i),.int (sc i:Nat)])):=Same.upd nW;have hW:(upd H3 W (.tup [.str (nm i),.int (sc i:Nat)])) W=some (.tup [.str (nm i),.int (sc i:Nat)]):=qH;show gTup _ _ _ _ _ (upd H3 W (.tup [.str (nm i),.int (sc i:Nat)])) _;generalize upd H3 W (.tup [.str (nm i),.int (sc i:Nat)])=H4 at sW hW ⊢;refine⟨W,_,rfl,SqT.of hW,rfl,_,_,rfl,_,_,rfl,rfl,?_⟩;have gc:=DGet.k (k:=Sum.inr (nm i)) (sW _ _ (k3 _ _ hp.d2 hp.c));rw[yW u hi]at gc;dsimp only[q0F];refine iteT ?_;refine⟨_,rfl,iV rfl (iF (sW _ _ (k3 _ _ ob hp.o)) T.aD T.aT rfl ⟨_,rfl,z.cs,_,rfl,gc,_,rfl,sz3,λtp H5 n5 s5 h5=>?_⟩)⟩;have s35:=sW.trans s5;have hd5:=s35 _ _ hd;have lu:=pr.1;have tpu:∀b xs,H3 b=some (.tup xs)→(upd H5 D (.lst (us++[.ref tp]))) b=some (.tup xs):=λb xs e=>by rw[qC (λy=>by rw[y,hd]at e;cases e)];exact s35 _ _ e
 refine⟨us,hd5,by lia,?_,λx' u' nx e'=>?_,us++[.ref tp],qH,?_⟩
 ·rw[qC Dw.symm];exact s35 _ _ fz3
 ·rw[qC (qF e' nDH)];exact s35 _ _ (k3 _ _ nx e')
 have pr5:=pr.tp tpu;refine⟨by rw[mP,lu];rfl,λj hj=>?_⟩;by_cases y:j<i
 ·obtain⟨v',e,r⟩:=pr5.2 j y;exact⟨v',by rw[dP (by lia)];exact e,r⟩
 obtain rfl:j=i:=by lia
 refine⟨.ref tp,by rw[gT (by lia),lu];simp,tp,rfl,?_⟩;rw[qC (λy=>by rw[y,hd5]at h5;cases h5)];exact h5
obtain⟨fz3,k3,us,hd,pr⟩:=hj
rw[vM]at pr
refine⟨o,_,fz3,?_⟩
have sH:=qCO hp.s k3
refine q D us _ sH nDH (by rw[qC Dw];exact hd) (pr.tp λb xs e=>?_)
rw[qC (λy=>by rw[y,fz3]at e;cases e)]
exact e)
noncomputable def shN(sc:Nat→Nat)(i j c:Nat):Nat→Nat:=λk=>if k=j then(if j=i then sc i-c else sc j)+c else if k=i then sc i-c else sc k
noncomputable def spSf(t:Adr):Sp:=λvs H Q E=>∃z x so sr m q n' W dk n nm ct sc a b v,vs=[.ref z.p,a,b,v]∧PtAt t H z x.s n nm ct sc∧PS t H x so sr m q n' W dk∧Unl n nm∧n≤4∧Knd H a∧Knd H b∧Knd H v∧(¬(isP n nm a∧isP n nm b)→E (.ref t.C_NoPart) none H)∧(∀i j,i<n→j<n→a=.str (nm i)→b=.str (nm j)→(isF v=false→E (.ref t.C_NoValue) none H)∧∀c:Nat,v=.int (c:Int)→1≤c→((((sc i:Nat):Int)-c<max 1 ((cutP (fst ct i) (ct i) (W.map (·.1))).length:Int))→∀H',Same H H'→E (.ref t.C_Full) none H')∧(¬(((sc i:Nat):Int)-c<max 1 ((cutP (fst ct i) (ct i) (W.map (·.1))).length:Int))→∀H',PtAt t H' z x.s n nm ct (shN sc i j c)→Keep [z.ss] H H'→Q .non H'))
theorem q5I(T:Txt K mg t)(S:Fns K t):S.f8.OkE P w mg base 4 (spSf t):=by(
refine S.f8.F.okE q58 (λvs H Q E h=>?_) (λcdv A outer s H vs Q E hr h=>?_)
·repeat obtain⟨_,h⟩:=h
 all_goals subst_vars;rfl
obtain⟨z,x,so,sr,m,q,n',W,dk,n,nm,ct,sc,a,b,v,rfl,hp,hs,u,n4,ka,kb,kv,k1,k2⟩:=h
have hu:=uT hr
refine⟨_,(qB (jA (vJ zS (pv 0) T.aD T.aQ (jX T S).mono hr S.aK.b .nil (qA (pv 1) qE))) (qB (jA (vJ zS (pv 0) T.aD T.aQ (jX T S).mono hr S.aK.b .nil (qA (pv 2) qE))) (qB (j8 (jO (jF (qR (vS T S).mono hr rfl T.eC T.eD S.bT.b .nil qK (qA (pv 3) qE)))) (qD (q2G zS rfl rfl T.tX T.aA7 (qA qS qE))) qL) (qB (j8 (j9 q1J (qM yJ (qW hu (qJ (pv 0) rfl) (pv 1) (λ_ _=>rfl)) (pv 3)) (qP (q65 rfl) (by rfl) T.aBU (by kernel_rfl) (qA qI (qA (qP jT (by rfl) T.fY mR (qA (jB (pv 0) T.aD T.fI (zP T S).mono hr S.eJ.b .nil qK (qA (pv 1) qE)) qE)) qE))) (qZ _)) (qD (q2G zS rfl rfl T.t6 T.aBK (qA qS qE))) qL) (qB (q9X hu (qJ (pv 0) rfl) (pv 1) (pv 3) qF8 (λ_ _ _=>rfl)) (qD (q9X hu (qJ (pv 0) rfl) (pv 2) (pv 3) qBJ (λ_ _ _=>rfl)))))))),?_⟩
try dsimp-beta-proj-iota-zeta-eta only[wishK,cxK]
refine(iV rfl (iM hp.o rfl ⟨_,rfl,z,x.s,n,nm,ct,sc,a,rfl,hp,u,ka,λpa=>?_,λy=>k1 λw=>y w.1⟩))
refine(iV rfl (iM hp.o rfl ⟨_,rfl,z,x.s,n,nm,ct,sc,b,rfl,hp,u,kb,λpb=>?_,λy=>k1 λw=>y w.2⟩))
obtain⟨i,hi,rfl⟩:=pa
obtain⟨j,hj,rfl⟩:=pb
obtain⟨k3,k4⟩:=k2 i j hi hj rfl rfl
refine⟨_,rfl,v,rfl,kv,_,rfl,?_⟩
cases hv:isF v with
|false=>exact iteT ⟨sz1,k3 hv⟩
|true=>
 refine iteF ?_;obtain⟨c,rfl,c1⟩:∃c:Nat,v=.int (c:Int)∧1≤c:=by
  cases v with
  |int c=>have c1:1≤c:=gL hv;exact⟨c.toNat,by rw[rR (by lia)],by lia⟩
  |_=>cases hv
 obtain⟨k5,k6⟩:=k4 c rfl c1;have gs:=DGet.k (k:=Sum.inr (nm i)) hp.s;rw[yW u hi]at gs;refine(iV rfl (iF hp.o T.aD T.aJ rfl ⟨_,rfl,z.ss,_,rfl,gs,_,rfl,iI ?_⟩));refine(iV rfl (iM hp.o rfl ⟨_,rfl,z,x,so,sr,m,q,n',W,dk,n,nm,ct,sc,i,rfl,hp,hs,u,hi,λl ks H1 hk s1 n1 h1=>?_⟩));have e:(cutP (fst ct i) (ct i) ks).length=(cutP (fst ct i) (ct i) (W.map (·.1))).length:=(q6Q (hk.pm.trans hs.pm)).length_eq;refine⟨l,_,rfl,.inl (SqL.of h1),?_⟩;rw[hV,e];generalize (cutP (fst ct i) (ct i) (W.map (·.1))).length=L at k5 k6 ⊢;refine⟨_,_,rfl,_,_,rfl,rfl,_,rfl,?_⟩;rw[show(if(L:Int)>1 then(L:Int)else 1)=max 1 (L:Int) by split<;>lia];by_cases zf:((sc i:Nat):Int)-(c:Int)<max 1 (L:Int)
 ·rw[hI zf];exact iteT ⟨sz1,k5 zf H1 s1⟩
 rw[hG zf];refine iteF ?_;have hp1:=hp.same s1;have sz:(4:Nat)<sizeLine:=by decide
 have gs1:=DGet.k (k:=Sum.inr (nm i)) hp1.s;rw[yW u hi]at gs1;refine(iV rfl (iF hp1.o T.aD T.aJ rfl ⟨_,rfl,z.ss,_,rfl,gs1,_,rfl,iI ⟨_,DPut.k (k:=Sum.inr (nm i)) hp1.s (by rw[vM];lia),?_⟩⟩));rw[q79 u hi];have e1:(dN n nm λj=>if j=i then V.int (((sc i:Nat):Int)-(c:Int))else V.int ((sc j:Nat):Int))=dN n nm λk=>.int ((if k=i then sc i-c else sc k:Nat):Int):=uX λk _=>by
  by_cases y:k=i
  ·rw[kJ y,kJ y,lO (by lia)]
  rw[kI y,kI y]
 rw[e1];have kp:Keep [z.ss] H1 (upd H1 z.ss (.dK (dN n nm λk=>.int ((if k=i then sc i-c else sc k:Nat):Int)))):=Keep.upd hp1.s (λ_ y=>by cases y) (by simp);have hs2:(upd H1 z.ss (.dK (dN n nm λk=>.int ((if k=i then sc i-c else sc k:Nat):Int)))) z.ss=some (.dK (dN n nm λk=>.int ((if k=i then sc i-c else sc k:Nat):Int))):=qH;generalize upd H1 z.ss (.dK (dN n nm λk=>.int ((if k=i then sc i-c else sc k:Nat):Int)))=H2 at kp hs2 ⊢;have ob:z.p∉[z.ss]:=λy=>by have:=hp1.o;rw[kC.mp y,hp1.s]at this;cases this
 have o2:=kp.k _ _ ob hp1.o;have gs2:=DGet.k (k:=Sum.inr (nm j)) hs2;rw[yW u hj]at gs2;refine(iV rfl (iF o2 T.aD T.aJ rfl ⟨_,rfl,z.ss,_,rfl,gs2,_,rfl,iI ⟨_,DPut.k (k:=Sum.inr (nm j)) hs2 (by rw[vM];lia),?_⟩⟩));rw[q79 u hj];have kp3:Keep [z.ss] H2 (upd H2 z.ss (.dK (dN n nm λk=>if k=j then V.int (((if j=i then sc i-c else sc j:Nat):Int)+(c:Int))else .int ((if k=i then sc i-c else sc k:Nat):Int)))):=Keep.upd hs2 (λ_ y=>by cases y) (by simp);have hs3:(upd H2 z.ss (.dK (dN n nm λk=>if k=j then V.int (((if j=i then sc i-c else sc j:Nat):Int)+(c:Int))else .int ((if k=i then sc i-c else sc k:Nat):Int)))) z.ss=some (.dK (dN n nm λk=>.int ((shN sc i j c k:Nat):Int))):=by
  rw[qH];congr 2;exact uX λk _=>by
   unfold shN;by_cases y:k=j
   ·rw[kJ y,kJ y,wV]
   rw[kI y,kI y]
 have n1:z.fs∉[z.ss]:=λy=>hp.d1 (kC.mp y);have n2:z.cs∉[z.ss]:=λy=>hp.d2 (kC.mp y);exact k6 zf _ ⟨kp3.k _ _ ob o2,kp3.k _ _ n1 (kp.k _ _ n1 hp1.f),kp3.k _ _ n2 (kp.k _ _ n2 hp1.c),hs3,hp.d1,hp.d2⟩ (((Keep.same s1).trans kp).trans kp3))
noncomputable def qI0(t:Adr):Sp:=λvs H Q E=>∃p pd x so sr m q n' W dk l us n nm ct sc,vs=[.ref p,.ref x.s,.ref l]∧H p=some (.ins t.C_Parts pd [])∧PS t H x so sr m q n' W dk∧H l=some (.lst us)∧Rws H us n nm ct sc∧TabOk n nm ct sc∧fst ct n≤so∧((fst sc n:Nat):Int)≤sr∧∀fs cs ss H',PtAt t H' ⟨p,pd,fs,cs,ss⟩ x.s n nm ct sc→fs≠cs→H fs=none→H cs=none→H ss=none→(∀b o,b≠p→H b=some o→H' b=some o)→Q .non H'
theorem q1V(T:Txt K mg t)(S:Fns K t):S.fK.Ok0 P w mg base 5 (qI0 t):=by(
refine S.fK.F.ok0 yI λcdv A _ s H vs Q E hr h=>?_
obtain⟨p,pd,x,so,sr,m,q,n',W,dk,l,us,n,nm,ct,sc,rfl,hp,hs,hl,rw',ok,h1,h2,k⟩:=h
have hu:=uT hr
refine⟨_,(qB (jA (qR (q5Y T S).mono hr rfl T.xD T.xI S.iO.b .nil qK (qA (pv 2) (qA (qJ (pv 1) rfl) qE)))) (qB (jN (pv 0) (pv 1) rfl) (qB (jN (pv 0) uS rfl) (qB (jN (pv 0) uS rfl) (qB (jN (pv 0) uS rfl) (qB (qV (i:=3) yI.nd rfl (Or.inl rfl) qI) (qD (vG gI rfl (yA (pv 2)) (q2Z rfl (jW (qY (i:=4) yI.nd rfl (Or.inl rfl)) (jW (qY (i:=5) yI.nd rfl (Or.inl rfl)) (jW (qY (i:=6) yI.nd rfl (Or.inl rfl)) q15)))) (qB (uP hu (qJ (pv 0) rfl) (pv 4) (pv 3) rfl) (qB (uP hu (qJ (pv 0) rfl) (pv 4) (pv 5) rfl) (qB (uP hu (qJ (pv 0) rfl) (pv 4) (pv 6) rfl) (qD (qF4 (i:=3) yI.nd rfl (Or.inl rfl) (pv 5) q6V))))))))))))),?_⟩
try dsimp-beta-proj-iota-zeta-eta only[wishK,cxK]
refine⟨_,rfl,iV rfl (iF hs.st.o T.aB T.aN rfl ?_)⟩
refine⟨l,us,x.tm,x.td,n,nm,ct,sc,_,_,(so:Int),sr,_,_,rfl,hl,rw',ok,hs.st.te,by lia,h2,λH1 s1=>?_⟩
refine⟨_,rfl,_,rfl,p,_,pd,_,rfl,s1 _ _ hp,T.aD,T.aZ,by decide,?_⟩
have w1:Wm t.C_Parts p pd H1 (upd H1 p (.ins t.C_Parts pd (putF "store" (.ref x.s) []))) (putF "store" (.ref x.s) []) []:=⟨qH,Up.of (Same.refl H1),by simp,by simp⟩
refine λfs nfs=>?_
have w2:=w1.add nfs (Same.upd (o:=.dK []) nfs) qH
refine⟨_,rfl,p,_,pd,_,rfl,w2.i,T.aD,T.bG,by show 1<1000;decide,?_⟩
have w2:=w2.put "firsts" (.ref fs)
refine λcs ncs=>?_
have w3:=w2.add ncs (Same.upd (o:=.dK []) ncs) qH
refine⟨_,rfl,p,_,pd,_,rfl,w3.i,T.aD,T.aT,by show 2<1000;decide,?_⟩
have w3:=w3.put "counts" (.ref cs)
refine λss nss=>?_
have w4:=w3.add nss (Same.upd (o:=.dK []) nss) qH
refine⟨_,rfl,p,_,pd,_,rfl,w4.i,T.aD,T.aJ,by show 3<1000;decide,?_⟩
have w4:=w4.put "shares" (.ref ss)
have nd:[fs,cs,ss].Nodup:=w4.n
simp only[m6,kR,gQ,not_or,wQ]at nd
have e1:=(w4.o (fs,.dK []) (by simp)).1
have e2:=(w4.o (cs,.dK []) (by simp)).1
have e3:=(w4.o (ss,.dK []) (by simp)).1
have f1:=w4.fr fs (by simp)
have f2:=w4.fr cs (by simp)
have f3:=w4.fr ss (by simp)
have wi:=w4.i
have wu:=w4.u
clear w1 w2 w3 w4 nfs ncs nss
generalize upd _ p _=G at e1 e2 e3 wi wu ⊢
have px:l≠p:=jK hl hp (by intro y;cases y)
have hlG:G l=some (.lst us):=wu _ _ px (s1 _ _ hl)
have rwG:Rws G us n nm ct sc:=rw'.tp λb xs e=>wu _ _ (jK e hp (by intro y;cases y)) (s1 _ _ e)
have ln:=rw'.1
have n4:=ok.n4
have sz:(4:Nat)<sizeLine:=by decide
refine⟨_,rfl,l,rfl,⟨_,SqL.of hlG⟩,?_⟩
refine q0D (K:=K) (xs:=us) (λi σ' H2=>(∃y4 y5 y6,σ'=[some (.ref p),some (.ref x.s),some (.ref l),some (.int ((fst ct i:Nat):Int)),y4,y5,y6])∧H2 fs=some (.dK (dN i nm λi=>.int (fst ct i:Nat)))∧H2 cs=some (.dK (dN i nm λi=>.int (ct i:Nat)))∧H2 ss=some (.dK (dN i nm λi=>.int (sc i:Nat)))∧(∀b o,b≠fs→b≠cs→b≠ss→G b=some o→H2 b=some o)) ⟨⟨_,_,_,rfl⟩,e1,e2,e3,λb o _ _ _ e=>e⟩ (λi σ' H2 hi hj=>?_) (λi y σ' H2 hy hj=>?_) (λσ' H2 hj=>?_)
·exact SqL.of (hj.2.2.2.2 _ _ (jK hlG e1 (by intro y;cases y)) (jK hlG e2 (by intro y;cases y)) (jK hlG e3 (by intro y;cases y)) hlG)
·obtain⟨⟨y4,y5,y6,rfl⟩,g1,g2,g3,kp⟩:=hj;have hi:i<n:=by rw[←ln];exact(kD.mp hy).1
 obtain⟨a,e,ha⟩:=rwG.at hi;rw[hy]at e;cases e;have ha2:=kp _ _ (jK ha e1 (by intro y;cases y)) (jK ha e2 (by intro y;cases y)) (jK ha e3 (by intro y;cases y)) ha;refine⟨a,_,rfl,SqT.of ha2,rfl,_,_,rfl,_,_,rfl,_,_,rfl,rfl,?_⟩;have u:=ok.u.less (show i+1≤n from hi);have pf:=jK wi e1 (by intro y;cases y);have pc:=jK wi e2 (by intro y;cases y);have ps:=jK wi e3 (by intro y;cases y);have wi2:=kp _ _ pf pc ps wi;refine⟨_,rfl,iV rfl (iF wi2 T.aD T.bG rfl ⟨_,rfl,fs,_,rfl,DPut.k (k:=Sum.inr (nm i)) g1 (by rw[vM];lia),?_⟩)⟩;rw[q56 u];refine⟨_,rfl,iV rfl (iF (by rw[qC pf];exact wi2) T.aD T.aT rfl ⟨_,rfl,cs,_,rfl,DPut.k (k:=Sum.inr (nm i)) (by rw[qC (dD nd.1.1)];exact g2) (by rw[vM];lia),?_⟩)⟩;rw[q56 u];refine⟨_,rfl,iV rfl (iF (by rw[qC pc,qC pf];exact wi2) T.aD T.aJ rfl ⟨_,rfl,ss,_,rfl,DPut.k (k:=Sum.inr (nm i)) (by rw[qC (dD nd.2.1),qC (dD nd.1.2)];exact g3) (by rw[vM];lia),?_⟩)⟩;rw[q56 u];have ed:∀f:Nat→V,(dN (i+1) nm λj=>if j=i then f i else f j)=dN (i+1) nm f:=λf=>uX λj _=>by
  by_cases y:j=i
  ·rw[kJ y,y]
  rw[kI y]
 have d1:=ed λi=>.int (fst ct i:Nat);have d2:=ed λi=>.int (ct i:Nat);have d3:=ed λi=>.int (sc i:Nat);rw[d1,d2,d3];refine⟨_,rfl,_,rfl,iI ⟨⟨some (.str (nm i)),some (.int (ct i:Nat)),some (.int (sc i:Nat)),by rw[show((fst ct (i+1):Nat):Int)=(fst ct i:Nat)+(ct i:Nat)from wV _ _];rfl⟩,?_,?_,qH,λb o b1 b2 b3 e=>?_⟩⟩
 ·rw[qC nd.1.2,qC nd.1.1,qH]
 ·rw[qC nd.2.1,qH]
 rw[qC b3,qC b2,qC b1];exact kp b o b1 b2 b3 e
obtain⟨⟨y4,y5,y6,rfl⟩,g1,g2,g3,kp⟩:=hj
rw[ln]at g1 g2 g3
have hn:∀{b:Addr} {o:HO},H b=some o→b≠fs∧b≠cs∧b≠ss:=fun {b o} e=>⟨λy=>(by rw[y,s1.free f1]at e;cases e),λy=>(by rw[y,s1.free f2]at e;cases e),λy=>(by rw[y,s1.free f3]at e;cases e)⟩
refine k fs cs ss H2 ⟨?_,g1,g2,g3,nd.1.2,nd.2.1⟩ nd.1.1 (s1.free f1) (s1.free f2) (s1.free f3) λb o nb e=>?_
·exact kp _ _ (jK wi e1 (by intro y;cases y)) (jK wi e2 (by intro y;cases y)) (jK wi e3 (by intro y;cases y)) wi
obtain⟨z1,z2,z3⟩:=hn e
exact kp b o z1 z2 z3 (wu _ _ nb (s1 _ _ e)))
noncomputable def mkS(l:List Nat):Str:=⟨l.toArray⟩
theorem qD1{l:List Nat}{c:Nat}:mkS l++(⟨#[c]⟩:Str)=mkS (l++[c]):=by show(⟨l.toArray++#[c]⟩:Str)=⟨(l++[c]).toArray⟩;simp
theorem qAG{l:List Nat}:(mkS l).length=l.length:=by simp[mkS,Str.length]
noncomputable def szS(cell:Int):Nat:=(1+cell%8).toNat
noncomputable def baS(cell:Int)(j:Nat):Int:=(cell / ((j:Int)+2)+3*(j:Int))%26
noncomputable def leS(cell place:Int)(k j:Nat):Nat:=((baS cell j+(k:Int)*(if(j:Int)=place%(szS cell:Int)then 1 else 0))%26).toNat
noncomputable def nmS(cell place:Int)(k:Nat):Str:=mkS ((List.range (szS cell)).map λj=>97+leS cell place k j)
theorem qD2(cell:Int):1≤szS cell∧szS cell≤8∧((szS cell:Nat):Int)=1+cell%8:=by unfold szS;lia
theorem q9M{i:Nat}(h:i<26):atI (Str.ofString "abcdefghijklmnopqrstuvwxyz").cps.toList (i:Int)=some (97+i):=by
 have:∀i:Nat,i<26→atI (Str.ofString "abcdefghijklmnopqrstuvwxyz").cps.toList (i:Int)=some (97+i):=by decide+kernel
 exact this i h
theorem qGR:∀i,i<26→lowC (97+i)=true:=by decide+kernel
theorem qGS{cell place:Int}{k:Nat}:isNm (.str (nmS cell place k))=true:=by(
obtain⟨a,b,_⟩:=qD2 cell
have l:(nmS cell place k).length=szS cell:=by unfold nmS;rw[qAG,hV,mL]
show(decide (1≤(nmS cell place k).length)&&decide ((nmS cell place k).length≤8)&&(nmS cell place k).cps.toList.all lowC)=true
rw[l,hI a,hI b]
show(((List.range (szS cell)).map λj=>97+leS cell place k j).toArray.toList.all lowC)=true
rw[sD,lR,gR]
intro j _
refine qGR _ ?_
unfold leS
lia)
theorem qEK{cell place:Int}:Unl 4 (nmS cell place):=by(
intro i j hi hj e
obtain⟨a,b,c⟩:=qD2 cell
have e1:((List.range (szS cell)).map λp=>97+leS cell place i p)=(List.range (szS cell)).map λp=>97+leS cell place j p:=by have:=dS (λs:Str=>s.cps.toList) e;simpa[nmS,mkS]using this
have hp:(place%(szS cell:Int)).toNat<szS cell:=by have:=rC place (show(0:Int)<(szS cell:Int) by lia);have:=rF place (show((szS cell:Nat):Int)≠0 by lia);lia
have e2:=List.map_inj_left.mp e1 _ (kW.mpr hp)
have hq:(((place%(szS cell:Int)).toNat:Nat):Int)=place%(szS cell:Int):=rR (rF place (by lia))
unfold leS at e2
rw[kJ hq]at e2
generalize baS cell _=B at e2
lia)
noncomputable def qI1:Sp:=λvs H Q _=>∃cell place:Int,∃many:Nat,vs=[.int cell,.int place,.int (many:Int)]∧many≤4∧∀l H',Same H H'→H l=none→H' l=some (.lst ((List.range many).map λk=>.str (nmS cell place k)))→Q (.ref l) H'
theorem q7S(T:Txt K mg t)(S:Fns K t):S.oX.Ok0 P w mg base 1 qI1:=by(
refine S.oX.F.ok0 jV λcdv A _ s H vs Q E hr h=>?_
obtain⟨cell,place,many,rfl,m4,q⟩:=h
obtain⟨z1,z8,ez⟩:=qD2 cell
have sz:(100:Nat)<sizeLine:=by decide
refine⟨_,(qB (qV (i:=3) jV.nd rfl (Or.inl rfl) qS) (qB (qV (i:=4) jV.nd rfl (Or.inl rfl) (qM yG qI (qM jZ (pv 0) qI))) (qB (q2I (i:=5) ["_law_cell","_law_k"] [0] rfl (vD rfl T.iN (qA (pv 4) qE)) (λ_ _ _ _ _=>(qY (i:=1) (show List.Nodup (["_law_cell","_law_k"]:List Str)from by decide) rfl (Or.inl rfl))) (λ_ _ _ _ _=>yX) (λ_ _ _ _ _=>(qM jZ (qM yG (qM yD (pv 0) (qM yG (pv 1) qI)) (qM zT qI (pv 1))) qI)) (by kernel_rfl) (y3 (by decide)) jV.nd rfl (Or.inl rfl)) (qB (qV (i:=6) jV.nd rfl (Or.inl rfl) (yB qE)) (qB (vG gI rfl (vD rfl T.iN (qA (pv 2) qE)) (qY (i:=7) jV.nd rfl (Or.inl rfl)) (qB (qV (i:=8) jV.nd rfl (Or.inl rfl) qS) (qB (vG gI rfl (vD rfl T.iN (qA (pv 4) qE)) (qY (i:=9) jV.nd rfl (Or.inl rfl)) (qB (qV (i:=10) jV.nd rfl (Or.inl rfl) (qM zT (pv 7) (q31 qAM (by rfl) T.aBP (by kernel_rfl) (qA (yM v9 (pv 9) (qM jZ (pv 1) (pv 4)) (qZ _)) qE)))) (qD (qV (i:=8) jV.nd rfl (Or.inl rfl) (qM q1X (pv 8) (jQ qFA (pv 3) (qM jZ (qM yG (jQ jR (pv 5) (pv 9) (λ_ _=>rfl)) (pv 10)) qI) (λ_ _=>rfl))))))) (qD (jA (q4O gG gA gB u9 (pv 6) (qA (pv 8) qE))))))) (qD (qO (pv 6)))))))),?_⟩
try dsimp-beta-proj-iota-zeta-eta only[wishK,cxK]
refine⟨_,rfl,iI ⟨(by show(0:Int)<8;decide),iI ?_⟩⟩
dsimp only
rw[←ez]
refine⟨_,rfl,_,rfl,by lia,by lia,λD H1 nD s1 hD=>?_⟩
rw[g7]
refine qAW (D:=D) (λi H3=>Same H H3∧H3 D=some (.lst ((List.range i).map λj=>.int (baS cell j)))) ⟨s1,hD⟩ (λi H3 hi hp=>?_) (λH3 hp=>?_)
·obtain⟨sm,hd⟩:=hp;have e0:(cell / ((0+(i:Int))+2)+3*(0+(i:Int)))%26=baS cell i:=by rw[dX];rfl
 refine⟨_,rfl,_,rfl,iI (iI ⟨⟨by lia,by lia⟩,_,rfl,iI ⟨.inl ⟨by decide,by decide⟩,iI (iI ⟨(by show(0:Int)<26;decide),_,hd,by rw[hV,mL];lia,λb o e=>?_,?_⟩)⟩⟩)⟩
 ·rw[qC (qF e nD)];exact sm _ _ e
 rw[qH,gN,mE];dsimp only;rw[e0];rfl
obtain⟨sm,hd⟩:=hp
refine⟨sz0,λl H4 nl s4 hl=>?_⟩
have nl0:=sm.free nl
refine⟨_,rfl,_,rfl,by lia,by lia,?_⟩
rw[g7]
have Dl:D≠l:=qF hd nl
refine zX (λi σ' H5=>(∃y7 y8 y9 y10,σ'=[some (.int cell),some (.int place),some (.int (many:Int)),some (.str "abcdefghijklmnopqrstuvwxyz"),some (.int (szS cell:Nat)),some (.ref D),some (.ref l),y7,y8,y9,y10])∧H5 l=some (.lst ((List.range i).map λk=>.str (nmS cell place k)))∧H5 D=some (.lst ((List.range (szS cell)).map λj=>.int (baS cell j)))∧Same H H5) ⟨⟨_,_,_,_,rfl⟩,hl,s4 _ _ hd,sm.trans s4⟩ (λi σ' H5 D' nxt hi hp=>?_) (λσ' H5 hp=>?_)
·obtain⟨⟨y7,y8,y9,y10,rfl⟩,hl5,hd5,s5⟩:=hp;refine⟨_,rfl,_,rfl,by lia,by lia,?_⟩;rw[g7];refine zX (λj σ' H6=>(∃y9 y10,σ'=[some (.int cell),some (.int place),some (.int (many:Int)),some (.str "abcdefghijklmnopqrstuvwxyz"),some (.int (szS cell:Nat)),some (.ref D),some (.ref l),some (.int (0+(i:Int))),some (.str (mkS ((List.range j).map λj=>97+leS cell place i j))),y9,y10])∧H6=H5) ⟨⟨_,_,rfl⟩,rfl⟩ (λj σ' H6 D2 nxt2 hj hp=>?_) (λσ' H6 hp=>?_)
 ·obtain⟨⟨y9,y10,rfl⟩,rfl⟩:=hp;refine⟨_,rfl,_,rfl,_,rfl,_,rfl,iI ⟨by lia,rfl,?_⟩⟩;refine .inr ⟨_,rfl,?_⟩;refine(iI ⟨.inl ⟨by lia,by lia⟩,?_⟩);have hle:leS cell place i j<26:=by unfold leS;lia
  have ei:(baS cell j+(0+(i:Int))*(if decide (V.int (0+(j:Int))=V.int (place%(szS cell:Nat)))=true then 1 else 0))%26=((leS cell place i j:Nat):Int):=by
   unfold leS;rw[rR (by lia),dX,dX];by_cases y:(j:Int)=place%(szS cell:Nat)
   ·rw[kJ y,hI (by rw[y]),kJ rfl]
   rw[kI y,hG (λz=>y (V.int.inj z)),kI (by decide)]
  have hat:atI ((List.range (szS cell)).map λj=>V.int (baS cell j)) (0+(j:Int))=some (.int (baS cell j)):=by rw[dX];exact uE (by rw[mC,dB hj];rfl)
  refine⟨_,rfl,_,rfl,_,rfl,_,rfl,iL (k:=_) (v:=.int (baS cell j)) (SqL.of hd5) hat ⟨_,rfl,iI (iI ⟨(by show(0:Int)<26;decide),?_⟩)⟩⟩;dsimp only;rw[ei];refine⟨_,_,_,rfl,rfl,by decide,q9M hle,_,_,rfl,rfl,?_,?_⟩
  ·rw[qAG,hV,mL];show j+1≤sizeLine;lia
  have e9:mkS ((List.range j).map λj=>97+leS cell place i j)++(⟨#[97+leS cell place i j]⟩:Str)=mkS ((List.range (j+1)).map λj=>97+leS cell place i j):=by rw[qD1,gN,mE];rfl
  rw[e9];exact nxt2 _ _ ⟨⟨_,_,rfl⟩,rfl⟩
 obtain⟨⟨y9,y10,rfl⟩,rfl⟩:=hp;refine⟨_,rfl,.inl ⟨rfl,_,SqL.of hl5⟩,_,rfl,l,_,_,rfl,rfl,hl5,by rw[hV,mL];lia,?_⟩;refine nxt _ _ ⟨⟨_,_,_,_,rfl⟩,?_,?_,λb o e=>?_⟩
 ·rw[qH,gN,mE];rfl
 ·rw[qC Dl];exact hd5
 rw[qC (qF e nl0)];exact s5 _ _ e
obtain⟨⟨y7,y8,y9,y10,rfl⟩,hl5,hd5,s5⟩:=hp
exact⟨_,rfl,q l H5 s5 nl0 hl5⟩)
noncomputable def nT(ns:List Int):Nat:=(1+yK ns 0%4).toNat
noncomputable def ctT(ns:List Int)(i:Nat):Nat:=(1+yK ns (3+(i:Int))%6).toNat
noncomputable def scT(ns:List Int)(i:Nat):Nat:=(1+yK ns (3+(i:Int)) / 6%4).toNat
noncomputable def nmT(ns:List Int):Nat→Str:=nmS (yK ns 1) (yK ns 2)
theorem tabT{ns:List Int}:TabOk (nT ns) (nmT ns) (ctT ns) (scT ns) where
n4:=by unfold nT;lia
u:=qEK.less (by unfold nT;lia)
nm:=λi _=>qGS
c1:=λi _=>by unfold ctT;lia
s1:=λi _=>by unfold scT;lia
theorem Rws.snoc{H H':Hp}{us:List V}{i:Nat}{nm:Nat→Str}{ct sc:Nat→Nat}{tp:Addr}(h:Rws H us i nm ct sc)(k:∀b xs,H b=some (.tup xs)→H' b=some (.tup xs))(e:H' tp=some (.tup [.str (nm i),.int (ct i:Nat),.int (sc i:Nat)])):Rws H' (us++[.ref tp]) (i+1) nm ct sc:=by(
have lu:=h.1
have h5:=h.tp k
refine⟨by rw[mP,lu];rfl,λj hj=>?_⟩
by_cases y:j<i
·obtain⟨v',e,r⟩:=h5.2 j y;exact⟨v',by rw[dP (by lia)];exact e,r⟩
obtain rfl:j=i:=by lia
exact⟨.ref tp,by rw[gT (by lia),lu];simp,tp,rfl,e⟩)
noncomputable def spTb(K:W.Frag):Sp:=λvs H Q _=>∃a ns,vs=[.ref a,.int 0]∧SqL K H a (List.map V.int ns)∧∀l us H',Same H H'→H l=none→H' l=some (.lst us)→Rws H' us (nT ns) (nmT ns) (ctT ns) (scT ns)→Q (.ref l) H'
theorem q7T(T:Txt K mg t)(S:Fns K t):S.oM.Ok0 P w mg base 2 (spTb K):=by(
refine S.oM.F.ok0 yS λcdv A _ s H vs Q E hr h=>?_
obtain⟨a,ns,rfl,sq,q⟩:=h
have sz:(100:Nat)<sizeLine:=by decide
refine⟨_,(qB (qV (i:=2) yS.nd rfl (Or.inl rfl) (qM yG qI (qM jZ (qR (yP T S).mono hr rfl T.aW T.aY S.bC.b .nil qK (qA (pv 0) (qA (pv 1) qE))) qI))) (qB (qV (i:=3) yS.nd rfl (Or.inl rfl) (qR (q7S T S).mono hr rfl T.xL T.aAE S.oX.b .nil qK (qA (qR (yP T S).mono hr rfl T.aW T.aY S.bC.b .nil qK (qA (pv 0) (qA (qM yG (pv 1) qI) qE))) (qA (qR (yP T S).mono hr rfl T.aW T.aY S.bC.b .nil qK (qA (pv 0) (qA (qM yG (pv 1) qI) qE))) (qA (pv 2) qE))))) (qB (qV (i:=4) yS.nd rfl (Or.inl rfl) (yB qE)) (qB (vG gI rfl (vD rfl T.iN (qA (pv 2) qE)) (qY (i:=5) yS.nd rfl (Or.inl rfl)) (qB (qV (i:=6) yS.nd rfl (Or.inl rfl) (qR (yP T S).mono hr rfl T.aW T.aY S.bC.b .nil qK (qA (pv 0) (qA (qM yG (qM yG (pv 1) qI) (pv 5)) qE)))) (qD (jA (q4O gG gA gB u9 (pv 4) (qA (vV (qA (jQ jR (pv 3) (pv 5) (λ_ _=>rfl)) (qA (qM yG qI (qM jZ (pv 6) qI)) (qA (qM yG qI (qM jZ (qM yD (pv 6) qI) qI)) qE)))) qE q4T)))))) (qD (qO (pv 4))))))),?_⟩
try dsimp-beta-proj-iota-zeta-eta only[wishK,cxK]
have eN:((nT ns:Nat):Int)=1+yK ns 0%4:=by unfold nT;lia
have n4:nT ns≤4:=tabT.n4
refine⟨_,rfl,_,rfl,a,ns,0,rfl,sq,by lia,_,_,rfl,rfl,(by show(0:Int)<4;decide),iI ?_⟩
dsimp only
rw[←eN]
refine⟨_,rfl,_,rfl,iI ⟨a,ns,_,rfl,sq,by decide,_,rfl,_,rfl,iI ⟨a,ns,_,rfl,sq,by decide,_,rfl,_,_,nT ns,rfl,n4,λl1 H1 s1 n1 h1=>?_⟩⟩⟩
have h1:H1 l1=some (.lst ((List.range (nT ns)).map λk=>.str (nmT ns k))):=h1
refine⟨sz0,λl H2 nl s2 hl=>?_⟩
have nl0:=s1.free nl
have ll:l1≠l:=qF h1 nl
refine⟨_,rfl,_,rfl,by lia,by lia,?_⟩
rw[g7]
refine zX (λi σ' H3=>(∃y5 y6,σ'=[some (.ref a),some (.int 0),some (.int (nT ns:Nat)),some (.ref l1),some (.ref l),y5,y6])∧H3 l1=some (.lst ((List.range (nT ns)).map λk=>.str (nmT ns k)))∧Same H H3∧∃us,H3 l=some (.lst us)∧Rws H3 us i (nmT ns) (ctT ns) (scT ns)) ⟨⟨_,_,rfl⟩,s2 _ _ h1,s1.trans s2,[],hl,rfl,λi hi=>by lia⟩ (λi σ' H3 D' nxt hi hp=>?_) (λσ' H3 hp=>?_)
·obtain⟨⟨y5,y6,rfl⟩,h13,s3,us,hl3,pr⟩:=hp;refine⟨_,rfl,_,rfl,iI ⟨_,rfl,iI ⟨a,ns,_,rfl,s3.seq sq,by lia,?_⟩⟩⟩;refine⟨_,rfl,.inl ⟨rfl,_,SqL.of hl3⟩,?_⟩;have hat:atI ((List.range (nT ns)).map λk=>V.str (nmT ns k)) (0+(i:Int))=some (.str (nmT ns i)):=by rw[dX];exact uE (by rw[mC,dB hi];rfl)
 have ec:yK ns (0+3+(0+(i:Int)))=yK ns (3+(i:Int)):=by rw[dX,dX]
 rw[ec];have e1:1+yK ns (3+(i:Int))%6=((ctT ns i:Nat):Int):=by unfold ctT;lia
 have e2:1+yK ns (3+(i:Int)) / 6%4=((scT ns i:Nat):Int):=by unfold scT;lia
 refine⟨_,rfl,_,rfl,iL (k:=_) (v:=_) (SqL.of h13) hat ⟨_,rfl,iI ⟨(by show(0:Int)<6;decide),iI ⟨_,rfl,iI ⟨⟨by show(0:Int)<6;decide,by decide⟩,iI ⟨(by show(0:Int)<4;decide),iI ⟨sz3,λtp H4 n4' s4 h4=>?_⟩⟩⟩⟩⟩⟩⟩;dsimp only at h4;rw[e1,e2]at h4;have lu:=pr.1;refine⟨l,_,_,rfl,rfl,s4 _ _ hl3,by lia,?_⟩;refine nxt _ _ ⟨⟨_,_,rfl⟩,?_,λb o e=>?_,_,qH,?_⟩
 ·rw[qC ll];exact s4 _ _ h13
 ·rw[qC (qF e nl0)];exact s4 _ _ (s3 _ _ e)
 refine pr.snoc (λb xs e=>?_) ?_
 ·rw[qC (λy=>by rw[y,hl3]at e;cases e)];exact s4 _ _ e
 rw[qC (λy=>by rw[y,s4 _ _ hl3]at h4;cases h4)];exact h4
obtain⟨⟨y5,y6,rfl⟩,h13,s3,us,hl3,pr⟩:=hp
exact⟨_,rfl,q l us H3 s3 nl0 hl3 pr⟩)
inductive Kw(t:Adr):Addr→Str→Prop
|part:Kw t t.C_NoPart "no part"
|value:Kw t t.C_NoValue "no value"
|full:Kw t t.C_Full "full"
noncomputable def spKi(t:Adr):Sp:=λvs H Q _=>∃ea C w,vs=[.ref ea]∧Kw t C w∧XAny H ea (.ref C) none∧∀p H',H p=none→Same H H'→H' p=some (.lst [.str w])→Q (.ref p) H'
theorem q60(T:Txt K mg t)(S:Fns K t):FnOkU P w K mg base CX0 1 t.f_law_kinds S.o9.fd ["_law_e"] (spKi t):=by(
refine S.o9.F.okU q2U (λvs H Q E h=>?_) (λcdv A outer s H vs Q E hr h=>?_)
·repeat obtain⟨_,h⟩:=h
 all_goals subst_vars;rfl
obtain⟨ea,C,w',rfl,kw,hx,q⟩:=h
refine⟨_,(qB (qV (i:=1) q2U.nd rfl (Or.inl rfl) (yB qE)) (qB (j8 (jF (qP jH (by rfl) T.aF (by kernel_rfl) (qA (pv 0) (qA (uD rfl T.x8 rfl (v:=.ref t.C_NoPart)) qE)))) (qD (jA (q4O gG gA gB u9 (pv 1) (qA qS qE)))) qL) (qB (j8 (jF (qP jH (by rfl) T.aF (by kernel_rfl) (qA (pv 0) (qA (uD rfl T.tX rfl (v:=.ref t.C_NoValue)) qE)))) (qD (jA (q4O gG gA gB u9 (pv 1) (qA qS qE)))) qL) (qB (j8 (jF (qP jH (by rfl) T.aF (by kernel_rfl) (qA (pv 0) (qA (uD rfl T.t6 rfl (v:=.ref t.C_Full)) qE)))) (qD (jA (q4O gG gA gB u9 (pv 1) (qA qS qE)))) qL) (qB (j8 (PW.pt (q0C (jF (qP jH (by rfl) T.aF (by kernel_rfl) (qA (pv 0) (qA (uD rfl T.aAZ rfl (v:=.ref t.C_NoSheet)) qE)))) (v3 (jO (jF (qP jH (by rfl) T.aF (by kernel_rfl) (qA (pv 0) (qA (uO rfl T.aAD (by kernel_rfl) rfl (v:=.ty "ValueError")) qE)))))))) (qD (jA (q4O gG gA gB u9 (pv 1) (qA qS qE)))) qL) (qD (qO (pv 1)))))))),?_⟩
try dsimp-beta-proj-iota-zeta-eta only[wishK,cxK]
refine⟨sz0,λp H1 n1 s1 h1=>?_⟩
have s2:∀y:Str,Same H (upd H1 p (.lst ([]++[.str y]))):=λy b o e=>by rw[qC (qF e n1)];exact s1 _ _ e
have h2:∀y:Str,(upd H1 p (.lst ([]++[.str y]))) p=some (.lst [.str y]):=λy=>qH
cases kw with
|part=>have kn:∀{H'},Same H H'→KndT K H' (.ref ea) (.ref t.C_NoPart):=λs=>.inr ⟨ea,_,none,rfl,rfl,XAny.same s hx,T.aA6,.inl rfl⟩;refine⟨_,rfl,.ref ea,_,_,_,_,rfl,rfl,kn s1,T.oF,_,rfl,iteT ?_⟩;refine⟨_,rfl,.inl ⟨rfl,_,SqL.of h1⟩,p,[],_,rfl,rfl,h1,by show 0<sizeLine;decide,?_⟩;have s2:=s2 "no part";have h2:=h2 "no part";generalize upd H1 p (.lst ([]++[.str "no part"]))=H2 at s2 h2 ⊢;refine⟨_,rfl,.ref ea,_,_,_,_,rfl,rfl,kn s2,T.iS,_,rfl,iteF ?_⟩;refine⟨_,rfl,.ref ea,_,_,_,_,rfl,rfl,kn s2,T.tO,_,rfl,iteF ?_⟩;refine⟨_,rfl,.ref ea,_,_,_,_,rfl,rfl,kn s2,T.iJ,_,rfl,iteF ?_⟩;refine⟨_,rfl,.ref ea,_,_,_,_,rfl,rfl,kn s2,T.fQ,_,rfl,iteF ?_⟩;exact⟨_,rfl,q p H2 n1 s2 h2⟩
|value=>have kn:∀{H'},Same H H'→KndT K H' (.ref ea) (.ref t.C_NoValue):=λs=>.inr ⟨ea,_,none,rfl,rfl,XAny.same s hx,T.aAY,.inl rfl⟩;refine⟨_,rfl,.ref ea,_,_,_,_,rfl,rfl,kn s1,T.iK,_,rfl,iteF ?_⟩;refine⟨_,rfl,.ref ea,_,_,_,_,rfl,rfl,kn s1,T.iD,_,rfl,iteT ?_⟩;refine⟨_,rfl,.inl ⟨rfl,_,SqL.of h1⟩,p,[],_,rfl,rfl,h1,by show 0<sizeLine;decide,?_⟩;have s2:=s2 "no value";have h2:=h2 "no value";generalize upd H1 p (.lst ([]++[.str "no value"]))=H2 at s2 h2 ⊢;refine⟨_,rfl,.ref ea,_,_,_,_,rfl,rfl,kn s2,T.o6,_,rfl,iteF ?_⟩;refine⟨_,rfl,.ref ea,_,_,_,_,rfl,rfl,kn s2,T.iC,_,rfl,iteF ?_⟩;refine⟨_,rfl,.ref ea,_,_,_,_,rfl,rfl,kn s2,T.eZ,_,rfl,iteF ?_⟩;exact⟨_,rfl,q p H2 n1 s2 h2⟩
|full=>have kn:∀{H'},Same H H'→KndT K H' (.ref ea) (.ref t.C_Full):=λs=>.inr ⟨ea,_,none,rfl,rfl,XAny.same s hx,T.aBM,.inl rfl⟩;refine⟨_,rfl,.ref ea,_,_,_,_,rfl,rfl,kn s1,T.tU,_,rfl,iteF ?_⟩;refine⟨_,rfl,.ref ea,_,_,_,_,rfl,rfl,kn s1,T.tI,_,rfl,iteF ?_⟩;refine⟨_,rfl,.ref ea,_,_,_,_,rfl,rfl,kn s1,T.aAF,_,rfl,iteT ?_⟩;refine⟨_,rfl,.inl ⟨rfl,_,SqL.of h1⟩,p,[],_,rfl,rfl,h1,by show 0<sizeLine;decide,?_⟩;have s2:=s2 "full";have h2:=h2 "full";generalize upd H1 p (.lst ([]++[.str "full"]))=H2 at s2 h2 ⊢;refine⟨_,rfl,.ref ea,_,_,_,_,rfl,rfl,kn s2,T.oU,_,rfl,iteF ?_⟩;refine⟨_,rfl,.ref ea,_,_,_,_,rfl,rfl,kn s2,T.iE,_,rfl,iteF ?_⟩;exact⟨_,rfl,q p H2 n1 s2 h2⟩)
noncomputable def q8R(Q:VK)(w:Str)(H:Hp):Prop:=∀u l H',Same H H'→H' u=some (.tup [.ref l,.non])→H' l=some (.lst [.str w])→Q (.ref u) H'
noncomputable def spLs(t:Adr):Sp:=λvs H Q E=>∃z x so sr m q n' W dk n nm ct sc a b v,vs=[.ref z.p,a,b,v]∧PtAt t H z x.s n nm ct sc∧PS t H x so sr m q n' W dk∧Unl n nm∧n≤4∧Knd H a∧Knd H b∧Knd H v∧(¬(isP n nm a∧isP n nm b)→q8R Q "no part" H)∧(∀i j,i<n→j<n→a=.str (nm i)→b=.str (nm j)→(isF v=false→q8R Q "no value" H)∧∀c:Nat,v=.int (c:Int)→1≤c→((((sc i:Nat):Int)-c<max 1 ((cutP (fst ct i) (ct i) (W.map (·.1))).length:Int))→q8R Q "full" H)∧(¬(((sc i:Nat):Int)-c<max 1 ((cutP (fst ct i) (ct i) (W.map (·.1))).length:Int))→∀H',PtAt t H' z x.s n nm ct (shN sc i j c)→Keep [z.ss] H H'→q8R Q "done" H'))
theorem q7U(T:Txt K mg t)(S:Fns K t):S.tF.Ok0 P w mg base 5 (spLs t):=by(
refine S.tF.F.ok0 yT λcdv A _ s H vs Q E hr h=>?_
obtain⟨z,x,so,sr,m,q,n',W,dk,n,nm,ct,sc,a,b,v,rfl,hp,hs,u,n4,ka,kb,kv,k1,k2⟩:=h
refine⟨_,(qB (qV (i:=4) yT.nd rfl (Or.inl rfl) (yB (qA qS qE))) (qB (qV (i:=5) yT.nd rfl (Or.inl rfl) yN) (qB (qC4 (λpins XE ES tk1 po1=>(qD (qV (i:=5) yT.nd rfl (Or.inl rfl) (vJ tk1 (pv 0) T.aD T.xA (q5I T S).mono hr S.f8.b .nil (qA (pv 1) (qA (pv 2) (qA (pv 3) qE))))))) (qHJ (i:=6) yT.nd rfl rfl rfl (λea=>(uD rfl T.xY rfl (v:=.ref t.C_WornError))) rfl (λea=>(qD (qV (i:=4) yT.nd rfl (Or.inl rfl) (qCW (q60 T S).mono hr.u rfl T.xS T.xV S.o9.b .nil qK (qA (pv 6) qE))))) (qC3 uU))) (qD (qO (vV (qA (pv 4) (qA (pv 5) qE)))))))),?_⟩
try dsimp-beta-proj-iota-zeta-eta only[wishK,cxK]
refine⟨sz1,λl H1 n1 s1 h1=>?_⟩
have hp1:=hp.same s1
refine(iV rfl (iM hp1.o rfl ⟨_,rfl,_,rfl,_,rfl,?_⟩))
dsimp only[tNil,mV,m8]
have nl:l≠z.ss:=λy=>by rw[y,hp.s]at n1;cases n1
refine⟨z,x,so,sr,m,q,n',W,dk,n,nm,ct,sc,a,b,v,rfl,hp1,hs.same s1,u,n4,ka.same s1,kb.same s1,kv.same s1,λy=>?_,λi j hi hj ea eb=>⟨λy=>?_,λc ec c1=>⟨λy H2 s2=>?_,λy H2 hp2 k2'=>?_⟩⟩⟩
·intro ea hea;exact⟨_,T.fV,iteT ⟨_,rfl,ea,_,_,rfl,.part,.inl qH,λp H2 n2 s2 h2=>⟨_,rfl,_,rfl,sz2,λu H3 n3 s3 e3=>k1 y u p H3 (s1.trans ((Same.upd hea).trans (s2.trans s3))) e3 (s3 _ _ h2)⟩⟩⟩
·intro ea' hea;exact⟨_,T.fP,iteT ⟨_,rfl,ea',_,_,rfl,.value,.inl qH,λp H2 n2 s2 h2=>⟨_,rfl,_,rfl,sz2,λu H3 n3 s3 e3=>(k2 i j hi hj ea eb).1 y u p H3 (s1.trans ((Same.upd hea).trans (s2.trans s3))) e3 (s3 _ _ h2)⟩⟩⟩
·intro ea' hea;exact⟨_,T.iQ,iteT ⟨_,rfl,ea',_,_,rfl,.full,.inl qH,λp H3 n3 s3 h3=>⟨_,rfl,_,rfl,sz2,λu H4 n4 s4 e4=>((k2 i j hi hj ea eb).2 c ec c1).1 y u p H4 (s1.trans (s2.trans ((Same.upd hea).trans (s3.trans s4)))) e4 (s4 _ _ h3)⟩⟩⟩
have h2:=k2'.k _ _ (λy=>nl (kC.mp y)) h1
exact⟨_,rfl,_,rfl,sz2,λu H3 n3 s3 e3=>((k2 i j hi hj ea eb).2 c ec c1).2 y H2 hp2 ((Keep.same s1).trans k2') u l H3 s3 e3 (s3 _ _ h2)⟩)
noncomputable def spLw(t:Adr):Sp:=λvs H Q E=>∃z x so sr m q n' W n nm ct sc i,∃j v:Int,vs=[.ref z.p,.str (nm i),.int j,.int v]∧PtAt t H z x.s n nm ct sc∧PS t H x so sr m q n' W false∧Unl n nm∧i<n∧0≤j∧j<(ct i:Nat)∧fst ct n≤so∧0≤v∧v<10 ^ 30∧n'<q.B*q.P∧n'<1000∧((fst ct i:Nat)+j∈W.map (·.1)∨(cutP (fst ct i) (ct i) (W.map (·.1))).length<sc i→((fst ct i:Nat)+j∈W.map (·.1)∨((W.length:Nat):Int)<sr)∧∀m' q' H',PS t H' x so sr m' q' (n'+1) (putW W ((fst ct i:Nat)+j) v) false→q'.B=q.B→q'.P=q.P→Keep (t.aA::sf x) H H'→Q (.str "done") H')∧(¬((fst ct i:Nat)+j∈W.map (·.1)∨(cutP (fst ct i) (ct i) (W.map (·.1))).length<sc i)→∀H',Same H H'→Q (.str "full") H')
theorem q2Y(T:Txt K mg t)(S:Fns K t)(B:BmIn base mg):S.f9.Ok0 P w mg base 14 (spLw t):=by(
refine S.f9.F.ok0 q0B λcdv A _ s H vs Q E hr h=>?_
obtain⟨z,x,so,sr,m,q,n',W,n,nm,ct,sc,i,j,v,rfl,hp,hs,u,hi,j0,j1,hso,v0,v1,nb,n9,k1,k2⟩:=h
refine⟨_,(qB (qV (i:=4) q0B.nd rfl (Or.inl rfl) qS) (qB (qC4 (λpins XE ES tk1 po1=>(qD (jA (vJ tk1 (pv 0) T.aD T.tZ (q5H T S B).mono hr S.fZ.b .nil (qA (pv 1) (qA (pv 2) (qA (pv 3) qE))))))) (qDM (λea=>(uD rfl T.t6 rfl (v:=.ref t.C_Full))) rfl (λea=>(qD (qV (i:=4) q0B.nd rfl (Or.inl rfl) qS))) (qC3 uU))) (qD (qO (pv 4))))),?_⟩
try dsimp-beta-proj-iota-zeta-eta only[wishK,cxK]
refine(iV rfl (iM hp.o rfl ⟨_,rfl,_,rfl,_,rfl,?_⟩))
dsimp only[tNil,mV,m8]
refine⟨z,x,so,sr,m,q,n',W,n,nm,ct,sc,i,j,v,rfl,hp,hs,u,hi,j0,j1,hso,v0,v1,nb,n9,λy=>⟨(k1 y).1,λm' q' p H' a b c d=>?_⟩,λy H' s'=>?_⟩
·exact⟨_,rfl,(k1 y).2 m' q' H' a b c d⟩
intro ea hea
exact⟨_,T.aAB,iteT ⟨_,rfl,k2 y _ s'⟩⟩)
noncomputable def dM(ra sa ha:Addr):List (Key×V):=[((Sum.inr "rows":Key),.ref ra),((Sum.inr "shares":Key),.ref sa),((Sum.inr "held":Key),.ref ha)]
structure MnA where
mi:Addr
ra:Addr
sa:Addr
ha:Addr
hA:Nat→Addr
structure Mn(H:Hp)(y:MnA)(n:Nat)(nm:Nat→Str)(sc:Nat→Nat)(hd:Nat→Mp):Prop where
m:H y.mi=some (.dK (dM y.ra y.sa y.ha))
s:H y.sa=some (.dK (dN n nm λi=>.int (sc i:Nat)))
h:H y.ha=some (.dK (dN n nm λi=>.ref (y.hA i)))
d:∀i,i<n→H (y.hA i)=some (.dK (dI (hd i)))
inductive Nmd:V→Prop
|str (x:Str):Nmd (.str x)
|non:Nmd .non
|int (i:Int):Nmd (.int i)
theorem Nmd.knd{H:Hp}{v:V}(h:Nmd v):Knd H v:=by(
cases h with
|str x=>exact .str x
|non=>exact .non
|int i=>exact .int i)
theorem Nmd.ask{H:Hp}{a:Addr}{n:Nat}{nm:Nat→Str}{f:Nat→V}{v:V}(h:Nmd v)(u:Unl n nm)(e:H a=some (.dK (dN n nm f))):
 (∃o,DGet H a v o∧((isP n nm v∧o.isSome=true)∨(¬isP n nm v∧o.isSome=false)))∨(v=.non∧(∃kvs,H a=some (.dK kvs))∧¬isP n nm v):=by(
cases h with
|str x=>
 refine .inl ⟨_,DGet.k (k:=Sum.inr x) e,?_⟩;by_cases y:∃i,i<n∧nm i=x
 ·obtain⟨i,hi,rfl⟩:=y;rw[yW u hi];exact .inl ⟨⟨i,hi,rfl⟩,rfl⟩
 rw[q2O (λi hi e=>y ⟨i,hi,e⟩)];exact .inr ⟨λ⟨i,hi,e⟩=>y ⟨i,hi,(V.str.inj e).symm⟩,rfl⟩
|non=>exact .inr ⟨rfl,⟨_,e⟩,λ⟨i,hi,e⟩=>by cases e⟩
|int i=>refine .inl ⟨_,DGet.k (k:=Sum.inl i) e,?_⟩;rw[qGK];exact .inr ⟨λ⟨i,hi,e⟩=>(by cases e),rfl⟩)
noncomputable def spDu:Sp:=λvs H Q _=>∃y n nm sc hd a b v,vs=[.ref y.mi,a,b,v]∧Mn H y n nm sc hd∧Unl n nm∧Nmd a∧Nmd b∧Knd H v∧(¬(isP n nm a∧isP n nm b)→Q (.str "no part") H)∧(∀i j,i<n→j<n→a=.str (nm i)→b=.str (nm j)→(isF v=false→Q (.str "no value") H)∧∀c:Nat,v=.int (c:Int)→1≤c→(((sc i:Nat):Int)-c<max 1 ((hd i).length:Int)→Q (.str "full") H)∧(¬((sc i:Nat):Int)-c<max 1 ((hd i).length:Int)→Q (.str "done") H))
theorem q9N(T:Txt K mg t)(S:Fns K t):S.aAR.Ok0 P w mg base 2 spDu:=by(
refine S.aAR.F.ok0 q9I λcdv A _ s H vs Q E hr h=>?_
obtain⟨y,n,nm,sc,hd,a,b,v,rfl,mn,u,na,nb,kv,k1,k2⟩:=h
have hu:=uT hr
have gs:DGet H y.mi (.str "shares") (some (.ref y.sa)):=DGet.k (k:=Sum.inr "shares") mn.m
refine⟨_,(qB (j8 (PW.pt (q0C (q4H (q55 hu (pv 1) (qW hu (pv 0) qS (λ_ _=>rfl)))) (v3 (q4H (q55 hu (pv 2) (qW hu (pv 0) qS (λ_ _=>rfl))))))) (qD (qO qS)) qL) (qB (j8 (PW.pt (q0C (jO (jF (qR (q2W T S).mono hr rfl T.iX T.l7 S.iA.b .nil qK (qA (pv 3) qE)))) (v3 (j9 q1J (pv 3) qI (qZ _))))) (qD (qO qS)) qL) (qB (j8 (PW.pt (q0C (j9 q1J (qM yJ (qW hu (qW hu (pv 0) qS (λ_ _=>rfl)) (pv 1) (λ_ _=>rfl)) (pv 3)) qI (qZ _)) (v3 (j9 q1J (qM yJ (qW hu (qW hu (pv 0) qS (λ_ _=>rfl)) (pv 1) (λ_ _=>rfl)) (pv 3)) (qP q35 (by rfl) T.fY mR (qA (qW hu (qW hu (pv 0) qS (λ_ _=>rfl)) (pv 1) (λ_ _=>rfl)) qE)) (qZ _))))) (qD (qO qS)) qL) (qD (qO qS))))),?_⟩
try dsimp-beta-proj-iota-zeta-eta only[wishK,cxK]
refine⟨_,rfl,_,rfl,y.mi,_,rfl,gs,y.sa,rfl,?_⟩
rcases na.ask u mn.s with⟨o,g,pa|pa⟩|⟨rfl,g,pa⟩
·refine .inl ⟨o,g,_,rfl,?_⟩;rw[pa.2];refine iteF ?_;refine⟨_,rfl,_,rfl,y.mi,_,rfl,gs,y.sa,rfl,?_⟩;rcases nb.ask u mn.s with⟨o',g',pb|pb⟩|⟨rfl,g',pb⟩
 ·refine .inl ⟨o',g',_,rfl,?_⟩;rw[pb.2];refine iteF ?_;obtain⟨⟨i,hi,rfl⟩,_⟩:=pa;obtain⟨⟨j,hj,rfl⟩,_⟩:=pb;obtain⟨k3,k4⟩:=k2 i j hi hj rfl rfl;refine⟨_,rfl,v,rfl,kv,_,rfl,?_⟩;cases v with
  |int c=>
   refine iteF ?_;refine⟨_,rfl,_,_,rfl,rfl,_,rfl,?_⟩;by_cases c1:c<1
   ·rw[hI c1];exact iteT (k3 (hG (show ¬1≤c by lia)))
   rw[hG c1];refine iteF ?_;obtain⟨c',rfl⟩:=gP (show 0≤c by lia);obtain⟨k5,k6⟩:=k4 c' rfl (by lia);have gi:=DGet.k (k:=Sum.inr (nm i)) mn.s;rw[yW u hi]at gi;have gh:DGet H y.mi (.str "held") (some (.ref y.ha)):=DGet.k (k:=Sum.inr "held") mn.m;have gj:=DGet.k (k:=Sum.inr (nm i)) mn.h;rw[yW u hi]at gj;refine⟨_,rfl,y.mi,_,rfl,gs,_,rfl,y.sa,_,rfl,gi,_,rfl,iI (iI ⟨_,rfl,?_⟩)⟩;by_cases z1:((sc i:Nat):Int)-(c':Int)<1
   ·rw[hI z1];exact iteT (k5 (by lia))
   rw[hG z1];refine iteF ?_;refine⟨_,rfl,y.mi,_,rfl,gs,_,rfl,y.sa,_,rfl,gi,_,rfl,iI ⟨_,rfl,y.mi,_,rfl,gh,_,rfl,y.ha,_,rfl,gj,y.hA i,_,rfl,mn.d i hi,_,_,rfl,rfl,_,rfl,?_⟩⟩;rw[q12];by_cases z2:((sc i:Nat):Int)-(c':Int)<((hd i).length:Int)
   ·rw[hI z2];exact iteT (k5 (by lia))
   rw[hG z2];exact iteF (k6 (by lia))
  |_=>exact iteT (k3 rfl)
 ·refine .inl ⟨o',g',_,rfl,?_⟩;rw[pb.2];exact iteT (k1 λw=>pb.1 w.2)
 exact .inr ⟨rfl,g',_,rfl,iteT (k1 λw=>pb w.2)⟩
·refine .inl ⟨o,g,_,rfl,?_⟩;rw[pa.2];exact iteT (k1 λw=>pa.1 w.1)
exact .inr ⟨rfl,g,_,rfl,iteT (k1 λw=>pa w.1)⟩)
theorem qEL{H:Hp}{a b:Addr}{rs us:List V}{ds:List (Str×Int×Bool)}(ha:H a=some (.lst rs))(hb:H b=some (.lst us))(ra:Recd H rs ds)(rb:Recd H us ds):Eqv K H 6 (.ref a) (.ref b):=by(
refine .lst (SqL.of ha) (SqL.of hb) (by rw[ra.len,rb.len]) λi x y hx hy=>?_
obtain⟨d,hd,p,rfl,hp⟩:=Paired.at ra hx
obtain⟨d',hd',p',rfl,hp'⟩:=Paired.at rb hy
rw[hd]at hd'
cases hd'
exact q6K (SqT.of hp) (SqT.of hp') (by simp[vI]))
theorem q7V{f:Nat→Nat}{i v:Nat}:∀{n:Nat},i<n→fst (λk=>if k=i then v else f k) n+f i=fst f n+v
|0,h=>by lia
|n+1,h=>by
 show(fst (λk=>if k=i then v else f k) n+(if n=i then v else f n))+f i=(fst f n+f n)+v;by_cases y:n=i
 ·subst y;have e:fst (λk=>if k=n then v else f k) n=fst f n:=by
   have:∀m,m≤n→fst (λk=>if k=n then v else f k) m=fst f m:=λm=>by
    induction m with
    |zero=>intro _;rfl
    |succ m ih=>intro hm;show fst (λk=>if k=n then v else f k) m+(if m=n then v else f m)=fst f m+f m;rw[ih (by lia),kI (by lia)]
   exact this n (kH _)
  rw[kJ rfl,e];lia
 rw[kI y];have:=q7V (f:=f) (i:=i) (v:=v) (n:=n) (by lia);lia
theorem qEM{sc:Nat→Nat}{i j c n:Nat}(hi:i<n)(hj:j<n)(hc:c≤sc i):fst (shN sc i j c) n=fst sc n:=by(
have e1:=q7V (f:=sc) (i:=i) (v:=sc i-c) hi
have e2:=q7V (f:=λk=>if k=i then sc i-c else sc k) (i:=j) (v:=(if j=i then sc i-c else sc j)+c) hj
have e3:shN sc i j c=λk=>if k=j then(if j=i then sc i-c else sc j)+c else(λk=>if k=i then sc i-c else sc k) k:=rfl
rw[e3]
dsimp only at e2 ⊢
lia)
noncomputable def own(y:MnA)(z:Pz)(n:Nat):List Addr:=[y.mi,y.sa,y.ha,y.ra,z.p,z.fs,z.cs,z.ss]++(List.range n).map y.hA
structure J(t:Adr)(H:Hp)(x:Sto)(so sr:Nat)(m:CM)(q:QM)(n':Nat)(W:Mp)(dk:Bool)(z:Pz)(y:MnA)(us:List V)(n:Nat)(nm:Nat→Str)(ct s0 sc:Nat→Nat)(hd:Nat→Mp)(e:Nat):Prop where
ps:PS t H x so (sr:Int) m q n' W dk
pt:PtAt t H z x.s n nm ct sc
mn:Mn H y e nm sc hd
en:e≤n
ra:H y.ra=some (.lst us)
rw:Rws H us n nm ct s0
ok:TabOk n nm ct sc
n1:1≤n
so:fst ct n=so
sr:fst sc n=sr
wh:∀i,i<n→∀s v,(s,v)∈hd i↔0≤s∧s<((ct i:Nat):Int)∧(((fst ct i:Nat):Int)+s,v)∈W
nd:∀i,i<n→((hd i).map (·.1)).Nodup
le:∀i,i<n→(hd i).length≤sc i
dw:(own y z e).Nodup
df:∀b∈own y z e,b∉t.aA::([x.s,x.tm]++(x.a.li::sf x))
section
variable{H H':Hp}{x:Sto}{so sr:Nat}{m:CM}{q:QM}{n':Nat}{W:Mp}{dk:Bool}{z:Pz}{y:MnA}{us:List V}{n:Nat}{nm:Nat→Str}{ct s0 sc:Nat→Nat}{hd:Nat→Mp}{e:Nat}
theorem Mn.on(h:Mn H y e nm sc hd)(k:∀b∈own y z e,∀o,H b=some o→H' b=some o):Mn H' y e nm sc hd:=⟨k _ (by simp[own]) _ h.m,k _ (by simp[own]) _ h.s,k _ (by simp[own]) _ h.h,λi hi=>k _ (by unfold own;exact kN _ (mB.mpr ⟨i,kW.mpr hi,rfl⟩)) _ (h.d i hi)⟩
theorem PtAt.on{s:Addr}(h:PtAt t H z s n nm ct sc)(k:∀b∈own y z e,∀o,H b=some o→H' b=some o):PtAt t H' z s n nm ct sc:=⟨k _ (by simp[own]) _ h.o,k _ (by simp[own]) _ h.f,k _ (by simp[own]) _ h.c,k _ (by simp[own]) _ h.s,h.d1,h.d2⟩
theorem J.on(h:J t H x so sr m q n' W dk z y us n nm ct s0 sc hd e){m':CM}{q':QM}{n2:Nat}{dk':Bool}(ps:PS t H' x so (sr:Int) m' q' n2 W dk')(k:∀b∈own y z e,∀o,H b=some o→H' b=some o)(tp:∀b xs,H b=some (.tup xs)→H' b=some (.tup xs)):J t H' x so sr m' q' n2 W dk' z y us n nm ct s0 sc hd e:={ h with ps:=ps,pt:=h.pt.on k,mn:=h.mn.on k,ra:=k _ (by simp[own]) _ h.ra,rw:=h.rw.tp tp }
theorem J.same(h:J t H x so sr m q n' W dk z y us n nm ct s0 sc hd e)(s:Same H H'):J t H' x so sr m q n' W dk z y us n nm ct s0 sc hd e:=h.on (h.ps.same s) (λb _ o e=>s _ _ e) λb xs e=>s _ _ e
theorem J.len(h:J t H x so sr m q n' W dk z y us n nm ct s0 sc hd e){i:Nat}(hi:i<n):(cutP (fst ct i) (ct i) (W.map (·.1))).length=(hd i).length:=by(
rw[←hV (f:=(·.1)) (as:=hd i)]
refine(q74 (q9F h.ps.nd) (h.nd i hi) λs=>?_).length_eq
rw[q8M,jS,jS]
constructor
·rintro⟨⟨v,hv⟩,a,b⟩
 exact⟨v,(h.wh i hi s v).mpr ⟨a,b,hv⟩⟩
rintro⟨v,hv⟩
obtain⟨a,b,c⟩:=(h.wh i hi s v).mp hv
exact⟨⟨v,c⟩,a,b⟩)
theorem PS.power(h:PS t H x so (sr:Int) m q n' W dk){dk':Bool}(hc:ChipAt t.C_Chip H' x.c x.a { m with lf:=if dk' then some 0 else none })(k:Keep (foot x.c x.a) H H'):PS t H' x so (sr:Int) { m with lf:=if dk' then some 0 else none } q n' W dk':=by
 have vl':∀a b,(a,b)∈W→∃p st mk,(a,p)∈q.V∧0≤p∧p≤m.bl*m.pg-1∧m.bo.getD p.toNat .non=.ref st∧H' st=some (.tup [mk,.int b]):=λa b c=>by obtain⟨p,st,mk,a1,a2,a3,a4,a5⟩:=h.vl a b c;exact⟨p,st,mk,a1,a2,a3,a4,k.tp _ _ a5⟩
 have okd:=h.ft.ok;exact⟨h.st.put hc k rfl rfl,⟨⟨okd.bl1,okd.bl2,okd.pg1,okd.pg2,okd.nbo,okd.ncl,okd.ndc,okd.nbr,okd.lim,okd.nrc⟩,h.ft.oq,h.ft.eB,h.ft.eP⟩,h.br,h.cl,h.fi,h.li,rfl,h.nb,h.rc,h.cr,h.nd,h.pm,h.kb,vl',h.so1⟩
theorem J.power(h:J t H x so sr m q n' W dk z y us n nm ct s0 sc hd e){dk':Bool}(hc:ChipAt t.C_Chip H' x.c x.a { m with lf:=if dk' then some 0 else none })(k:Keep (foot x.c x.a) H H'):J t H' x so sr { m with lf:=if dk' then some 0 else none } q n' W dk' z y us n nm ct s0 sc hd e:=h.on (h.ps.power hc k) (λb hb o e=>k.k _ _ (λw=>h.df b hb (by simp[sf,w])) e) λb xs e=>k.tp _ _ e
end
noncomputable def FF(t:Adr)(x:Sto)(y:MnA)(z:Pz)(n:Nat):List Addr:=t.aA::(sf x++([y.sa,z.ss]++(List.range n).map y.hA))
inductive Flt:V→Prop
|non:Flt .non
|bl (b:Bool):Flt (.bl b)
|int (i:Int):Flt (.int i)
|str (x:Str):Flt (.str x)
theorem Flt.knd{H:Hp}{v:V}(h:Flt v):Knd H v:=by(
cases h with
|non=>exact .non
|bl b=>exact .bl b
|int i=>exact .int i
|str x=>exact .str x)
inductive Out(n:Nat)(nm:Nat→Str)(sc:Nat→Nat)(hd:Nat→Mp)(a b v:V):Str→(Nat→Nat)→Prop
|part (h:¬(isP n nm a∧isP n nm b)):Out n nm sc hd a b v "no part" sc
|value {i j:Nat} (hi:i<n) (hj:j<n) (ea:a=.str (nm i)) (eb:b=.str (nm j)) (h:isF v=false):Out n nm sc hd a b v "no value" sc
|full {i j c:Nat} (hi:i<n) (hj:j<n) (ea:a=.str (nm i)) (eb:b=.str (nm j)) (ev:v=.int (c:Int)) (c1:1≤c) (h:((sc i:Nat):Int)-c<max 1 ((hd i).length:Int)):Out n nm sc hd a b v "full" sc
|done {i j c:Nat} (hi:i<n) (hj:j<n) (ea:a=.str (nm i)) (eb:b=.str (nm j)) (ev:v=.int (c:Int)) (c1:1≤c) (h:¬((sc i:Nat):Int)-c<max 1 ((hd i).length:Int)):Out n nm sc hd a b v "done" (shN sc i j c)
theorem qI2{H:Hp}{Q:VK}{E:XK}{y:MnA}{n:Nat}{nm:Nat→Str}{sc:Nat→Nat}{hd:Nat→Mp}{a b v:V}(mn:Mn H y n nm sc hd)(u:Unl n nm)(na:Nmd a)(nb:Nmd b)(kv:Knd H v)(k:∀w sc',Out n nm sc hd a b v w sc'→Q (.str w) H):spDu [.ref y.mi,a,b,v] H Q E:=⟨y,n,nm,sc,hd,a,b,v,rfl,mn,u,na,nb,kv,λh=>k _ _ (.part h),λi j hi hj ea eb=>⟨λh=>k _ _ (.value hi hj ea eb h),λc ev c1=>⟨λh=>k _ _ (.full hi hj ea eb ev c1 h),λh=>k _ _ (.done hi hj ea eb ev c1 h)⟩⟩⟩
theorem Unl.str{n:Nat}{nm:Nat→Str}(u:Unl n nm){i j:Nat}(hi:i<n)(hj:j<n){a:V}(e1:a=.str (nm i))(e2:a=.str (nm j)):i=j:=u i j hi hj (V.str.inj (e1.symm.trans e2))
theorem qI3{H:Hp}{Q:VK}{E:XK}{x:Sto}{so sr:Nat}{m:CM}{q:QM}{n':Nat}{W:Mp}{dk:Bool}{z:Pz}{y:MnA}{us:List V}{n:Nat}{nm:Nat→Str}{ct s0 sc sc':Nat→Nat}{hd:Nat→Mp}{a b v:V}{w:Str}(j:J t H x so sr m q n' W dk z y us n nm ct s0 sc hd n)(na:Nmd a)(nb:Nmd b)(kv:Knd H v)(o:Out n nm sc hd a b v w sc')
 (k:∀H1,PtAt t H1 z x.s n nm ct sc'→Keep [z.ss] H H1→q8R Q w H1):spLs t [.ref z.p,a,b,v] H Q E:=by(
have u:=j.ok.u
refine⟨z,x,so,_,m,q,n',W,dk,n,nm,ct,sc,a,b,v,rfl,j.pt,j.ps,u,j.ok.n4,na.knd,nb.knd,kv,λh=>?_,λi' j' hi' hj' ea' eb'=>⟨λh=>?_,λc' ev' c1'=>⟨λh=>?_,λh H1 p1 k1=>?_⟩⟩⟩
·cases o with
 |part _=>exact k H j.pt (Keep.same (Same.refl H))
 |value hi hj ea eb _=>exact absurd ⟨⟨_,hi,ea⟩,⟨_,hj,eb⟩⟩ h
 |full hi hj ea eb _ _ _=>exact absurd ⟨⟨_,hi,ea⟩,⟨_,hj,eb⟩⟩ h
 |done hi hj ea eb _ _ _=>exact absurd ⟨⟨_,hi,ea⟩,⟨_,hj,eb⟩⟩ h
·cases o with
 |part h'=>exact absurd ⟨⟨_,hi',ea'⟩,⟨_,hj',eb'⟩⟩ h'
 |value _ _ _ _ _=>exact k H j.pt (Keep.same (Same.refl H))
 |full _ _ _ _ ev c1 _=>rw[ev]at h;exact absurd h (by show ¬decide _=false;simp;lia)
 |done _ _ _ _ ev c1 _=>rw[ev]at h;exact absurd h (by show ¬decide _=false;simp;lia)
·rw[j.len hi']at h;cases o with
 |part h'=>exact absurd ⟨⟨_,hi',ea'⟩,⟨_,hj',eb'⟩⟩ h'
 |value _ _ _ _ h'=>rw[ev']at h';exact absurd h' (by show ¬decide _=false;simp;lia)
 |full _ _ _ _ _ _ _=>exact k H j.pt (Keep.same (Same.refl H))
 |@done i2 j2 c2 hi hj ea eb ev c1 h'=>
  obtain rfl:=u.str hi hi' ea ea';obtain rfl:c2=c':=by have:=V.int.inj (ev.symm.trans ev');lia
  exact absurd h h'
rw[j.len hi']at h
cases o with
|part h'=>exact absurd ⟨⟨_,hi',ea'⟩,⟨_,hj',eb'⟩⟩ h'
|value _ _ _ _ h'=>rw[ev']at h';exact absurd h' (by show ¬decide _=false;simp;lia)
|@full i2 j2 c2 hi hj ea eb ev c1 h'=>
 obtain rfl:=u.str hi hi' ea ea';obtain rfl:c2=c':=by have:=V.int.inj (ev.symm.trans ev');lia
 exact absurd h' h
|@done i2 j2 c2 hi hj ea eb ev c1 h'=>
 obtain rfl:=u.str hi hi' ea ea';obtain rfl:=u.str hj hj' eb eb';obtain rfl:c2=c':=by have:=V.int.inj (ev.symm.trans ev');lia
 exact k H1 p1 k1)
theorem J.noneS{H:Hp}{x:Sto}{so sr:Nat}{m:CM}{q:QM}{n':Nat}{W:Mp}{dk:Bool}{z:Pz}{y:MnA}{us:List V}{n:Nat}{nm:Nat→Str}{ct s0 sc:Nat→Nat}{hd:Nat→Mp}{e:Nat}(j:J t H x so sr m q n' W dk z y us n nm ct s0 sc hd e){l:Addr}(nl:H l=none):l∉foot x.c x.a∧l≠y.sa∧l≠z.ss:=⟨λw=>(by
  obtain⟨o,e,_⟩:=j.ps.st.ch.has (hZ _ w);rw[nl]at e;cases e),λw=>(by rw[w,j.mn.s]at nl;cases nl),λw=>(by rw[w,j.pt.s]at nl;cases nl)⟩
section
variable{H H':Hp}{x:Sto}{so sr:Nat}{m:CM}{q:QM}{n':Nat}{W:Mp}{dk:Bool}{z:Pz}{y:MnA}{us:List V}{n:Nat}{nm:Nat→Str}{ct s0 sc sc':Nat→Nat}{hd:Nat→Mp}{e:Nat}
theorem J.ne(j:J t H x so sr m q n' W dk z y us n nm ct s0 sc hd e):y.sa≠z.ss∧(∀b∈[y.mi,y.ha,y.ra],b∉[z.ss,y.sa])∧∀i,i<e→y.hA i∉[z.ss,y.sa]:=by(
have d:=j.dw
unfold own at d
obtain⟨d1,d2,d3⟩:=mW.mp d
refine⟨λe=>?_,λb hb w=>?_,λi hi w=>?_⟩
·rw[e]at d1;simp at d1
·have hb:b=y.mi∨b=y.ha∨b=y.ra:=by simpa using hb
 have w:b=z.ss∨b=y.sa:=by simpa using w
 rcases hb with rfl|rfl|rfl<;>rcases w with w|w<;>(rw[w]at d1;simp at d1)
have hm:y.hA i∈(List.range e).map y.hA:=mB.mpr ⟨i,kW.mpr hi,rfl⟩
have w:y.hA i=z.ss∨y.hA i=y.sa:=by simpa using w
rcases w with w|w
·exact d3 z.ss (by simp) _ hm w.symm
exact d3 y.sa (by simp) _ hm w.symm)
theorem J.sh(j:J t H x so sr m q n' W dk z y us n nm ct s0 sc hd e)(k:Keep [z.ss,y.sa] H H')(pt:PtAt t H' z x.s n nm ct sc')(ms:H' y.sa=some (.dK (dN e nm λi=>.int (sc' i:Nat))))(ok:TabOk n nm ct sc')(sr':fst sc' n=sr)(le:∀i,i<n→(hd i).length≤sc' i):J t H' x so sr m q n' W dk z y us n nm ct s0 sc' hd e:=by(
obtain⟨e1,e2,e3⟩:=j.ne
have fn:∀b,b∈t.aA::([x.s,x.tm]++(x.a.li::sf x))→b∉[z.ss,y.sa]:=λb hb w=>by
 have w:b=z.ss∨b=y.sa:=by simpa using w
 rcases w with w|w<;>exact j.df _ (by simp[own]) (w▸hb)
have tb:TbF t H':=by
 obtain⟨ps,hT,h⟩:=j.ps.st.tb;refine⟨ps,k.k _ _ (fn _ (by simp)) hT,?_⟩;rcases h with h|⟨c,h,hc⟩
 ·exact .inl h
 refine .inr ⟨c,h,k.k _ _ (λw=>?_) hc⟩;have w:c=z.ss∨c=y.sa:=by simpa using w
 rcases w with w|w
 ·rw[w,j.pt.s]at hc;cases hc
 rw[w,j.mn.s]at hc;cases hc
exact⟨j.ps.mv (j.ps.st.keep k (λb hb=>fn b (hZ _ hb)) tb) (λb xs e=>k.tp _ _ e),pt,⟨k.k _ _ (e2 _ (by simp)) j.mn.m,ms,k.k _ _ (e2 _ (by simp)) j.mn.h,λi hi=>k.k _ _ (e3 i hi) (j.mn.d i hi)⟩,j.en,k.k _ _ (e2 _ (by simp)) j.ra,j.rw.tp λb xs e=>k.tp _ _ e,ok,j.n1,j.so,sr',j.wh,j.nd,le,j.dw,j.df⟩)
end
noncomputable def spMo(t:Adr):Sp:=λvs H Q _=>∃x so sr m q n' W z y us n nm ct s0 sc hd,∃num:Int,vs=[.ref x.s,.ref z.p,.ref y.mi,.int num]∧J t H x so sr m q n' W false z y us n nm ct s0 sc hd n∧0≤num∧num<2147483647∧∀m' sc' H',J t H' x so sr m' q n' W false z y us n nm ct s0 sc' hd n→Keep (FF t x y z n) H H'→Q (.bl true) H'
theorem q7W(T:Txt K mg t)(S:Fns K t):S.tG.Ok0 P w mg base 6 (spMo t):=by(
refine S.tG.F.ok0 jI λcdv A _ s H vs Q E hr h=>?_
obtain⟨x,so,sr,m,q,n',W,z,y,us,n,nm,ct,s0,sc,hd,num,rfl,j,u0,u1,kk⟩:=h
have hu:=uT hr
have sz:(100:Nat)<sizeLine:=by decide
have n1:=j.n1
have n4:=j.ok.n4
refine⟨_,(qB (q2I (i:=4) ["_law_row"] [] rfl (yA (qW hu (pv 2) qS (λ_ _=>rfl))) (λ_ _ _ _ _=>(qY (i:=0) (show List.Nodup (["_law_row"]:List Str)from by decide) rfl (Or.inl rfl))) (λ_ _ _ _ _=>yX) (λ_ _ _ _ _=>(jQ (uG (K:=K) rfl) (pv 0) qI (λ_ _=>rfl))) (by kernel_rfl) (y3 (by decide)) jI.nd rfl (Or.inl rfl)) (qB (qV (i:=5) jI.nd rfl (Or.inl rfl) (jQ jR (pv 4) (qM jZ (qM yD (pv 3) qI) (qP jT (by rfl) T.fY mR (qA (pv 4) qE))) (λ_ _=>rfl))) (qB (qV (i:=6) jI.nd rfl (Or.inl rfl) (jQ jR (pv 4) (qM jZ (qM yD (pv 3) qI) (qP jT (by rfl) T.fY mR (qA (pv 4) qE))) (λ_ _=>rfl))) (qB (qV (i:=7) jI.nd rfl (Or.inl rfl) (qM yG qI (qM jZ (qM yD (pv 3) qI) qI))) (vW (j8 (j9 v9 (qM jZ (pv 3) qI) qI (qZ _)) (qD (qV (i:=7) jI.nd rfl (Or.inl rfl) (jQ jR (yB (qA qI (qA (qH4 qF7 qI) (qA q3I (qA yN (qA qS (qA (qM yJ qI (pv 3)) qE))))))) (qM jZ (qM yD (pv 3) qI) qI) (λ_ _=>rfl)))) qL) (vW (j8 (j9 v9 (qM jZ (pv 3) qI) qI (qZ _)) (qD (qV (i:=7) jI.nd rfl (Or.inl rfl) (qM yG qI (pv 3)))) qL) (vW (j8 (j9 v9 (qM jZ (qM yD (pv 3) qI) qI) qI (qZ _)) (qD (qV (i:=5) jI.nd rfl (Or.inl rfl) (jQ jR (yB (qA (qM q1X (jQ jR (pv 4) qI (λ_ _=>rfl)) qS) (qA qS (qA yN (qA qI qE))))) (qM jZ (qM yD (pv 3) qI) qI) (λ_ _=>rfl)))) qL) (vW (j8 (j9 v9 (qM jZ (qM yD (pv 3) qI) qI) qI (qZ _)) (qD (qV (i:=6) jI.nd rfl (Or.inl rfl) (jQ jR (yB (qA (qM q1X (jQ jR (pv 4) qI (λ_ _=>rfl)) qS) (qA qS (qA yN (qA qI qE))))) (qM jZ (qM yD (pv 3) qI) qI) (λ_ _=>rfl)))) qL) (qB (qV (i:=8) jI.nd rfl (Or.inl rfl) (yM v9 (qM jZ (qM yD (pv 3) qI) qI) qI (qZ _))) (vW (j8 (jF (pv 8)) (qD (jA (jB (qJ (pv 0) rfl) T.aE T.oC (q2V T S).mono hr S.eE.b .nil qK (qA qI qE)))) qL) (qB (qV (i:=9) jI.nd rfl (Or.inl rfl) (qR (q9N T S).mono hr rfl T.aAX T.aA0 S.aAR.b .nil qK (qA (pv 2) (qA (pv 5) (qA (pv 6) (qA (pv 7) qE)))))) (qB (qV (i:=10) jI.nd rfl (Or.inl rfl) (jG (qJ (pv 0) rfl) T.aE T.i6 (q1Q T S).mono hr S.fL.b .nil qK)) (qB (qV (i:=11) jI.nd rfl (Or.inl rfl) (yM (q96 hr.units) (qR (q7U T S).mono hr rfl T.xN T.aAG S.tF.b .nil qK (qA (pv 1) (qA (pv 5) (qA (pv 6) (qA (pv 7) qE))))) (vV (qA (yB (qA (pv 9) qE)) (qA yN qE) qC7)) (qZ _))) (vW (j8 (j9 v9 (pv 9) qS (qZ _)) (qB (uP hu (qW hu (pv 2) qS (λ_ _=>rfl)) (pv 5) (qM yJ (qW hu (qW hu (pv 2) qS (λ_ _=>rfl)) (pv 5) (λ_ _=>rfl)) (pv 7)) rfl) (qD (uP hu (qW hu (pv 2) qS (λ_ _=>rfl)) (pv 6) (qM yG (qW hu (qW hu (pv 2) qS (λ_ _=>rfl)) (pv 6) (λ_ _=>rfl)) (pv 7)) rfl))) qL) (qB (jA (jG (qJ (pv 0) rfl) T.aE T.oY (q3G T S).mono hr S.eQ.b .nil qK)) (qD (qO (zB (pv 11) (vF (yM (q96 hr.units) (jG (qJ (pv 0) rfl) T.aE T.i6 (q1Q T S).mono hr S.fL.b .nil qK) (pv 10) (qZ _))))))))))))))))))))),?_⟩
try dsimp-beta-proj-iota-zeta-eta only[wishK,cxK]
have gr:DGet H y.mi (.str "rows") (some (.ref y.ra)):=DGet.k (k:=Sum.inr "rows") j.mn.m
refine⟨_,rfl,y.mi,_,rfl,gr,y.ra,rfl,⟨_,SqL.of j.ra⟩,λD H1 nD s1 hD=>?_⟩
refine q14 (n:=n) (g:=λi=>.str (nm i)) (by show(0:Nat)<1;decide) j.ra s1 nD hD j.rw.1 (by lia) (λi hi=>?_) λH2 s2 hD2=>?_
·obtain⟨a,e,ha⟩:=j.rw.at hi;exact⟨a,_,e,ha,rfl⟩
have j2:=j.same s2
have ln:((List.range n).map λi=>V.str (nm i)).length=n:=by rw[hV,mL]
have nat:∀c:Int,∃i,i<n∧c%(((List.range n).map λi=>V.str (nm i)).length:Nat)=(i:Int)∧atI ((List.range n).map λi=>V.str (nm i)) (i:Int)=some (.str (nm i)):=λc=>by rw[ln];have a:=rF c (show((n:Nat):Int)≠0 by lia);have b:=rC c (show(0:Int)<((n:Nat):Int) by lia);exact⟨(c%(n:Int)).toNat,by lia,by lia,uE (by rw[mC,dB (by lia)];rfl)⟩
obtain⟨i1,hi1,ei1,at1⟩:=nat (num / 8)
obtain⟨i2,hi2,ei2,at2⟩:=nat (num / 32)
refine⟨_,rfl,_,rfl,iI ⟨⟨by show(0:Int)<8;decide,by decide⟩,_,rfl,D,_,rfl,.inl (SqL.of hD2),iI ⟨(by rw[ln];lia),?_⟩⟩⟩
refine(iL (k:=_) (v:=_) (SqL.of hD2) (by rw[ei1];exact at1) ?_)
refine⟨_,rfl,_,rfl,iI ⟨⟨by show(0:Int)<32;decide,by decide⟩,_,rfl,D,_,rfl,.inl (SqL.of hD2),iI ⟨(by rw[ln];lia),iL (k:=_) (v:=_) (SqL.of hD2) (by rw[ei2];exact at2) ?_⟩⟩⟩
refine⟨_,rfl,iI ⟨⟨by show(0:Int)<128;decide,by decide⟩,iI ⟨(by show(0:Int)<4;decide),iI ?_⟩⟩⟩
refine⟨λσ' H'=>∃v,σ'=[some (.ref x.s),some (.ref z.p),some (.ref y.mi),some (.int num),some (.ref D),some (.str (nm i1)),some (.str (nm i2)),some v,none,none,none,none]∧Flt v∧Same H2 H',?_,?_⟩
·refine⟨_,rfl,iI ⟨(by show(0:Int)<8;decide),rfl,_,rfl,?_⟩⟩;rw[zD];by_cases c1:num%8=1
 ·rw[hI c1];refine iteT ?_;obtain⟨v,e,fv⟩:∃v,atI [V.int 0,V.int (-1),V.bl true,V.non,V.str "2",V.int (0-num)] (num / 128%6)=some v∧Flt v:=by
   have:num / 128%6=0∨num / 128%6=1∨num / 128%6=2∨num / 128%6=3∨num / 128%6=4∨num / 128%6=5:=by lia
   rcases this with e|e|e|e|e|e<;>rw[e]
   ·exact⟨_,rfl,.int _⟩
   ·exact⟨_,rfl,.int _⟩
   ·exact⟨_,rfl,.bl _⟩
   ·exact⟨_,rfl,.non⟩
   ·exact⟨_,rfl,.str _⟩
   exact⟨_,rfl,.int _⟩
  refine⟨_,rfl,_,rfl,iI ⟨by show 6≤sizeLine;decide,λp H4 n4 s4 h4=>?_⟩⟩;exact⟨_,rfl,iI ⟨⟨by show(0:Int)<128;decide,by decide⟩,iI ⟨(by show(0:Int)<6;decide),iL (k:=_) (v:=v) (SqL.of h4) e ⟨v,rfl,fv,s4⟩⟩⟩⟩
 rw[hG c1];exact iteF ⟨_,rfl,.int _,Same.refl _⟩
rintro σ' H3 ⟨v,rfl,fv,s3⟩
refine⟨λσ' H'=>∃v,σ'=[some (.ref x.s),some (.ref z.p),some (.ref y.mi),some (.int num),some (.ref D),some (.str (nm i1)),some (.str (nm i2)),some v,none,none,none,none]∧Flt v∧Same H2 H',?_,?_⟩
·refine⟨_,rfl,iI ⟨(by show(0:Int)<8;decide),rfl,_,rfl,?_⟩⟩;rw[zD];by_cases c1:num%8=2
 ·rw[hI c1];exact iteT ⟨_,rfl,iI ⟨_,rfl,.int _,s3⟩⟩
 rw[hG c1];exact iteF ⟨_,rfl,fv,s3⟩
clear fv s3
rintro σ' H3' ⟨v,rfl,fv,s3⟩
have ask:∃v,atI [V.str (nm 0++"b"),V.str "",V.non,V.int 3] (num / 8%4)=some v∧Nmd v:=by
 have:num / 8%4=0∨num / 8%4=1∨num / 8%4=2∨num / 8%4=3:=by lia
 rcases this with e|e|e|e<;>rw[e]
 ·exact⟨_,rfl,.str _⟩
 ·exact⟨_,rfl,.str _⟩
 ·exact⟨_,rfl,.non⟩
 exact⟨_,rfl,.int _⟩
have at0:atI ((List.range n).map λi=>V.str (nm i)) 0=some (.str (nm 0)):=uE (j:=0) (by rw[mC,dB (by lia)];rfl)
have l0:(nm 0).length≤8:=by have:=j.ok.nm 0 (by lia);unfold isNm at this;simp at this;exact this.1.2
refine⟨λσ' H'=>∃a,σ'=[some (.ref x.s),some (.ref z.p),some (.ref y.mi),some (.int num),some (.ref D),some a,some (.str (nm i2)),some v,none,none,none,none]∧Nmd a∧Same H2 H',?_,?_⟩
·refine⟨_,rfl,iI ⟨⟨by show(0:Int)<1024;decide,by decide⟩,iI ⟨(by show(0:Int)<6;decide),rfl,_,rfl,?_⟩⟩⟩;rw[zD];by_cases c1:num / 1024%6=0
 ·rw[hI c1];refine iteT ?_;refine⟨_,rfl,iL (k:=0) (v:=.str (nm 0)) (SqL.of (s3 _ _ hD2)) at0 ⟨nm 0,Str.ofString "b",rfl,rfl,by show(nm 0).length+1≤sizeLine;lia,sz4,λp H4 n4 s4 h4=>?_⟩⟩;obtain⟨a,e,na⟩:=ask;exact⟨_,rfl,iI ⟨⟨by show(0:Int)<8;decide,by decide⟩,iI ⟨(by show(0:Int)<4;decide),iL (k:=_) (v:=a) (SqL.of h4) e ⟨a,rfl,na,s3.trans s4⟩⟩⟩⟩
 rw[hG c1];exact iteF ⟨_,rfl,.str _,s3⟩
clear s3
rintro σ' H4' ⟨a,rfl,na,s3⟩
refine⟨λσ' H'=>∃b,σ'=[some (.ref x.s),some (.ref z.p),some (.ref y.mi),some (.int num),some (.ref D),some a,some b,some v,none,none,none,none]∧Nmd b∧Same H2 H',?_,?_⟩
·refine⟨_,rfl,iI ⟨⟨by show(0:Int)<1024;decide,by decide⟩,iI ⟨(by show(0:Int)<6;decide),rfl,_,rfl,?_⟩⟩⟩;rw[zD];by_cases c1:num / 1024%6=1
 ·rw[hI c1];refine iteT ?_;refine⟨_,rfl,iL (k:=0) (v:=.str (nm 0)) (SqL.of (s3 _ _ hD2)) at0 ⟨nm 0,Str.ofString "b",rfl,rfl,by show(nm 0).length+1≤sizeLine;lia,sz4,λp H4 n4 s4 h4=>?_⟩⟩;obtain⟨b,e,nb⟩:=ask;exact⟨_,rfl,iI ⟨⟨by show(0:Int)<8;decide,by decide⟩,iI ⟨(by show(0:Int)<4;decide),iL (k:=_) (v:=b) (SqL.of h4) e ⟨b,rfl,nb,s3.trans s4⟩⟩⟩⟩
 rw[hG c1];exact iteF ⟨_,rfl,.str _,s3⟩
rintro σ' H5 ⟨b,rfl,nb,s5⟩
clear s3 ask at0 l0 nat
refine⟨_,rfl,iI ⟨⟨by show(0:Int)<8192;decide,by decide⟩,iI ⟨(by show(0:Int)<2;decide),rfl,?_⟩⟩⟩
have j5:=j2.same s5
have k5:Keep (FF t x y z n) H H5:=(Keep.same s2).trans (Keep.same s5)
have fF:∀b∈foot x.c x.a,b∈FF t x y z n:=λb hb=>by simp[FF,sf,hb]
refine⟨λσ' H'=>∃dv m' dk',σ'=[some (.ref x.s),some (.ref z.p),some (.ref y.mi),some (.int num),some (.ref D),some a,some b,some v,some dv,none,none,none]∧J t H' x so sr m' q n' W dk' z y us n nm ct s0 sc hd n∧Keep (FF t x y z n) H H',?_,?_⟩
·refine⟨_,rfl,_,rfl,?_⟩;rw[zD];by_cases c1:num / 8192%2=0
 ·rw[hI c1];refine iteT ?_;refine(iV rfl (iF j5.ps.st.o T.aB T.aL rfl (iM j5.ps.st.ch.ins rfl ⟨x.c,x.a,m,0,rfl,j5.ps.st.ch,by decide,by decide,λH6 hc6 k6=>?_⟩)));exact⟨_,_,true,rfl,j5.power (dk':=true) hc6 k6,k5.trans (k6.mono fF)⟩
 rw[hG c1];exact iteF ⟨_,m,false,rfl,j5,k5⟩
rintro σ' H6 ⟨dv,m',dk',rfl,j6,k6⟩
clear j5 k5 s5 j2
refine⟨_,rfl,_,rfl,_,rfl,_,rfl,?_⟩
dsimp only[tNil,mV,m8]
refine qI2 j6.mn j6.ok.u na nb fv.knd λw sc' o=>?_
refine(iV rfl (iF j6.ps.st.o T.aB T.aL rfl (iM j6.ps.st.ch.ins rfl ⟨x.c,x.a,m',rfl,j6.ps.st.ch,λrs er prd lg H7 nlg s7 hlg=>?_⟩)))
have j7:=j6.same s7
have k7:=k6.trans (Keep.same s7)
have pr7:=Recd.keep (Keep.same (F:=[]) s7) prd
obtain⟨lf,lsa,lss⟩:=j6.noneS nlg
refine⟨_,rfl,_,rfl,_,rfl,_,rfl,?_⟩
dsimp only[tNil,mV,m8]
refine qI3 j7 na nb fv.knd o λH8 pt8 k8 u l H9 s9 hu9 hl9=>?_
refine⟨_,rfl,sz1,λl2 H10 n10 s10 h10=>⟨sz2,λu2 H11 n11 s11 h11=>⟨?_,?_⟩⟩⟩
·refine .tup (SqT.of (s11 _ _ (s10 _ _ hu9))) (SqT.of h11) rfl λi x y hx hy=>?_;match i,hx,hy with
 |0,hx,hy=>
  cases hx;cases hy;refine .lst (SqL.of (s11 _ _ (s10 _ _ hl9))) (SqL.of (s11 _ _ h10)) rfl λi x y hx hy=>?_;match i,hx,hy with
  |0,hx,hy=>cases hx;cases hy;exact .flat rfl
 |1,hx,hy=>cases hx;cases hy;exact .flat rfl
have s811:=s9.trans (s10.trans s11)
clear hu9 hl9 h10 h11 s9 s10 s11 n10 n11
have k11:Keep [z.ss,y.sa] H7 H11:=(k8.mono (by simp)).trans (Keep.same s811)
have pt11:=pt8.same s811
have le7:=j7.le
obtain⟨e1,e2,e3⟩:=j7.ne
have sa11:H11 y.sa=some (.dK (dN n nm λi=>.int (sc i:Nat))):=s811 _ _ (k8.k _ _ (λw=>e1 (kC.mp w)) j7.mn.s)
have mi11:=k11.k _ _ (e2 y.mi (by simp)) j7.mn.m
have gs:DGet H11 y.mi (.str "shares") (some (.ref y.sa)):=DGet.k (k:=Sum.inr "shares") mi11
refine⟨λσ' H'=>σ'=[some (.ref x.s),some (.ref z.p),some (.ref y.mi),some (.int num),some (.ref D),some a,some b,some v,some dv,some (.str w),some (.ref lg),some (.bl true)]∧J t H' x so sr m' q n' W dk' z y us n nm ct s0 sc' hd n∧Keep [z.ss,y.sa] H7 H',?_,?_⟩
·refine⟨_,rfl,rfl,_,rfl,?_⟩;cases o with
 |part _=>rw[hG (by intro z;injection z with z;revert z;decide)];exact iteF ⟨rfl,j7.sh k11 pt11 sa11 j7.ok j7.sr le7,k11⟩
 |value _ _ _ _ _=>rw[hG (by intro z;injection z with z;revert z;decide)];exact iteF ⟨rfl,j7.sh k11 pt11 sa11 j7.ok j7.sr le7,k11⟩
 |full _ _ _ _ _ _ _=>rw[hG (by intro z;injection z with z;revert z;decide)];exact iteF ⟨rfl,j7.sh k11 pt11 sa11 j7.ok j7.sr le7,k11⟩
 |@done i' j' c hi hj ea eb ev c1 h'=>
  subst ea eb ev;rw[hI rfl];refine iteT ?_;have u:=j7.ok.u;have g1:=DGet.k (k:=Sum.inr (nm i')) sa11;rw[yW u hi]at g1;refine⟨_,rfl,y.mi,_,rfl,gs,_,rfl,y.sa,_,rfl,g1,_,rfl,iI ⟨_,rfl,y.mi,_,rfl,gs,_,rfl,y.sa,_,rfl,DPut.k (k:=Sum.inr (nm i')) sa11 (by rw[vM];lia),?_⟩⟩;rw[q79 u hi];have hc:c≤sc i':=by lia
  have e4:(dN n nm λj=>if j=i' then V.int (((sc i':Nat):Int)-(c:Int))else V.int ((sc j:Nat):Int))=dN n nm λk=>.int ((if k=i' then sc i'-c else sc k:Nat):Int):=uX λk _=>by
   by_cases y:k=i'
   ·rw[kJ y,kJ y,lO (by lia)]
   rw[kI y,kI y]
  rw[e4];have kp:Keep [y.sa] H11 (upd H11 y.sa (.dK (dN n nm λk=>.int ((if k=i' then sc i'-c else sc k:Nat):Int)))):=Keep.upd sa11 (λ_ y=>by cases y) (by simp);have hs2:(upd H11 y.sa (.dK (dN n nm λk=>.int ((if k=i' then sc i'-c else sc k:Nat):Int)))) y.sa=some (.dK (dN n nm λk=>.int ((if k=i' then sc i'-c else sc k:Nat):Int))):=qH;generalize upd H11 y.sa (.dK (dN n nm λk=>.int ((if k=i' then sc i'-c else sc k:Nat):Int)))=H12 at kp hs2 ⊢;have ms:y.mi∉[y.sa]:=λw=>e2 y.mi (by simp) (by simp[kC.mp w]);have gs2:DGet H12 y.mi (.str "shares") (some (.ref y.sa)):=DGet.k (k:=Sum.inr "shares") (kp.k _ _ ms mi11);have g2:=DGet.k (k:=Sum.inr (nm j')) hs2;rw[yW u hj]at g2;refine⟨_,rfl,y.mi,_,rfl,gs2,_,rfl,y.sa,_,rfl,g2,_,rfl,iI ⟨_,rfl,y.mi,_,rfl,gs2,_,rfl,y.sa,_,rfl,DPut.k (k:=Sum.inr (nm j')) hs2 (by rw[vM];lia),?_⟩⟩;rw[q79 u hj];have kp3:Keep [y.sa] H12 (upd H12 y.sa (.dK (dN n nm λk=>if k=j' then V.int (((if j'=i' then sc i'-c else sc j':Nat):Int)+(c:Int))else .int ((if k=i' then sc i'-c else sc k:Nat):Int)))):=Keep.upd hs2 (λ_ y=>by cases y) (by simp);have hs3:(upd H12 y.sa (.dK (dN n nm λk=>if k=j' then V.int (((if j'=i' then sc i'-c else sc j':Nat):Int)+(c:Int))else .int ((if k=i' then sc i'-c else sc k:Nat):Int)))) y.sa=some (.dK (dN n nm λk=>.int ((shN sc i' j' c k:Nat):Int))):=by
   rw[qH];congr 2;exact uX λk _=>by
    unfold shN;by_cases y:k=j'
    ·rw[kJ y,kJ y,wV]
    rw[kI y,kI y]
  have kk13:=kp.trans kp3;have pt13:PtAt t _ z x.s n nm ct (shN sc i' j' c):=pt11.keep kk13 λb hb w=>by obtain rfl:=kC.mp w;have d:=j7.dw;unfold own zf at *;simp at hb d;rcases hb with hb|hb|hb|hb<;>simp[hb]at d
  have s1':=j7.ok.s1;have le':∀k,k<n→(hd k).length≤shN sc i' j' c k∧1≤shN sc i' j' c k:=λk hk=>by
   have a1:=le7 k hk;have a2:=s1' k hk;unfold shN;by_cases y1:k=j'
   ·rw[kJ y1];by_cases y2:j'=i'
    ·rw[kJ y2];subst y1 y2;lia
    rw[kI y2];subst y1;lia
   rw[kI y1];by_cases y2:k=i'
   ·rw[kJ y2];subst y2;lia
   rw[kI y2];exact⟨a1,a2⟩
  have k13:Keep [z.ss,y.sa] H7 _:=k11.trans (kk13.mono (by simp));exact⟨rfl,j7.sh k13 pt13 hs3 ⟨j7.ok.n4,u,j7.ok.nm,j7.ok.c1,λk hk=>(le' k hk).2⟩ (by rw[qEM hi hj hc];exact j7.sr) (λk hk=>(le' k hk).1),k13⟩
rintro σ' H12 ⟨rfl,j12,k12⟩
have lg12:=k12.k _ _ (show lg∉[z.ss,y.sa] by simp[lsa,lss]) hlg
refine(iV rfl (iF j12.ps.st.o T.aB T.aL rfl (iM j12.ps.st.ch.ins rfl ⟨x.c,x.a,m',rfl,j12.ps.st.ch,λH13 hc13 k13=>?_⟩)))
have j13:=j12.power (dk':=false) hc13 k13
have lg13:=k13.k _ _ lf lg12
refine⟨_,rfl,_,rfl,iteT ?_⟩
refine(iV rfl (iF j13.ps.st.o T.aB T.aL rfl (iM j13.ps.st.ch.ins rfl ⟨x.c,x.a,_,rfl,j13.ps.st.ch,λrs2 er2 prd2 lg2 H14 nlg2 s14 hlg2=>?_⟩)))
refine⟨_,rfl,qEL hlg2 (s14 _ _ lg13) (Recd.keep (Keep.same (F:=[]) s14) prd2) (Recd.keep (((k12.mono λb hb=>mD (foot x.c x.a) hb).trans (k13.mono λb hb=>kN [z.ss,y.sa] hb)).trans (Keep.same s14)) pr7),?_⟩
refine kk _ sc' H14 (j13.same s14) (((k7.trans (k12.mono ?_)).trans (k13.mono fF)).trans (Keep.same s14))
simp[FF])
theorem qD3{f:Nat→Nat}{n:Nat}:((List.range n).map f).sum=fst f n:=by(
induction n with
|zero=>rfl
|succ n ih=>rw[gN,mE,pF,ih];simp[fst])
theorem qD4{f g:Nat→Nat}:∀{n:Nat},(∀k,k<n→f k≤g k)→fst f n≤fst g n
|0,_=>kH _
|n+1,h=>by have:=qD4 (f:=f) (g:=g) (n:=n) λk hk=>h k (by lia);have:=h n (by lia);show fst f n+f n≤fst g n+g n;lia
theorem qD5{f g:Nat→Nat}{i:Nat}:∀{n:Nat},(∀k,k<n→f k≤g k)→i<n→f i<g i→fst f n<fst g n
|0,_,hi,_=>by lia
|n+1,h,hi,hl=>by
 have h1:=h n (by lia);show fst f n+f n<fst g n+g n;by_cases e:i=n
 ·subst e;have:=qD4 (f:=f) (g:=g) (n:=i) λk hk=>h k (by lia);lia
 have:=qD5 (f:=f) (g:=g) (i:=i) (n:=n) (λk hk=>h k (by lia)) (by lia) hl;lia
section
variable{H H' H1:Hp}{x:Sto}{so sr:Nat}{m:CM}{q:QM}{n':Nat}{W:Mp}{dk:Bool}{z:Pz}{y:MnA}{us:List V}{n:Nat}{nm:Nat→Str}{ct s0 sc:Nat→Nat}{hd:Nat→Mp}{e:Nat}
theorem J.room(j:J t H x so sr m q n' W dk z y us n nm ct s0 sc hd e){i:Nat}(hi:i<n)(h:(hd i).length<sc i):((W.length:Nat):Int)<(sr:Int):=by(
have e:=qAE (ct:=ct) (n:=n) (ks:=W.map (·.1)) (λk hk=>by have:=j.ps.kb k hk;rw[j.so];exact this)
rw[hV,dA (λi hi=>j.len (kW.mp hi)),qD3]at e
have:=qD5 (f:=λk=>(hd k).length) (g:=sc) (λk hk=>j.le k hk) hi h
rw[j.sr]at this
lia)
theorem q8S{W:Mp}{s v:Int}:(putW W s v).length=if s∈W.map (·.1)then W.length else W.length+1:=by(
unfold putW
have e:(W.any λq=>decide (q.1=s))=true↔s∈W.map (·.1):=by
 rw[dZ,mB];constructor
 ·rintro⟨a,h1,h2⟩
  exact⟨a,h1,gL h2⟩
 rintro⟨a,h1,h2⟩
 exact⟨a,h1,hI h2⟩
by_cases c:s∈W.map (·.1)
·rw[kJ (e.mpr c),kJ c,hV]
rw[kI (λw=>c (e.mp w)),kI c,mP]
rfl)
theorem qAH{ct:Nat→Nat}{k i:Nat}{a b:Int}(ne:k≠i)(a0:0≤a)(a1:a<((ct k:Nat):Int))(b0:0≤b)(b1:b<((ct i:Nat):Int)):((fst ct k:Nat):Int)+a≠((fst ct i:Nat):Int)+b:=by(
rcases cI ne with h|h
·have:=q2P (ct:=ct) (show k+1≤i from h);have e:fst ct (k+1)=fst ct k+ct k:=rfl;lia
have:=q2P (ct:=ct) (show i+1≤k from h)
have e:fst ct (i+1)=fst ct i+ct i:=rfl
lia)
theorem J.wr(j:J t H x so sr m q n' W false z y us n nm ct s0 sc hd e){i:Nat}(hi':i<e){s v:Int}(s0':0≤s)(s1:s<((ct i:Nat):Int))(c:s∈(hd i).map (·.1)∨(hd i).length<sc i)(k1:Keep [y.hA i] H H1)(e1:H1 (y.hA i)=some (.dK (dI (putW (hd i) s v)))){m':CM}{q':QM}{n2:Nat}
 (ps:PS t H' x so (sr:Int) m' q' n2 (putW W (((fst ct i:Nat):Int)+s) v) false) (k2:Keep (t.aA::sf x) H1 H'):J t H' x so sr m' q' n2 (putW W (((fst ct i:Nat):Int)+s) v) false z y us n nm ct s0 sc (λk=>if k=i then putW (hd i) s v else hd k) e:=by(
have hi:i<n:=kZ hi' j.en
have d:=j.dw
unfold own at d
obtain⟨d1,d2,d3⟩:=mW.mp d
have hm:y.hA i∈(List.range e).map y.hA:=mB.mpr ⟨i,kW.mpr hi',rfl⟩
have on:∀b∈own y z e,b∉t.aA::sf x:=λb hb w=>j.df b hb (by
 rcases kR.mp w with w|w
 ·simp[w]
 simp[w])
have k12:∀b,b∈[y.mi,y.sa,y.ha,y.ra,z.p,z.fs,z.cs,z.ss]→∀o,H b=some o→H' b=some o:=λb hb o e=>k2.k _ _ (on b (mD _ hb)) (k1.k _ _ (λw=>d3 b hb _ hm (kC.mp w)) e)
have hA:∀k,k<e→H' (y.hA k)=some (.dK (dI (if k=i then putW (hd i) s v else hd k))):=λk hk=>by
 have hmk:y.hA k∈own y z e:=kN _ (mB.mpr ⟨k,kW.mpr hk,rfl⟩);refine k2.k _ _ (on _ hmk) ?_;by_cases c:k=i
 ·subst c;rw[kJ rfl];exact e1
 rw[kI c];refine k1.k _ _ (λw=>c ?_) (j.mn.d k hk);have w:=kC.mp w;have:=dQ.mp d2;rcases cI c with h|h
 ·have:=this k i (by simpa using hk) (by simpa using hi') h;rw[dF,dF,dJ,dJ]at this;exact absurd w this
 have:=this i k (by simpa using hi') (by simpa using hk) h;rw[dF,dF,dJ,dJ]at this;exact absurd w.symm this
have tp:∀b xs,H b=some (.tup xs)→H' b=some (.tup xs):=λb xs e=>k2.tp _ _ (k1.tp _ _ e)
refine⟨ps,⟨k12 _ (by simp) _ j.pt.o,k12 _ (by simp) _ j.pt.f,k12 _ (by simp) _ j.pt.c,k12 _ (by simp) _ j.pt.s,j.pt.d1,j.pt.d2⟩,⟨k12 _ (by simp) _ j.mn.m,k12 _ (by simp) _ j.mn.s,k12 _ (by simp) _ j.mn.h,hA⟩,j.en,k12 _ (by simp) _ j.ra,j.rw.tp tp,j.ok,j.n1,j.so,j.sr,λk hk a b=>?_,λk hk=>?_,λk hk=>?_,j.dw,j.df⟩
·rw[yO j.ps.nd,jD];have w:=j.wh k hk a b;by_cases c:k=i
 ·subst c;rw[kJ rfl,yO (j.nd k hk),jD,w];simp only[lP];constructor
  ·rintro(⟨rfl,rfl⟩|⟨⟨a1,a2,a3⟩,a4⟩)
   ·exact⟨s0',s1,.inl ⟨rfl,rfl⟩⟩
   exact⟨a1,a2,.inr ⟨a3,λe=>a4 (by lia)⟩⟩
  rintro⟨a1,a2,⟨e,rfl⟩|⟨a3,a4⟩⟩
  ·exact .inl ⟨by lia,rfl⟩
  exact .inr ⟨⟨a1,a2,a3⟩,λe=>a4 (by rw[e])⟩
 rw[kI c,w];simp only[lP];constructor
 ·rintro⟨a1,a2,a3⟩
  exact⟨a1,a2,.inr ⟨a3,qAH c a1 a2 s0' s1⟩⟩
 rintro⟨a1,a2,⟨e,_⟩|⟨a3,_⟩⟩
 ·exact absurd e (qAH c a1 a2 s0' s1)
 exact⟨a1,a2,a3⟩
·split
 ·exact q19 (j.nd i hi)
 exact j.nd k hk
split
·rename_i e;subst e;rw[q8S];have:=j.le k hk;split
 ·exact this
 rename_i c';rcases c with c|c
 ·exact absurd c c'
 exact c
exact j.le k hk)
end
noncomputable def spSt(t:Adr):Sp:=λvs H Q _=>∃x so sr m q n' W z y us n nm ct s0 sc hd,∃num:Int,vs=[.ref x.s,.ref z.p,.ref y.mi,.int num]∧J t H x so sr m q n' W false z y us n nm ct s0 sc hd n∧0≤num∧num<2147483647∧n'<q.B*q.P∧n'<1000∧∀m' q' n2 W' sc' hd' H',J t H' x so sr m' q' n2 W' false z y us n nm ct s0 sc' hd' n→n2≤n'+1→q'.B=q.B→q'.P=q.P→Keep (FF t x y z n) H H'→Q (.bl true) H'
theorem q8T(T:Txt K mg t)(S:Fns K t)(B:BmIn base mg):S.t8.Ok0 P w mg base 15 (spSt t):=by(
refine S.t8.F.ok0 yF λcdv A _ s H vs Q E hr h=>?_
obtain⟨x,so,sr,m,q,n',W,z,y,us,n,nm,ct,s0,sc,hd,num,rfl,j,u0,u1,nb,n9,kk⟩:=h
have hu:=uT hr
have n1:=j.n1
have n4:=j.ok.n4
have sz:(100:Nat)<sizeLine:=by decide
refine⟨_,(qB (q8X (jQ jR (qW hu (pv 2) qS (λ_ _=>rfl)) (qM jZ (qM yD (pv 3) qI) (qP jT (by rfl) T.fY mR (qA (qW hu (pv 2) qS (λ_ _=>rfl)) qE))) (λ_ _=>rfl)) (q2Z rfl (jW (qY (i:=4) yF.nd rfl (Or.inl rfl)) (jW (qY (i:=5) yF.nd rfl (Or.inl rfl)) (jW (qY (i:=6) yF.nd rfl (Or.inl rfl)) q15))))) (qB (j8 (j9 q1J (qM jZ (pv 3) qI) qI (qZ _)) (qD (qO (qR (q7W T S).mono hr rfl T.xT T.x6 S.tG.b .nil qK (qA (pv 0) (qA (pv 1) (qA (pv 2) (qA (pv 3) qE))))))) qL) (qB (qV (i:=7) yF.nd rfl (Or.inl rfl) (qM jZ (qM yD (pv 3) qI) (pv 5))) (qB (qV (i:=8) yF.nd rfl (Or.inl rfl) (qW hu (qW hu (pv 2) qS (λ_ _=>rfl)) (pv 4) (λ_ _=>rfl))) (qB (qV (i:=9) yF.nd rfl (Or.inl rfl) qS) (vW (j8 (PW.pt (q8V (q4H (q6H hu (pv 7) (pv 8))) (q6U (j9 q9T (qP q35 (by rfl) T.fY mR (qA (pv 8) qE)) (qW hu (qW hu (pv 2) qS (λ_ _=>rfl)) (pv 4) (λ_ _=>rfl)) (qZ _))))) (qD (qV (i:=9) yF.nd rfl (Or.inl rfl) qS)) (qD (uP hu (pv 8) (pv 7) (pv 3) rfl))) (qD (qO (zB (yM v9 (qR (q2Y T S B).mono hr rfl T.iY T.i8 S.f9.b .nil qK (qA (pv 1) (qA (pv 4) (qA (pv 7) (qA (pv 3) qE))))) (pv 9) (qZ _)) (vF (yM v9 (jB (pv 1) T.aD T.xO (q5Z T S).mono hr S.iU.b .nil qK (qA (pv 4) (qA (pv 7) qE))) (qBW hu (pv 8) (pv 7) ⟨rfl,rfl,rfl,rfl⟩) (qZ _)))))))))))),?_⟩
try dsimp-beta-proj-iota-zeta-eta only[wishK,cxK]
have gr:DGet H y.mi (.str "rows") (some (.ref y.ra)):=DGet.k (k:=Sum.inr "rows") j.mn.m
have lu:=j.rw.1
have hb:=rC (num / 8) (show(0:Int)<(us.length:Int) by lia)
have ha:=rF (num / 8) (show(us.length:Int)≠0 by lia)
obtain⟨i,ei⟩:=gP ha
have hi:i<n:=by lia
obtain⟨ra,era,hra⟩:=j.rw.at hi
refine⟨_,rfl,y.mi,_,rfl,gr,_,rfl,iI ⟨⟨by show(0:Int)<8;decide,by decide⟩,_,rfl,y.mi,_,rfl,gr,y.ra,_,rfl,.inl (SqL.of j.ra),iI ⟨(by show(0:Int)<(us.length:Int);lia),iL (k:=_) (v:=.ref ra) (SqL.of j.ra) (by rw[ei];exact uE era) ?_⟩⟩⟩
refine⟨ra,_,rfl,SqT.of hra,rfl,_,_,rfl,_,_,rfl,_,_,rfl,rfl,?_⟩
refine⟨_,rfl,iI ⟨(by show(0:Int)<8;decide),iI ⟨_,rfl,?_⟩⟩⟩
by_cases c0:num%8<5
·rw[hI c0];refine iteT ?_;refine⟨_,rfl,_,rfl,_,rfl,_,rfl,?_⟩;dsimp only[tNil,mV,m8];exact⟨x,so,sr,m,q,n',W,z,y,us,n,nm,ct,s0,sc,hd,num,rfl,j,u0,u1,λm' sc' H' j' k'=>kk m' q n' W sc' hd H' j' (by lia) rfl rfl k'⟩
rw[hG c0]
refine iteF ?_
have c1:=j.ok.c1 i hi
refine⟨_,rfl,iI ⟨⟨by show(0:Int)<64;decide,by decide⟩,_,rfl,iI ⟨(by show(0:Int)<((ct i:Nat):Int);lia),?_⟩⟩⟩
have v0:=rF (num / 64) (show((ct i:Nat):Int)≠0 by lia)
have v1:=rC (num / 64) (show(0:Int)<((ct i:Nat):Int) by lia)
dsimp only
generalize num / 64%((ct i:Nat):Int)=s' at v0 v1 ⊢
have gh:DGet H y.mi (.str "held") (some (.ref y.ha)):=DGet.k (k:=Sum.inr "held") j.mn.m
have gs:DGet H y.mi (.str "shares") (some (.ref y.sa)):=DGet.k (k:=Sum.inr "shares") j.mn.m
have gi:=DGet.k (k:=Sum.inr (nm i)) j.mn.h
rw[yW j.ok.u hi]at gi
have gc:=DGet.k (k:=Sum.inr (nm i)) j.mn.s
rw[yW j.ok.u hi]at gc
have hdi:=j.mn.d i hi
refine⟨_,rfl,y.mi,_,rfl,gh,_,rfl,y.ha,_,rfl,gi,?_⟩
have gk:=DGet.k (k:=Sum.inl s') hdi
have k1:Keep [y.hA i] H (upd H (y.hA i) (.dK (dI (putW (hd i) s' num)))):=Keep.upd hdi (λ_ y=>by cases y) (by simp)
have l64:(hd i).length<sizeLine:=by have a:=q8F (l:=(hd i).map (·.1)) (m:=W.map λk=>k.1-((fst ct i:Nat):Int)) (j.nd i hi) (λa ha=>by obtain⟨b,hb⟩:=jS.mp ha;have:=((j.wh i hi a b).mp hb).2.2;exact mB.mpr ⟨_,this,by show((fst ct i:Nat):Int)+a-((fst ct i:Nat):Int)=a;lia⟩);have b:=j.ps.h64;rw[j.ps.pm.length_eq]at b;rw[hV]at a b;rw[hV]at a;lia
have pk:=DPut.k (k:=Sum.inl s') (v:=.int num) hdi (by rw[q12];lia)
rw[q76]at pk
have mk:s'∈(hd i).map (·.1)↔((fst ct i:Nat):Int)+s'∈W.map (·.1):=by
 rw[jS,jS];constructor
 ·rintro⟨b,hb⟩
  exact⟨b,((j.wh i hi s' b).mp hb).2.2⟩
 rintro⟨b,hb⟩
 exact⟨b,(j.wh i hi s' b).mpr ⟨v0,v1,hb⟩⟩
have st0:fst ct n≤so:=by rw[j.so];exact kH _
refine⟨λσ' H'=>∃w,σ'=[some (.ref x.s),some (.ref z.p),some (.ref y.mi),some (.int num),some (.str (nm i)),some (.int ((ct i:Nat):Int)),some (.int ((s0 i:Nat):Int)),some (.int s'),some (.ref (y.hA i)),some (.str w)]∧((w="full"∧¬(s'∈(hd i).map (·.1)∨(hd i).length<sc i)∧H'=H)∨(w="done"∧(s'∈(hd i).map (·.1)∨(hd i).length<sc i)∧H'=upd H (y.hA i) (.dK (dI (putW (hd i) s' num))))),?_,?_⟩
·refine⟨_,rfl,_,rfl,y.hA i,_,rfl,gk,_,rfl,?_⟩;by_cases cm:s'∈(hd i).map (·.1)
 ·obtain⟨v,hv⟩:=jS.mp cm;rw[q18 (j.nd i hi) hv];exact iteF ⟨_,rfl,_,rfl,_,rfl,y.hA i,_,rfl,pk,_,rfl,.inr ⟨rfl,.inl cm,rfl⟩⟩
 rw[zW cm];refine iteT ?_;refine⟨_,rfl,y.hA i,_,rfl,hdi,_,rfl,y.mi,_,rfl,gs,_,rfl,y.sa,_,rfl,gc,_,_,rfl,rfl,_,rfl,?_⟩;rw[q12];by_cases cl:(hd i).length<sc i
 ·rw[hG (show ¬((sc i:Nat):Int)≤((hd i).length:Int) by lia)];exact iteF ⟨_,rfl,_,rfl,_,rfl,y.hA i,_,rfl,pk,_,rfl,.inr ⟨rfl,.inr cl,rfl⟩⟩
 rw[hI (show((sc i:Nat):Int)≤((hd i).length:Int) by lia)];exact iteT ⟨_,rfl,.inl ⟨rfl,λw=>w.elim cm cl,rfl⟩⟩
rintro σ' H1 ⟨w,rfl,⟨rfl,nc,rfl⟩|⟨rfl,cc,rfl⟩⟩
·refine⟨_,rfl,_,rfl,_,rfl,_,rfl,?_⟩;dsimp only[tNil,mV,m8];have nc':¬(((fst ct i:Nat):Int)+s'∈W.map (·.1)∨(cutP (fst ct i) (ct i) (W.map (·.1))).length<sc i):=by rw[←mk,j.len hi];exact nc
 refine⟨z,x,so,_,m,q,n',W,n,nm,ct,sc,i,s',num,rfl,j.pt,j.ps,j.ok.u,hi,v0,v1,st0,u0,by lia,nb,n9,λw=>absurd w nc',λ_ H2 s2=>?_⟩;have j2:=j.same s2;refine⟨_,rfl,rfl,_,rfl,?_⟩;rw[hI rfl];refine iteT ?_;have nw:((fst ct i:Nat):Int)+s'∉W.map (·.1):=λw=>nc (.inl (mk.mpr w));refine(iV rfl (iM j2.pt.o rfl ⟨_,rfl,_,rfl,z,x,so,_,m,q,n',W,n,nm,ct,sc,i,s',rfl,j2.pt,j2.ps,j.ok.u,hi,v0,v1,st0,λ_ H3 s3=>?_,λv hv=>absurd (jS.mpr ⟨v,hv⟩) nw⟩));have j3:=j2.same s3;have g3:=DGet.k (k:=Sum.inl s') (j3.mn.d i hi);rw[zW (λw=>nc (.inl w))]at g3;refine⟨_,rfl,y.hA i,rfl,.inl ⟨_,.inl (j3.mn.d i hi)⟩,_,rfl,_,g3,rfl,?_⟩;rw[show decide (V.non=(none:Option V).getD V.non)=true from hI rfl];exact kk m q n' W sc hd H3 j3 (by lia) rfl rfl (Keep.same (s2.trans s3))
refine⟨_,rfl,_,rfl,_,rfl,_,rfl,?_⟩
dsimp only[tNil,mV,m8]
have e1:(upd H (y.hA i) (.dK (dI (putW (hd i) s' num)))) (y.hA i)=some (.dK (dI (putW (hd i) s' num))):=qH
generalize upd H (y.hA i) (.dK (dI (putW (hd i) s' num)))=H1 at k1 e1 ⊢
have hmi:y.hA i∈own y z n:=kN _ (mB.mpr ⟨i,kW.mpr hi,rfl⟩)
have nh:∀b,b∈t.aA::([x.s,x.tm]++(x.a.li::sf x))→b∉[y.hA i]:=λb hb w=>j.df _ hmi (kC.mp w▸hb)
have tb:TbF t H1:=by
 obtain⟨ps,hT,h⟩:=j.ps.st.tb;refine⟨ps,k1.k _ _ (nh _ (by simp)) hT,?_⟩;rcases h with h|⟨c,h,hc⟩
 ·exact .inl h
 refine .inr ⟨c,h,k1.k _ _ (λw=>?_) hc⟩;rw[kC.mp w,hdi]at hc;cases hc
have ps1:PS t H1 x so (sr:Int) m q n' W false:=j.ps.mv (j.ps.st.keep k1 (λb hb=>nh b (hZ _ hb)) tb) λb xs e=>k1.tp _ _ e
have d:=j.dw
unfold own at d
obtain⟨d1,d2,d3⟩:=mW.mp d
have pt1:=j.pt.keep k1 λb hb w=>by
 have hb:b∈[y.mi,y.sa,y.ha,y.ra,z.p,z.fs,z.cs,z.ss]:=by unfold zf at hb;simp at hb ⊢;rcases hb with h|h|h|h<;>simp[h]
 exact d3 b hb _ (mB.mpr ⟨i,kW.mpr hi,rfl⟩) (kC.mp w)
have cc':((fst ct i:Nat):Int)+s'∈W.map (·.1)∨(cutP (fst ct i) (ct i) (W.map (·.1))).length<sc i:=by rw[←mk,j.len hi];exact cc
have rm:((fst ct i:Nat):Int)+s'∈W.map (·.1)∨((W.length:Nat):Int)<(sr:Int):=by
 rcases cc with c|c
 ·exact .inl (mk.mp c)
 exact .inr (j.room hi c)
refine⟨z,x,so,_,m,q,n',W,n,nm,ct,sc,i,s',num,rfl,pt1,ps1,j.ok.u,hi,v0,v1,st0,u0,by lia,nb,n9,λ_=>⟨rm,λm' q' H2 ps2 eB eP k2=>?_⟩,λw=>absurd cc' w⟩
have j2:=j.wr hi v0 v1 cc k1 e1 ps2 k2
have k02:Keep (FF t x y z n) H H2:=(k1.mono (by
 intro b hb;rw[kC.mp hb];unfold FF;refine hZ _ (kN _ (kN _ (mB.mpr ⟨i,kW.mpr hi,rfl⟩))))).trans (k2.mono (by
 intro b hb;unfold FF;rcases kR.mp hb with h|h
 ·rw[h];exact kU
 exact hZ _ (mD _ h)))
have hw:=(yO (n:=((fst ct i:Nat):Int)+s') (p:=num) j.ps.nd (q:=(((fst ct i:Nat):Int)+s',num))).mpr (.inl rfl)
refine⟨_,rfl,rfl,_,rfl,?_⟩
rw[hI rfl]
refine iteT ?_
refine(iV rfl (iM j2.pt.o rfl ⟨_,rfl,_,rfl,z,x,so,_,m',q',n'+1,_,n,nm,ct,sc,i,s',rfl,j2.pt,j2.ps,j.ok.u,hi,v0,v1,st0,λw=>absurd (jS.mpr ⟨num,hw⟩) w,λv hv H3 s3=>?_⟩))
have j3:=j2.same s3
obtain rfl:v=num:=by
 rcases(yO j.ps.nd).mp hv with h|h
 ·exact(lU h).2
 exact absurd rfl (jD.mp h).2
have d3:=j3.mn.d i hi
rw[kJ rfl]at d3
have g3:=DGet.k (k:=Sum.inl s') d3
rw[q18 (q19 (j.nd i hi)) ((yO (j.nd i hi)).mpr (.inl rfl))]at g3
refine⟨_,rfl,y.hA i,rfl,.inl ⟨_,.inl d3⟩,_,rfl,_,g3,rfl,?_⟩
rw[show decide (V.int v=(some (V.int v)).getD .non)=true from hI rfl]
exact kk m' q' _ _ sc _ H3 j3 (by lia) eB eP (k02.trans (Keep.same s3)))
theorem q8U{H:Hp}{a b:Addr}{us ws:List V}{n:Nat}{nm:Nat→Str}{ct sc:Nat→Nat}(ha:H a=some (.lst us))(hb:H b=some (.lst ws))(r1:Rws H us n nm ct sc)(r2:Rws H ws n nm ct sc):Eqv K H 6 (.ref a) (.ref b):=by(
refine .lst (SqL.of ha) (SqL.of hb) (by rw[r1.1,r2.1]) λi x y hx hy=>?_
have hi:i<n:=by rw[←r1.1];exact(kD.mp hx).1
obtain⟨p,e1,h1⟩:=r1.at hi
obtain⟨p',e2,h2⟩:=r2.at hi
rw[hx]at e1
rw[hy]at e2
cases e1
cases e2
exact q6K (SqT.of h1) (SqT.of h2) (by simp[vI]))
noncomputable def spSm(t:Adr):Sp:=λvs H Q _=>∃x so sr m q n' W dk z y us n nm ct s0 sc hd,vs=[.ref z.p,.ref y.mi]∧J t H x so sr m q n' W dk z y us n nm ct s0 sc hd n∧fst s0 n=sr∧∀H',Same H H'→Q (.bl true) H'
theorem q3U(T:Txt K mg t)(S:Fns K t):S.oG.Ok0 P w mg base 5 (spSm t):=by(
refine S.oG.F.ok0 uC λcdv A _ s H vs Q E hr h=>?_
obtain⟨x,so,sr,m,q,n',W,dk,z,y,us,n,nm,ct,s0,sc,hd,rfl,j,es,kk⟩:=h
have hu:=uT hr
have n4:=j.ok.n4
have u:=j.ok.u
have sz:(100:Nat)<sizeLine:=by decide
refine⟨_,(qB (qV (i:=2) uC.nd rfl (Or.inl rfl) (jG (pv 0) T.aD T.bW (uQ T S).mono hr S.bP.b .nil qK)) (qB (q2I (i:=3) ["_law_mine","_law_row"] [1] rfl (yA (qW hu (pv 1) qS (λ_ _=>rfl))) (λ_ _ _ _ _=>(qY (i:=1) (show List.Nodup (["_law_mine","_law_row"]:List Str)from by decide) rfl (Or.inl rfl))) (λ_ _ _ _ _=>yX) (λ_ _ _ _ _=>(vV (qA (jQ (uG (K:=K) rfl) (pv 1) qI (λ_ _=>rfl)) (qA (jQ (uG (K:=K) rfl) (pv 1) qI (λ_ _=>rfl)) (qA (qW hu (qW hu (pv 0) qS (λ_ _=>rfl)) (jQ (uG (K:=K) rfl) (pv 1) qI (λ_ _=>rfl)) (λ_ _=>rfl)) qE))))) (by kernel_rfl) (y3 (by decide)) uC.nd rfl (Or.inl rfl)) (qB (j8 (PW.pt (q0C (jO (jF (qP jH (by rfl) T.aF (by kernel_rfl) (qA (pv 2) (qA (uO rfl T.aA5 (by kernel_rfl) rfl (v:=.ty "list")) qE))))) (v3 (j9 (qG6 hr.units) (pv 2) (pv 3) (qZ _))))) (qD (qO q3I)) qL) (qB (vG gI rfl (yA (pv 2)) (q2Z rfl (jW (qY (i:=4) uC.nd rfl (Or.inl rfl)) (jW (qY (i:=5) uC.nd rfl (Or.inl rfl)) (jW (qY (i:=6) uC.nd rfl (Or.inl rfl)) q15)))) (qB (j8 (PW.pt (q0C (jO (jF (qR (q2W T S).mono hr rfl T.iX T.l7 S.iA.b .nil qK (qA (pv 6) qE)))) (v3 (j9 q3J (jB (pv 0) T.aD T.eW (vZ T S).mono hr S.bJ.b .nil qK (qA (pv 4) qE)) (pv 6) (qZ _))))) (qD (qO q3I)) qL) (qD (j8 (j9 q3J (jB (pv 0) T.aD T.l9 (q1U T S).mono hr S.fO.b .nil qK (qA (pv 4) qE)) (qM yJ (pv 6) (qP q35 (by rfl) T.fY mR (qA (qW hu (qW hu (pv 1) qS (λ_ _=>rfl)) (pv 4) (λ_ _=>rfl)) qE))) (qZ _)) (qD (qO q3I)) qL)))) (qD (qO (yM v9 (qP (vE rfl) (by rfl) T.aA2 (by kernel_rfl) (qA (yY ["_law_row"] [] rfl (yA (pv 2)) (λ_ _ _ _ _=>(qY (i:=0) (show List.Nodup (["_law_row"]:List Str)from by decide) rfl (Or.inl rfl))) (λ_ _ _ _ _=>yX) (λ_ _ _ _ _=>(jQ (uG (K:=K) rfl) (pv 0) qI (λ_ _=>rfl))) (by kernel_rfl) (y3 (by decide))) qE)) (qP (vE rfl) (by rfl) T.aA2 (by kernel_rfl) (qA (yY ["_law_row"] [] rfl (yA (qW hu (pv 1) qS (λ_ _=>rfl))) (λ_ _ _ _ _=>(qY (i:=0) (show List.Nodup (["_law_row"]:List Str)from by decide) rfl (Or.inl rfl))) (λ_ _ _ _ _=>yX) (λ_ _ _ _ _=>(jQ (uG (K:=K) rfl) (pv 0) qI (λ_ _=>rfl))) (by kernel_rfl) (y3 (by decide))) qE)) (qZ _)))))))),?_⟩
try dsimp-beta-proj-iota-zeta-eta only[wishK,cxK]
refine(iV rfl (iM j.pt.o rfl ⟨z,x.s,n,nm,ct,sc,rfl,j.pt,u,n4,λl ws H1 s1 n1 h1 r1=>?_⟩))
have j1:=j.same s1
have gr:DGet H1 y.mi (.str "rows") (some (.ref y.ra)):=DGet.k (k:=Sum.inr "rows") j1.mn.m
refine⟨_,rfl,y.mi,_,rfl,gr,y.ra,rfl,⟨_,SqL.of j1.ra⟩,λD H2 nD s2 hD=>?_⟩
refine q8C (K:=K) (xs:=us) (D:=D) (λi H3=>Same H1 H3∧∃ds,H3 D=some (.lst ds)∧Rws H3 ds i nm ct sc) ⟨s2,[],hD,rfl,λi hi=>by lia⟩ (λi H3 hp=>SqL.of (hp.1 _ _ j1.ra)) (λi v H3 hv hp=>?_) (λH3 hp=>?_)
·obtain⟨sm,ds,hd',pr⟩:=hp;have j3:=j1.same sm;have hi:i<n:=by rw[←j.rw.1];exact(kD.mp hv).1
 obtain⟨a,ea,ha⟩:=j3.rw.at hi;rw[hv]at ea;cases ea;have gs:DGet H3 y.mi (.str "shares") (some (.ref y.sa)):=DGet.k (k:=Sum.inr "shares") j3.mn.m;have gc:=DGet.k (k:=Sum.inr (nm i)) j3.mn.s;rw[yW u hi]at gc;refine⟨_,rfl,iT (k:=0) (v:=.str (nm i)) (SqT.of ha) rfl ⟨_,rfl,iT (k:=1) (v:=.int (ct i:Nat)) (SqT.of ha) rfl ⟨_,rfl,y.mi,_,rfl,gs,_,rfl,iT (k:=0) (v:=.str (nm i)) (SqT.of ha) rfl ⟨y.sa,_,rfl,gc,sz3,λtp H4 n4' s4 h4=>?_⟩⟩⟩⟩;have hd4:=s4 _ _ hd';have ld:=pr.1;refine⟨ds,hd4,by lia,λb o e=>?_,_,qH,pr.snoc (λb xs e=>?_) ?_⟩
 ·rw[qC (qF e nD)];exact s4 _ _ (sm _ _ e)
 ·rw[qC (λy=>by rw[y,hd']at e;cases e)];exact s4 _ _ e
 rw[qC (λy=>by rw[y,hd4]at h4;cases h4)];exact h4
obtain⟨sm,ds,hd',pr⟩:=hp
rw[j.rw.1]at pr
have j3:=j1.same sm
have h3:=sm _ _ h1
have r3:=r1.same sm
refine⟨_,rfl,.ref l,_,_,.type "list",_,rfl,rfl,.inl (.lst h3),qBY,_,rfl,iteF ?_⟩
refine⟨_,rfl,_,rfl,q8U h3 hd' r3 pr,_,rfl,iteF ?_⟩
refine⟨_,rfl,l,rfl,⟨_,SqL.of h3⟩,?_⟩
refine q38 (K:=K) (xs:=ws) (λi σ' H4=>(∃y4 y5 y6,σ'=[some (.ref z.p),some (.ref y.mi),some (.ref l),some (.ref D),y4,y5,y6])∧Same H3 H4) ⟨⟨_,_,_,rfl⟩,Same.refl _⟩ (λi σ' H4 hi hp=>?_) (λi v σ' H4 D' nxt hv hp=>?_) (λσ' H4 hp=>?_)
·exact SqL.of (hp.2 _ _ h3)
·obtain⟨⟨y4,y5,y6,rfl⟩,s4⟩:=hp;have j4:=j3.same s4;have hi:i<n:=by rw[←r1.1];exact(kD.mp hv).1
 obtain⟨a,ea,ha⟩:=(r3.same s4).at hi;rw[hv]at ea;cases ea;refine⟨a,_,rfl,SqT.of ha,rfl,_,_,rfl,_,_,rfl,_,_,rfl,rfl,?_⟩;refine⟨_,rfl,.int ((sc i:Nat):Int),rfl,.int _,_,rfl,iteF ?_⟩;refine(iV rfl (iM j4.pt.o rfl ⟨_,rfl,z,x.s,n,nm,ct,sc,i,rfl,j4.pt,u,hi,_,rfl,rfl,_,rfl,?_⟩));rw[show(!decide (V.int ((sc i:Nat):Int)=V.int ((sc i:Nat):Int)))=false by simp];refine iteF ?_;refine(iV rfl (iM j4.pt.o rfl ⟨_,rfl,z,x,so,_,m,q,n',W,dk,n,nm,ct,sc,i,rfl,j4.pt,j4.ps,u,hi,λH5 s5=>?_⟩));have j5:=j4.same s5;have gh:DGet H5 y.mi (.str "held") (some (.ref y.ha)):=DGet.k (k:=Sum.inr "held") j5.mn.m;have gi:=DGet.k (k:=Sum.inr (nm i)) j5.mn.h;rw[yW u hi]at gi;refine⟨_,rfl,_,rfl,y.mi,_,rfl,gh,_,rfl,y.ha,_,rfl,gi,y.hA i,_,rfl,j5.mn.d i hi,_,_,rfl,rfl,rfl,_,rfl,?_⟩;rw[q12,j.len hi];have le:=j.le i hi;rw[show max 0 (((sc i:Nat):Int)-((hd i).length:Int))=((sc i:Nat):Int)-((hd i).length:Int) by lia];rw[show(!decide (V.int (((sc i:Nat):Int)-((hd i).length:Int))=V.int (((sc i:Nat):Int)-((hd i).length:Int))))=false by simp];exact iteF (nxt _ _ ⟨⟨_,_,_,rfl⟩,s4.trans s5⟩)
obtain⟨⟨y4,y5,y6,rfl⟩,s4⟩:=hp
have j4:=j3.same s4
have h4:=s4 _ _ h3
have r4:=r3.same s4
refine⟨_,rfl,l,rfl,⟨_,SqL.of h4⟩,λD2 H5 n5 s5 hD5=>?_⟩
refine q14 (n:=n) (g:=λi=>.int (sc i:Nat)) (by show(0:Nat)<1;decide) h4 s5 n5 hD5 r4.1 (by lia) (λi hi=>?_) λH6 s6 h6=>?_
·obtain⟨a,e,ha⟩:=r4.at hi;exact⟨a,_,e,ha,rfl⟩
have h6:H6 D2=some (.lst (((List.range n).map λi=>((sc i:Nat):Int)).map V.int)):=by rw[h6,gZ];rfl
have j6:=j4.same s6
have g6:DGet H6 y.mi (.str "rows") (some (.ref y.ra)):=DGet.k (k:=Sum.inr "rows") j6.mn.m
refine⟨D2,_,rfl,SqL.of h6,_,rfl,y.mi,_,rfl,g6,y.ra,rfl,⟨_,SqL.of j6.ra⟩,λD3 H7 n7 s7 hD7=>?_⟩
refine q14 (n:=n) (g:=λi=>.int (s0 i:Nat)) (by show(0:Nat)<1;decide) j6.ra s7 n7 hD7 j6.rw.1 (by lia) (λi hi=>?_) λH8 s8 h8=>?_
·obtain⟨a,e,ha⟩:=j6.rw.at hi;exact⟨a,_,e,ha,rfl⟩
have h8:H8 D3=some (.lst (((List.range n).map λi=>((s0 i:Nat):Int)).map V.int)):=by rw[h8,gZ];rfl
refine⟨D3,_,rfl,SqL.of h8,rfl,?_⟩
rw[q1D,q1D,j.sr,es,hI rfl]
exact kk H8 (((((s1.trans sm).trans s4).trans s6)).trans s8))
theorem PS.new{H:Hp}{x:Sto}{so:Nat}{sr:Int}(st:StAt t H x (.int (so:Int)) (.int sr) (.int 0) (.int 1000000) (CM.new 8 10 1000000 []) (bk0 8 10))(so1:so≤60):PS t H x so sr (CM.new 8 10 1000000 []) (bk0 8 10) 0 [] false:=by(
refine⟨st,⟨qG5 (by lia) (by lia) (by lia) (by lia) (λb v e=>by cases e),qGO (by lia) (by lia) (by lia),rfl,rfl⟩,rfl,rfl,?_,λb=>rfl,rfl,mJ _,rfl,λp _=>?_,rP,List.Perm.nil,λs h=>absurd h (by simp),λs v h=>absurd h (by simp),so1⟩
·show List.replicate 8 (0:Int)=linF 8 10 0;exact qGH.symm
show(List.replicate _ V.non).getD p .non=.non
rw[kO,g0]
split<;>rfl)
theorem StAt.some'{H:Hp}{x:Sto}{r2 r3 r4 r5:V}{m:CM}{q:QM}(st:StAt t H x r2 r3 r4 r5 m q):∀b∈t.aA::([x.s,x.tm]++(x.a.li::sf x)),∃o,H b=some o:=λb hb=>by(
have hb:b=t.aA∨b=x.s∨b=x.tm∨b=x.a.li∨b∈foot x.c x.a∨b=x.k.bk∨b=x.k.wv∨b=x.k.lv∨b=x.k.fi∨b=x.k.bo:=by simpa[sf,bf,or_assoc]using hb
rcases hb with rfl|rfl|rfl|rfl|hb|rfl|rfl|rfl|rfl|rfl
·obtain⟨ps,hT,_⟩:=st.tb;exact⟨_,hT⟩
·exact⟨_,st.o⟩
·exact⟨_,st.te⟩
·exact⟨_,st.ch.li⟩
·obtain⟨o,e,_⟩:=st.ch.has (hZ _ hb);exact⟨o,e⟩
·exact⟨_,st.bk.o⟩
·exact⟨_,st.bk.w⟩
·exact⟨_,st.bk.l⟩
·exact⟨_,st.bk.f⟩
exact⟨_,st.bk.b⟩)
section
variable{H H':Hp}{x:Sto}{so sr:Nat}{m:CM}{q:QM}{n':Nat}{W:Mp}{dk:Bool}{z:Pz}{y:MnA}{us:List V}{n:Nat}{nm:Nat→Str}{ct s0 sc:Nat→Nat}{hd:Nat→Mp}{e:Nat}
theorem J.ownS(j:J t H x so sr m q n' W dk z y us n nm ct s0 sc hd e):∀b∈own y z e,∃o,H b=some o:=λb hb=>by(
rcases mO.mp hb with hb|hb
·have hb:b=y.mi∨b=y.sa∨b=y.ha∨b=y.ra∨b=z.p∨b=z.fs∨b=z.cs∨b=z.ss:=by simpa using hb
 rcases hb with rfl|rfl|rfl|rfl|rfl|rfl|rfl|rfl
 ·exact⟨_,j.mn.m⟩
 ·exact⟨_,j.mn.s⟩
 ·exact⟨_,j.mn.h⟩
 ·exact⟨_,j.ra⟩
 ·exact⟨_,j.pt.o⟩
 ·exact⟨_,j.pt.f⟩
 ·exact⟨_,j.pt.c⟩
 exact⟨_,j.pt.s⟩
obtain⟨i,hi,rfl⟩:=mB.mp hb
exact⟨_,j.mn.d i (kW.mp hi)⟩)
theorem J.held1(j:J t H x so sr m q n' W dk z y us n nm ct s0 sc hd e){i:Nat}(hi:i<e)(k1:Keep [y.hA i] H H'):PS t H' x so (sr:Int) m q n' W dk∧PtAt t H' z x.s n nm ct sc:=by(
have hmi:y.hA i∈own y z e:=kN _ (mB.mpr ⟨i,kW.mpr hi,rfl⟩)
have nh:∀b,b∈t.aA::([x.s,x.tm]++(x.a.li::sf x))→b∉[y.hA i]:=λb hb w=>j.df _ hmi (kC.mp w▸hb)
have tb:TbF t H':=by
 obtain⟨ps,hT,h⟩:=j.ps.st.tb;refine⟨ps,k1.k _ _ (nh _ (by simp)) hT,?_⟩;rcases h with h|⟨c,h,hc⟩
 ·exact .inl h
 refine .inr ⟨c,h,k1.k _ _ (λw=>?_) hc⟩;rw[kC.mp w,j.mn.d i hi]at hc;cases hc
have d:=j.dw
unfold own at d
obtain⟨d1,d2,d3⟩:=mW.mp d
refine⟨j.ps.mv (j.ps.st.keep k1 (λb hb=>nh b (hZ _ hb)) tb) λb xs e=>k1.tp _ _ e,j.pt.keep k1 λb hb w=>?_⟩
have hb:b∈[y.mi,y.sa,y.ha,y.ra,z.p,z.fs,z.cs,z.ss]:=by unfold zf at hb;simp at hb ⊢;rcases hb with h|h|h|h<;>simp[h]
exact d3 b hb _ (mB.mpr ⟨i,kW.mpr hi,rfl⟩) (kC.mp w))
theorem J.enter(j:J t H x so sr m q n' W dk z y us n nm ct s0 s0 hd e)(he:e<n)(hz:hd e=[]){h:Addr}(k:Keep [y.sa,y.ha] H H')(nh:H h=none)(hs:H' y.sa=some (.dK (dN (e+1) nm λi=>.int (s0 i:Nat))))(hh:H' y.ha=some (.dK (dN (e+1) nm λi=>.ref (if i=e then h else y.hA i))))(h0:H' h=some (.dK [])):
 J t H' x so sr m q n' W dk z { y with hA:=λi=>if i=e then h else y.hA i } us n nm ct s0 s0 hd (e+1):=by(
have d:=j.dw
have ow:=j.ownS
have nho:h∉own y z e:=λw=>by obtain⟨o,e⟩:=ow h w;rw[nh]at e;cases e
have fn:∀b,b∈t.aA::([x.s,x.tm]++(x.a.li::sf x))→b∉[y.sa,y.ha]:=λb hb w=>by
 have w:b=y.sa∨b=y.ha:=by simpa using w
 rcases w with w|w<;>exact j.df _ (by simp[own]) (w▸hb)
have tb:TbF t H':=by
 obtain⟨ps,hT,h⟩:=j.ps.st.tb;refine⟨ps,k.k _ _ (fn _ (by simp)) hT,?_⟩;rcases h with h|⟨c,h,hc⟩
 ·exact .inl h
 refine .inr ⟨c,h,k.k _ _ (λw=>?_) hc⟩;have w:c=y.sa∨c=y.ha:=by simpa using w
 rcases w with w|w
 ·rw[w,j.mn.s]at hc;cases hc
 rw[w,j.mn.h]at hc;cases hc
unfold own at d
obtain⟨d1,d2,d3⟩:=mW.mp d
have nk:∀b∈[y.mi,y.ra,z.p,z.fs,z.cs,z.ss],b∉[y.sa,y.ha]:=λb hb w=>by
 have w:b=y.sa∨b=y.ha:=by simpa using w
 have hb:b=y.mi∨b=y.ra∨b=z.p∨b=z.fs∨b=z.cs∨b=z.ss:=by simpa using hb
 rcases hb with rfl|rfl|rfl|rfl|rfl|rfl<;>rcases w with w|w<;>(rw[w]at d1;simp at d1)
have nA:∀i,i<e→y.hA i∉[y.sa,y.ha]:=λi hi w=>by
 have hm:y.hA i∈(List.range e).map y.hA:=mB.mpr ⟨i,kW.mpr hi,rfl⟩;have w:y.hA i=y.sa∨y.hA i=y.ha:=by simpa using w
 rcases w with w|w
 ·exact d3 y.sa (by simp) _ hm w.symm
 exact d3 y.ha (by simp) _ hm w.symm
have eo:own { y with hA:=λi=>if i=e then h else y.hA i } z (e+1)=own y z e++[h]:=by
 unfold own;rw[gN,mE,sT];congr 1;congr 1
 ·exact dA λi hi=>kI (by have:=kW.mp hi;lia)
 simp
refine⟨j.ps.mv (j.ps.st.keep k (λb hb=>fn b (hZ _ hb)) tb) (λb xs e=>k.tp _ _ e),j.pt.keep k (λb hb=>nk b (by unfold zf at hb;simp at hb ⊢;rcases hb with h|h|h|h<;>simp[h])),⟨k.k _ _ (nk _ (by simp)) j.mn.m,hs,hh,λi hi=>?_⟩,he,k.k _ _ (nk _ (by simp)) j.ra,j.rw.tp λb xs e=>k.tp _ _ e,j.ok,j.n1,j.so,j.sr,j.wh,j.nd,j.le,?_,λb hb=>?_⟩
·show H' (if i=e then h else y.hA i)=_;by_cases c:i=e
 ·rw[kJ c,c,hz];exact h0
 rw[kI c];exact k.k _ _ (nA i (by lia)) (j.mn.d i (by lia))
·rw[eo];refine mW.mpr ⟨j.dw,by simp,λb hb c hc w=>nho ?_⟩;rw[←kC.mp hc,←w];exact hb
rw[eo]at hb
rcases mO.mp hb with hb|hb
·exact j.df b hb
intro w
rw[kC.mp hb]at w
obtain⟨o,e⟩:=j.ps.st.some' h w
rw[nh]at e
cases e)
end
theorem qGT(T:Txt K mg t)(S:Fns K t)(B:BmIn base mg):S.law.Ok0 P w mg base 16 (q36 K [t.aA]):=by(
refine S.law.F.ok0 v7 λcdv A _ s H vs Q E hr h=>?_
obtain⟨a,ns,rfl,hS,hlen,hT0,kk⟩:=h
have hT:H t.aA=some (.tbl #[]):=hT0 _ (kC.mpr rfl)
have hu:=uT hr
have sz:(100:Nat)<sizeLine:=by decide
refine⟨_,(qB (qV (i:=1) v7.nd rfl (Or.inl rfl) (qR (q7T T S).mono hr rfl T.xM T.xP S.oM.b .nil qK (qA (pv 0) (qA qI qE)))) (qB (qV (i:=2) v7.nd rfl (Or.inl rfl) (qDI (q4R qS (pv 1) (q4R qS uS (q4R qS uS qDH))) rfl rfl (by simp) (by decide))) (qB (qV (i:=3) v7.nd rfl (Or.inl rfl) (qP (vE rfl) (by rfl) T.aA2 (by kernel_rfl) (qA (yY ["_law_row"] [] rfl (yA (pv 1)) (λ_ _ _ _ _=>(qY (i:=0) (show List.Nodup (["_law_row"]:List Str)from by decide) rfl (Or.inl rfl))) (λ_ _ _ _ _=>yX) (λ_ _ _ _ _=>(jQ (uG (K:=K) rfl) (pv 0) qI (λ_ _=>rfl))) (by kernel_rfl) (y3 (by decide))) qE))) (qB (qV (i:=4) v7.nd rfl (Or.inl rfl) (qP (vE rfl) (by rfl) T.aA2 (by kernel_rfl) (qA (yY ["_law_row"] [] rfl (yA (pv 1)) (λ_ _ _ _ _=>(qY (i:=0) (show List.Nodup (["_law_row"]:List Str)from by decide) rfl (Or.inl rfl))) (λ_ _ _ _ _=>yX) (λ_ _ _ _ _=>(jQ (uG (K:=K) rfl) (pv 0) qI (λ_ _=>rfl))) (by kernel_rfl) (y3 (by decide))) qE))) (qB (qV (i:=5) v7.nd rfl (Or.inl rfl) (q16 T.aBC (q5W T S).mono hr rfl T.aBH S.iR.b .nil qK (qA (q16 T.aBR (q7L T S).mono hr rfl T.aBS S.xG S.xJ qK (qA qI (qA qI qE))) (qA (q16 T.aBE (q5U T S).mono hr rfl T.aBB S.tT S.tR qK (qA qI (qA qI (qA (pv 3) (qA (pv 4) qE))))) qE)))) (qB (qV (i:=6) v7.nd rfl (Or.inl rfl) (q16 T.aAT (q1V T S).mono hr rfl T.aAS S.fK.b .nil qK (qA (pv 5) (qA (pv 1) qE)))) (qB (vG gI rfl (yA (pv 1)) (q2Z rfl (jW (qY (i:=7) v7.nd rfl (Or.inl rfl)) (jW (qY (i:=8) v7.nd rfl (Or.inl rfl)) (jW (qY (i:=9) v7.nd rfl (Or.inl rfl)) q15)))) (qB (uP hu (qW hu (pv 2) qS (λ_ _=>rfl)) (pv 7) (pv 9) rfl) (qB (uP hu (qW hu (pv 2) qS (λ_ _=>rfl)) (pv 7) uS rfl) (qD (vG gI rfl (vD rfl T.iN (qA (qM jZ (qR (yP T S).mono hr rfl T.aW T.aY S.bC.b .nil qK (qA (pv 0) (qA qI qE))) (qM yG (qP (qAL rfl) (by rfl) T.aBX (by kernel_rfl) (qA (pv 8) (qA (pv 9) qE))) qI)) qE)) (qY (i:=10) v7.nd rfl (Or.inl rfl)) (qB (uP hu (qW hu (qW hu (pv 2) qS (λ_ _=>rfl)) (pv 7) (λ_ _=>rfl)) (pv 10) (pv 10) rfl) (qD (j8 (j9 q3J (qR (q2Y T S B).mono hr rfl T.iY T.i8 S.f9.b .nil qK (qA (pv 6) (qA (pv 7) (qA (pv 10) (qA (pv 10) qE))))) qS (qZ _)) (qD (qO q3I)) qL)))))))) (qB (vG gI rfl (yA (qBN qDC (pv 0) (q9U qI) (q9U qI))) (qY (i:=11) v7.nd rfl (Or.inl rfl)) (qD (j8 (PW.pt (q0C (jO (jF (qR (q8T T S B).mono hr rfl T.aAO T.aAI S.t8.b .nil qK (qA (pv 5) (qA (pv 6) (qA (pv 2) (qA (qM jZ (qM zT (pv 11) qI) qI) qE))))))) (v3 (jO (jF (qR (q3U T S).mono hr rfl T.tJ T.o7 S.oG.b .nil qK (qA (pv 6) (qA (pv 2) qE)))))))) (qD (qO q3I)) qL))) (qD (qO (zB (yM (q96 hr.units) (jG (q16 T.aAT (q1V T S).mono hr rfl T.aAS S.fK.b .nil qK (qA (pv 5) (qA (jG (pv 6) T.aD T.bW (uQ T S).mono hr S.bP.b .nil qK) qE))) T.aD T.bW (uQ T S).mono hr S.bP.b .nil qK) (jG (pv 6) T.aD T.bW (uQ T S).mono hr S.bP.b .nil qK) (qZ _)) (vF (qR (q3U T S).mono hr rfl T.tJ T.o7 S.oG.b .nil qK (qA (pv 6) (qA (pv 2) qE))))))))))))))),?_⟩
try dsimp-beta-proj-iota-zeta-eta only[wishK,cxK]
refine⟨_,rfl,a,ns,rfl,hS,λl us H1 s1 n1 h1 r1=>?_⟩
have ok:=tabT (ns:=ns)
have nn1:1≤nT ns:=by unfold nT;lia
have cb:∀i,ctT ns i≤6∧1≤ctT ns i:=λi=>by unfold ctT;lia
have sb:∀i,scT ns i≤4∧1≤scT ns i:=λi=>by unfold scT;lia
generalize nT ns=n at ok r1 nn1
generalize nmT ns=nm at ok r1
generalize ctT ns=ct at ok r1 cb
generalize scT ns=sc at ok r1 sb
have n4:=ok.n4
have bnd:∀(f:Nat→Nat) (b:Nat),(∀i,f i≤b∧1≤f i)→∀k,fst f k≤k*b∧k≤fst f k:=λf b hf k=>by
 induction k with
 |zero=>exact⟨mJ _,mJ _⟩
 |succ k ih=>have:=hf k;rw[Nat.succ_mul];show fst f k+f k≤_∧_≤fst f k+f k;lia
have b1:=bnd ct 6 cb n
have b2:=bnd sc 4 sb n
have b3:n*6≤24:=by lia
have b4:n*4≤16:=by lia
intro mi nmi
have s2:Same H1 (upd H1 mi (.dK [])):=Same.upd nmi
have e2:(upd H1 mi (.dK [])) mi=some (.dK []):=qH
generalize upd H1 mi (.dK [])=H2 at s2 e2 ⊢
refine⟨_,rfl,?_⟩
intro sa nsa
have s3:Same H2 (upd H2 sa (.dK [])):=Same.upd nsa
have e3:(upd H2 sa (.dK [])) sa=some (.dK []):=qH
have hsa0:∀b o,H1 b=some o→H2 b=some o:=λb o e=>s2 _ _ e
generalize upd H2 sa (.dK [])=H3 at s3 e3 ⊢
intro ha nha
have s4:Same H3 (upd H3 ha (.dK [])):=Same.upd nha
have e4:(upd H3 ha (.dK [])) ha=some (.dK []):=qH
have hha0:∀b o,H1 b=some o→H3 b=some o:=λb o e=>s3 _ _ (hsa0 _ _ e)
generalize upd H3 ha (.dK [])=H4 at s4 e4 ⊢
have mi4:=s4 _ _ (s3 _ _ e2)
refine⟨mi4,dM l sa ha,rfl,by simp[dM],?_⟩
rw[show q34 [] (dM l sa ha)=dM l sa ha from rfl]
have u5:∀x o,x≠mi→H4 x=some o→(upd H4 mi (.dK (dM l sa ha))) x=some o:=λx o n e=>by rw[qC n];exact e
have d5:(upd H4 mi (.dK (dM l sa ha))) mi=some (.dK (dM l sa ha)):=qH
generalize upd H4 mi (.dK (dM l sa ha))=H5 at u5 d5 ⊢
have ml:l≠mi:=qF h1 nmi
have msa:mi≠sa:=qF e2 nsa
have mha:mi≠ha:=qF (s3 _ _ e2) nha
have sha:sa≠ha:=qF e3 nha
have lsa:l≠sa:=qF (s2 _ _ h1) nsa
have lha:l≠ha:=qF (s3 _ _ (s2 _ _ h1)) nha
have s05:Same H H5:=λx o e=>u5 x o (qF (s1 _ _ e) nmi) (s4 _ _ (s3 _ _ (s2 _ _ (s1 _ _ e))))
have l5:=u5 _ _ ml (s4 _ _ (s3 _ _ (s2 _ _ h1)))
have sa5:=u5 _ _ msa.symm (s4 _ _ e3)
have ha5:=u5 _ _ mha.symm e4
have r5:Rws H5 us n nm ct sc:=r1.tp λb xs e=>u5 _ _ (qF e nmi) (s4 _ _ (s3 _ _ (s2 _ _ e)))
clear s2 e2 s3 e3 s4 e4 mi4 u5
have lu:=r1.1
refine⟨_,rfl,l,rfl,⟨_,SqL.of l5⟩,λD2 H6 n6 s6 hD6=>?_⟩
refine q14 (n:=n) (g:=λi=>.int (ct i:Nat)) (by show(0:Nat)<1;decide) l5 s6 n6 hD6 lu (by lia) (λi hi=>?_) λH7 s7 h7=>?_
·obtain⟨p,e,hp⟩:=r5.at hi;exact⟨p,_,e,hp,rfl⟩
have h7:H7 D2=some (.lst (((List.range n).map λi=>((ct i:Nat):Int)).map V.int)):=by rw[h7,gZ];rfl
refine⟨D2,_,rfl,SqL.of h7,?_⟩
rw[q1D]
refine⟨_,rfl,l,rfl,⟨_,SqL.of (s7 _ _ l5)⟩,λD3 H8 n8 s8 hD8=>?_⟩
refine q14 (n:=n) (g:=λi=>.int (sc i:Nat)) (by show(0:Nat)<1;decide) (s7 _ _ l5) s8 n8 hD8 lu (by lia) (λi hi=>?_) λH9 s9 h9=>?_
·obtain⟨p,e,hp⟩:=(r5.same s7).at hi;exact⟨p,_,e,hp,rfl⟩
have h9:H9 D3=some (.lst (((List.range n).map λi=>((sc i:Nat):Int)).map V.int)):=by rw[h9,gZ];rfl
refine⟨D3,_,rfl,SqL.of h9,?_⟩
rw[q1D]
have s59:=s7.trans s9
dsimp only[tNil]
refine qHT (bl:=8) (pg:=10) (mo:=1000000) (by decide) (by decide) (by decide) (by decide) (by decide) (by decide) λc ca HA hc sC fC=>?_
refine⟨_,rfl,_,rfl,?_⟩
dsimp only[tNil]
refine qHV (by decide) (by decide) (by decide) (by decide) (by lia) (by lia) (by lia) (by lia) (by decide) (by decide) (by decide) (by decide) λtm td HB sB htm=>?_
have s5B:=s59.trans (sC.trans sB)
have hcB:=hc.same sB
have tbB:TbF t HB:=⟨#[],s5B _ _ (s05 _ _ hT),.inl rfl⟩
refine λsA sd nA nsd nn=>?_
have sM:Same HB (upd (upd HB sd (.own sA)) sA (.ins t.C_Plain sd [])):=q4B nA nsd
refine⟨sA,sd,tm,td,c,ca,_,_,_,_,_,8,10,rfl,qH,sM _ _ htm,hcB.same sM,rfl,rfl,by lia,tbB.same sM,λkb HC st fk up=>⟨rfl,?_⟩⟩
have sBC:Same HB HC:=λb o e=>up b o (qF e nA) (sM b o e)
have s5C:=s5B.trans sBC
have ps:PS t HC ⟨sA,sd,tm,td,c,ca,kb⟩ (fst ct n) ((fst sc n:Nat):Int) (CM.new 8 10 1000000 []) (bk0 8 10) 0 [] false:=PS.new st (by lia)
refine⟨_,rfl,_,rfl,?_⟩
refine λp pd np npd nn'=>?_
have sP:Same HC (upd (upd HC pd (.own p)) p (.ins t.C_Parts pd [])):=q4B np npd
have s5P:=s5C.trans sP
refine⟨p,pd,⟨sA,sd,tm,td,c,ca,kb⟩,fst ct n,_,_,_,0,[],false,l,us,n,nm,ct,sc,rfl,qH,ps.same sP,s5P _ _ l5,r5.same s5P,ok,kH _,rN _,λfs cs ss HD pt fcs f1 f2 f3 up'=>⟨rfl,?_⟩⟩
have f1:=sP.free f1
have f2:=sP.free f2
have f3:=sP.free f3
have sCD:Same HC HD:=λb o e=>up' b o (qF e np) (sP b o e)
have psD:=ps.same sCD
have s5D:=s5C.trans sCD
have eX:=ps.st.some'
have noOld:∀b o,H5 b=some o→(∀ps,o≠ .tbl ps)→(∀C d fs,o≠ .ins C d fs)→b∉t.aA::([sA,tm]++(ca.li::sf ⟨sA,sd,tm,td,c,ca,kb⟩)):=λb o e nt ni w=>by
 have w:b=t.aA∨b=sA∨b=tm∨b∈ca.li::foot c ca∨b∈bf kb:=by simpa[sf,or_assoc]using w
 rcases w with w|w|w|w|w
 ·rw[w,s05 _ _ hT]at e;exact nt _ (kP e).symm
 ·have:=s5B _ _ e;rw[w,nA]at this;cases this
 ·have:=s5B _ _ e;rw[w,htm]at this;exact ni _ _ _ (kP this).symm
 ·have:=s59 _ _ e;rw[fC b w]at this;cases this
 have:=sM _ _ (s5B _ _ e);rw[fk b w]at this;cases this
have noNew:∀b,HC b=none→b∉t.aA::([sA,tm]++(ca.li::sf ⟨sA,sd,tm,td,c,ca,kb⟩)):=λb e w=>by obtain⟨o,e'⟩:=eX b w;rw[e]at e';cases e'
have j0:J t HD ⟨sA,sd,tm,td,c,ca,kb⟩ (fst ct n) (fst sc n) (CM.new 8 10 1000000 []) (bk0 8 10) 0 [] false ⟨p,pd,fs,cs,ss⟩ ⟨mi,l,sa,ha,λ_=>0⟩ us n nm ct sc sc (λ_=>[]) 0:=by
 refine⟨psD,pt,⟨s5D _ _ d5,s5D _ _ sa5,s5D _ _ ha5,λi hi=>by lia⟩,mJ _,s5D _ _ l5,r5.same s5D,ok,nn1,rfl,rfl,λi hi s v=>by simp,λi hi=>rP,λi hi=>mJ _,?_,λb hb=>?_⟩
 ·have o1:∀{b o},H5 b=some o→b≠p∧b≠fs∧b≠cs∧b≠ss:=fun {b o} e=>⟨qF (s5C _ _ e) np,qF (s5C _ _ e) f1,qF (s5C _ _ e) f2,qF (s5C _ _ e) f3⟩
  obtain⟨a1,a2,a3,a4⟩:=o1 d5;obtain⟨b1,b2,b3,b4⟩:=o1 sa5;obtain⟨c1,c2,c3,c4⟩:=o1 ha5;obtain⟨e1,e2,e3,e4⟩:=o1 l5;have g1:=jK pt.o pt.f (by intro y;cases y);have g2:=jK pt.o pt.c (by intro y;cases y);have g3:=jK pt.o pt.s (by intro y;cases y);have g4:=pt.d1;have g5:=pt.d2;dsimp only at g1 g2 g3 g4 g5;unfold own;simp only[List.range_zero,c7,nK,m6,kR,gQ,not_or,wQ,not_false_eq_true,rP,and_true];exact⟨⟨msa,mha,ml.symm,a1,a2,a3,a4⟩,⟨sha,lsa.symm,b1,b2,b3,b4⟩,⟨lha.symm,c1,c2,c3,c4⟩,⟨e1,e2,e3,e4⟩,⟨g1,g2,g3⟩,⟨fcs,g4⟩,g5⟩
 have hb:b=mi∨b=sa∨b=ha∨b=l∨b=p∨b=fs∨b=cs∨b=ss:=by simpa[own]using hb
 rcases hb with rfl|rfl|rfl|rfl|rfl|rfl|rfl|rfl
 ·exact noOld _ _ d5 (λ_ z=>by cases z) (λ_ _ _ z=>by cases z)
 ·exact noOld _ _ sa5 (λ_ z=>by cases z) (λ_ _ _ z=>by cases z)
 ·exact noOld _ _ ha5 (λ_ z=>by cases z) (λ_ _ _ z=>by cases z)
 ·exact noOld _ _ l5 (λ_ z=>by cases z) (λ_ _ _ z=>by cases z)
 ·exact noNew _ np
 ·exact noNew _ f1
 ·exact noNew _ f2
 exact noNew _ f3
have nf5:∀b,H5 b=none→H b=none:=λb e=>s05.free e
have fr0:∀b∈t.aA::(sf ⟨sA,sd,tm,td,c,ca,kb⟩++[sa,ss,ha]),b=t.aA∨H b=none:=λb hb=>by
 have hb:b=t.aA∨b∈foot c ca∨b∈bf kb∨b=sa∨b=ss∨b=ha:=by simpa[sf,or_assoc]using hb
 rcases hb with h|h|h|h|h|h
 ·exact .inl h
 ·exact .inr (nf5 _ (s59.free (fC b (hZ _ h))))
 ·exact .inr (nf5 _ (s5B.free (sM.free (fk b h))))
 ·refine .inr (s1.free ?_);rw[h];cases hh:H1 sa with
  |none=>rfl
  |some o=>exact absurd rfl (qF (hsa0 _ _ hh) nsa)
 ·exact .inr (nf5 _ (s5C.free (by rw[h];exact f3)))
 refine .inr (s1.free ?_);rw[h];cases hh:H1 ha with
 |none=>rfl
 |some o=>exact absurd rfl (qF (hha0 _ _ hh) nha)
have r0:RT t H HD:=RT.of (s05.trans s5D)
have eS:Sto.s ⟨sA,sd,tm,td,c,ca,kb⟩=sA:=rfl
generalize (⟨sA,sd,tm,td,c,ca,kb⟩:Sto)=x at j0 fr0 eS
subst eS
have lD:=s5D _ _ l5
refine⟨_,rfl,l,rfl,⟨_,SqL.of lD⟩,?_⟩
clear psD noOld noNew eX up' sP np npd nn' up fk st ps fC hcB tbB htm nA nsd nn h7 h9 n6 n8 hD6 hD8 s6 s8 s7 s9 hc sC sB
refine q38 (K:=K) (xs:=us) (λi σ' H2=>(∃y7 y8 y9 y10,σ'=[some (.ref a),some (.ref l),some (.ref mi),some (.int ((fst ct n:Nat):Int)),some (.int ((fst sc n:Nat):Int)),some (.ref x.s),some (.ref p),y7,y8,y9,y10,none])∧RT t H H2∧∃m q n' W hd hA,J t H2 x (fst ct n) (fst sc n) m q n' W false ⟨p,pd,fs,cs,ss⟩ ⟨mi,l,sa,ha,hA⟩ us n nm ct sc sc hd i∧n'≤4*i∧q.B=8∧q.P=10∧(∀k,i≤k→hd k=[])∧∀k,k<i→H (hA k)=none) ⟨⟨_,_,_,_,rfl⟩,r0,_,_,0,[],_,_,j0,kH _,rfl,rfl,λk _=>rfl,λk hk=>by lia⟩ (λi σ' H2 hi hp=>?_) (λi v σ' H2 D' nxt hv hp=>?_) (λσ' H2 hp=>?_)
·obtain⟨_,_,m,q,n',W,hd,hA,j,_⟩:=hp;exact SqL.of j.ra
·obtain⟨⟨y7,y8,y9,y10,rfl⟩,rt,m,q,n',W,hd,hA,j,hn',eB,eP,hz,hf⟩:=hp;have hi:i<n:=by rw[←lu];exact(kD.mp hv).1
 obtain⟨ra,era,hra⟩:=j.rw.at hi;rw[hv]at era;cases era;refine⟨ra,_,rfl,SqT.of hra,rfl,_,_,rfl,_,_,rfl,_,_,rfl,rfl,?_⟩;have gs:DGet H2 mi (.str "shares") (some (.ref sa)):=DGet.k (k:=Sum.inr "shares") j.mn.m;refine⟨_,rfl,_,rfl,mi,_,rfl,gs,_,rfl,sa,_,rfl,DPut.k (k:=Sum.inr (nm i)) j.mn.s (by rw[vM];lia),?_⟩;have u1:=ok.u.less (show i+1≤n from hi);have ed:∀f:Nat→V,(dN (i+1) nm λj=>if j=i then f i else f j)=dN (i+1) nm f:=λf=>uX λj _=>by
  by_cases y:j=i
  ·rw[kJ y,y]
  rw[kI y]
 have d1:=ed λi=>.int (sc i:Nat);rw[q56 u1,d1];have kA:Keep [sa,ha] H2 (upd H2 sa (.dK (dN (i+1) nm λi=>.int (sc i:Nat)))):=Keep.upd j.mn.s (λ_ y=>by cases y) (by simp);have eA:(upd H2 sa (.dK (dN (i+1) nm λi=>.int (sc i:Nat)))) sa=some (.dK (dN (i+1) nm λi=>.int (sc i:Nat))):=qH;have oA:∀b o,b≠sa→H2 b=some o→(upd H2 sa (.dK (dN (i+1) nm λi=>.int (sc i:Nat)))) b=some o:=λb o n e=>by rw[qC n];exact e
 have nA':∀b,(upd H2 sa (.dK (dN (i+1) nm λi=>.int (sc i:Nat)))) b=none→H2 b=none:=λb e=>by
  by_cases w:b=sa
  ·rw[w,qH]at e;cases e
  rw[qC w]at e;exact e
 generalize upd H2 sa (.dK (dN (i+1) nm λi=>.int (sc i:Nat)))=H3' at kA eA oA nA' ⊢;refine λh nh=>?_;have sH:Same H3' (upd H3' h (.dK [])):=Same.upd nh;have eH:(upd H3' h (.dK [])) h=some (.dK []):=qH;generalize upd H3' h (.dK [])=H4' at sH eH ⊢;have mi4:=sH _ _ (oA _ _ msa j.mn.m);have ha4:=sH _ _ (oA _ _ sha.symm j.mn.h);have gh:DGet H4' mi (.str "held") (some (.ref ha)):=DGet.k (k:=Sum.inr "held") mi4;refine⟨_,rfl,mi,_,rfl,gh,_,rfl,ha,_,rfl,DPut.k (k:=Sum.inr (nm i)) ha4 (by rw[vM];lia),?_⟩;rw[q56 u1];have e9:(dN (i+1) nm λj=>if j=i then V.ref h else V.ref (hA j))=dN (i+1) nm λj=>.ref (if j=i then h else hA j):=uX λj _=>by split<;>rfl
 rw[e9];have kB:Keep [sa,ha] H4' (upd H4' ha (.dK (dN (i+1) nm λj=>.ref (if j=i then h else hA j)))):=Keep.upd ha4 (λ_ y=>by cases y) (by simp);have eB1:(upd H4' ha (.dK (dN (i+1) nm λj=>.ref (if j=i then h else hA j)))) ha=some (.dK (dN (i+1) nm λj=>.ref (if j=i then h else hA j))):=qH;have oB:∀b o,b≠ha→H4' b=some o→(upd H4' ha (.dK (dN (i+1) nm λj=>.ref (if j=i then h else hA j)))) b=some o:=λb o n e=>by rw[qC n];exact e
 generalize upd H4' ha (.dK (dN (i+1) nm λj=>.ref (if j=i then h else hA j)))=H5' at kB eB1 oB ⊢;have hh4:h≠ha:=λw=>by rw[w,oA _ _ sha.symm j.mn.h]at nh;cases nh
 have kE:Keep [sa,ha] H2 H5':=(kA.trans (Keep.same sH)).trans kB;have jE:=j.enter hi (hz i (kH _)) kE (nA' h nh) (oB _ _ sha (sH _ _ eA)) eB1 (oB _ _ hh4 eH);have rt5:RT t H H5':=by
  refine rt.keep kE λb hb=>fr0 b ?_;have hb:b=sa∨b=ha:=by simpa using hb
  rcases hb with h|h<;>simp[h]
 have nhH:H h=none:=by
  cases w:H h with
  |none=>rfl
  |some o=>
   have hT':h≠t.aA:=λw'=>by obtain⟨ps,hTT,_⟩:=j.ps.st.tb;rw[w',oA _ _ (λe=>by rw[e,j.mn.s]at hTT;cases hTT) hTT]at nh;cases nh
   have:=rt h o hT' w;rw[nA' h nh]at this;cases this
 have hf':∀k,k<i+1→H ((λj=>if j=i then h else hA j) k)=none:=λk hk=>by
  show H (if k=i then h else hA k)=none;by_cases w:k=i
  ·rw[kJ w];exact nhH
  rw[kI w];exact hf k (by lia)
 have cbi:=cb i;have sbi:=sb i;refine⟨_,rfl,a,ns,7,rfl,rt5.sq hT hS,by decide,_,rfl,_,rfl,_,_,rfl,_,_,rfl,rfl,iI ⟨?_,?_⟩⟩
 ·show(0:Int)<(if((sc i:Nat):Int)<((ct i:Nat):Int)then((sc i:Nat):Int)else((ct i:Nat):Int))+1;split<;>lia
 obtain⟨N,eN,N1,N2⟩:∃N:Nat,yK ns 7%((if((sc i:Nat):Int)<((ct i:Nat):Int)then((sc i:Nat):Int)else((ct i:Nat):Int))+1)=(N:Int)∧N≤ct i∧N≤sc i:=by
  have a0:(0:Int)<(if((sc i:Nat):Int)<((ct i:Nat):Int)then((sc i:Nat):Int)else((ct i:Nat):Int))+1:=by split<;>lia
  have a1:=rF (yK ns 7) (Int.ne_of_gt a0);have a2:=rC (yK ns 7) a0;refine⟨_,(rR a1).symm,?_,?_⟩
  ·split at a2<;>lia
  split at a2<;>lia
 dsimp only[tNil];rw[eN];refine⟨_,rfl,by lia,by lia,?_⟩;rw[g7];generalize (λj=>if j=i then h else hA j)=hB at jE hf' eB1;refine zX (λj' σ' H6=>(∃y10,σ'=[some (.ref a),some (.ref l),some (.ref mi),some (.int ((fst ct n:Nat):Int)),some (.int ((fst sc n:Nat):Int)),some (.ref x.s),some (.ref p),some (.str (nm i)),some (.int ((ct i:Nat):Int)),some (.int ((sc i:Nat):Int)),y10,none])∧RT t H H6∧∃m q n' W hd,J t H6 x (fst ct n) (fst sc n) m q n' W false ⟨p,pd,fs,cs,ss⟩ ⟨mi,l,sa,ha,hB⟩ us n nm ct sc sc hd (i+1)∧n'≤4*i+j'∧q.B=8∧q.P=10∧(∀k,i+1≤k→hd k=[])∧(hd i).length=j'∧∀s∈(hd i).map (·.1),s<(j':Int)) ⟨⟨_,rfl⟩,rt5,m,q,n',W,hd,jE,hn',eB,eP,λk hk=>hz k (by lia),by rw[hz i (kH _)];rfl,by rw[hz i (kH _)];intro s hs;simp at hs⟩ (λj' σ' H6 D2 nxt2 hj' hp=>?_) (λσ' H6 hp=>?_)
 ·obtain⟨⟨y10',rfl⟩,rt6,m,q,n',W,hd,j,hn',eB,eP,hz,hl,hk⟩:=hp;rw[dX];have gh:DGet H6 mi (.str "held") (some (.ref ha)):=DGet.k (k:=Sum.inr "held") j.mn.m;have gi:=DGet.k (k:=Sum.inr (nm i)) j.mn.h;rw[yW u1 (gO i)]at gi;have hdi:=j.mn.d i (gO i);have pk:=DPut.k (k:=Sum.inl (j':Int)) (v:=.int (j':Int)) hdi (by rw[q12];lia);rw[q76]at pk;refine⟨_,rfl,_,rfl,mi,_,rfl,gh,_,rfl,ha,_,rfl,gi,_,rfl,hB i,_,rfl,pk,?_⟩;have k1:Keep [hB i] H6 (upd H6 (hB i) (.dK (dI (putW (hd i) j' j')))):=Keep.upd hdi (λ_ y=>by cases y) (by simp);have e1:(upd H6 (hB i) (.dK (dI (putW (hd i) j' j')))) (hB i)=some (.dK (dI (putW (hd i) j' j'))):=qH;generalize upd H6 (hB i) (.dK (dI (putW (hd i) j' j')))=H7' at k1 e1 ⊢;obtain⟨ps1,pt1⟩:=j.held1 (gO i) k1;have cc:(j':Int)∈(hd i).map (·.1)∨(hd i).length<sc i:=.inr (by lia);have nw:((fst ct i:Nat):Int)+(j':Int)∉W.map (·.1):=λw=>by obtain⟨b,hb⟩:=jS.mp w;have:=hk _ (jS.mpr ⟨b,(j.wh i hi j' b).mpr ⟨by lia,by lia,hb⟩⟩);lia
  refine⟨_,rfl,_,rfl,_,rfl,_,rfl,?_⟩;dsimp only[tNil,mV,m8];refine⟨⟨p,pd,fs,cs,ss⟩,x,fst ct n,_,m,q,n',W,n,nm,ct,sc,i,j',j',rfl,pt1,ps1,ok.u,hi,by lia,by lia,kH _,by lia,by lia,by rw[eB,eP];lia,by lia,λ_=>⟨.inr (j.room hi (by lia)),λm' q' H8 ps2 eB' eP' k2=>?_⟩,λw=>absurd (.inr (by rw[j.len hi];lia)) w⟩;have j2:=j.wr (gO i) (by lia) (by lia) cc k1 e1 ps2 k2;refine⟨rfl,_,rfl,?_⟩;rw[show(!decide (V.str (Str.ofString "done")=V.str (Str.ofString "done")))=false by simp];have kF:Keep (t.aA::(sf x++[hB i])) H6 H8:=(k1.mono (by simp)).trans (k2.mono (by
   intro b hb;rcases kR.mp hb with h|h
   ·rw[h];exact kU
   exact hZ _ (mD _ h)))
  have rt8:RT t H H8:=rt6.keep kF λb hb=>by
   rcases kR.mp hb with h|h
   ·exact .inl h
   rcases mO.mp h with h|h
   ·exact fr0 b (hZ _ (mD _ h))
   rw[kC.mp h];exact .inr (hf' i (gO i))
  have nm':(j':Int)∉(hd i).map (·.1):=λw=>by have:=hk _ w;lia
  refine iteF (nxt2 _ _ ⟨⟨_,rfl⟩,rt8,m',q',_,_,_,j2,by lia,by rw[eB'];exact eB,by rw[eP'];exact eP,λk hk'=>?_,?_,λs hs=>?_⟩)
  ·show(if k=i then _ else hd k)=[];rw[kI (by lia)];exact hz k hk'
  ·show(if i=i then putW (hd i) j' j' else hd i).length=_;rw[kJ rfl,q8S,kI nm',hl]
  have hs:s∈(putW (hd i) j' j').map (·.1):=by have:(if i=i then putW (hd i) (j':Int) (j':Int)else hd i)=putW (hd i) j' j':=kJ rfl;rw[←this];exact hs
  obtain⟨b,hb⟩:=jS.mp hs;rcases(yO (j.nd i hi)).mp hb with h|h
  ·have:=(lU h).1;lia
  have:=hk _ (jS.mpr ⟨b,(jD.mp h).1⟩);lia
 obtain⟨⟨y10',rfl⟩,rt6,m,q,n',W,hd,j,hn',eB,eP,hz,hl,hk⟩:=hp;exact nxt _ _ ⟨⟨_,_,_,_,rfl⟩,rt6,m,q,n',W,hd,hB,j,by lia,eB,eP,hz,hf'⟩
obtain⟨⟨y7,y8,y9,y10,rfl⟩,rt,m,q,n',W,hd,hA,j,hn',eB,eP,hz,hf⟩:=hp
rw[lu]at j hn' hz hf
have fF:∀b∈FF t x ⟨mi,l,sa,ha,hA⟩ ⟨p,pd,fs,cs,ss⟩ n,b=t.aA∨H b=none:=λb hb=>by
 unfold FF at hb;rcases kR.mp hb with h|h
 ·exact .inl h
 rcases mO.mp h with h|h
 ·exact fr0 b (hZ _ (mD _ h))
 rcases mO.mp h with h|h
 ·have h:b=sa∨b=ss:=by simpa using h
  rcases h with h|h<;>exact fr0 b (by simp[h])
 obtain⟨k,hk,rfl⟩:=mB.mp h;exact .inr (hf k (kW.mp hk))
refine⟨_,rfl,8,rfl,58,rfl,a,_,rfl,rt.sq hT hS,λcu ncu=>?_⟩
have si:Same H2 (upd H2 cu (.lst (cutV (ns.map V.int) (some 8) (some 58)))):=Same.upd ncu
have pi:(upd H2 cu (.lst (cutV (ns.map V.int) (some 8) (some 58)))) cu=some (.lst (cutV (ns.map V.int) (some 8) (some 58))):=qH
generalize upd H2 cu (.lst (cutV (ns.map V.int) (some 8) (some 58)))=H3' at si pi ⊢
have lc:(cutV (ns.map V.int) (some 8) (some 58)).length≤63:=mI (q3M _ _ _) (by rw[hV];exact hlen)
have jC:=j.same si
have cuF:cu∉FF t x ⟨mi,l,sa,ha,hA⟩ ⟨p,pd,fs,cs,ss⟩ n:=λw=>by
 unfold FF at w;rcases kR.mp w with h|h
 ·obtain⟨o,e⟩:=j.ps.st.some' cu (by simp[h]);rw[ncu]at e;cases e
 rcases mO.mp h with h|h
 ·obtain⟨o,e⟩:=j.ps.st.some' cu (by simp[h]);rw[ncu]at e;cases e
 have:cu∈own ⟨mi,l,sa,ha,hA⟩ ⟨p,pd,fs,cs,ss⟩ n:=by
  rcases mO.mp h with h|h
  ·have h:cu=sa∨cu=ss:=by simpa using h
   rcases h with h|h<;>simp[own,h]
  exact kN _ h
 obtain⟨o,e⟩:=j.ownS cu this;rw[ncu]at e;cases e
refine⟨cu,rfl,⟨_,SqL.of pi⟩,?_⟩
refine q38 (K:=K) (xs:=cutV (ns.map V.int) (some 8) (some 58)) (λi σ' H4=>(∃y11,σ'=[some (.ref a),some (.ref l),some (.ref mi),some (.int ((fst ct n:Nat):Int)),some (.int ((fst sc n:Nat):Int)),some (.ref x.s),some (.ref p),y7,y8,y9,y10,y11])∧H4 cu=some (.lst (cutV (ns.map V.int) (some 8) (some 58)))∧∃m q n' W sc' hd,J t H4 x (fst ct n) (fst sc n) m q n' W false ⟨p,pd,fs,cs,ss⟩ ⟨mi,l,sa,ha,hA⟩ us n nm ct sc sc' hd n∧n'≤16+i∧q.B=8∧q.P=10) ⟨⟨_,rfl⟩,pi,m,q,n',W,sc,hd,jC,by lia,eB,eP⟩ (λi σ' H4 hi hp=>?_) (λi v σ' H4 D' nxt hv hp=>?_) (λσ' H4 hp=>?_)
·exact SqL.of hp.2.1
·obtain⟨⟨y11,rfl⟩,cu4,m,q,n',W,sc',hd,j,hn',eB,eP⟩:=hp;obtain⟨c,rfl⟩:=qEJ hv;have il:i<63:=kZ (kD.mp hv).1 lc;refine⟨_,rfl,_,rfl,_,rfl,_,rfl,iI ⟨.inr ⟨by decide,by decide⟩,iI ⟨(by show(0:Int)<2147483647;decide),?_⟩⟩⟩;dsimp only[tNil,mV,m8];refine⟨x,_,_,m,q,n',W,⟨p,pd,fs,cs,ss⟩,⟨mi,l,sa,ha,hA⟩,us,n,nm,ct,sc,sc',hd,c*48271%2147483647,rfl,j,by lia,by lia,by rw[eB,eP];lia,by lia,λm' q' n2 W' sc2 hd' H5 j5 hn2 eB' eP' k5=>⟨_,rfl,iteF ?_⟩⟩;refine⟨_,rfl,_,rfl,?_⟩;dsimp only[tNil,mV,m8];refine⟨x,_,_,m',q',n2,W',false,⟨p,pd,fs,cs,ss⟩,⟨mi,l,sa,ha,hA⟩,us,n,nm,ct,sc,sc2,hd',rfl,j5,rfl,λH6 s6=>⟨_,rfl,iteF ?_⟩⟩;exact nxt _ _ ⟨⟨_,rfl⟩,s6 _ _ (k5.k _ _ cuF cu4),m',q',n2,W',sc2,hd',j5.same s6,by lia,by rw[eB'];exact eB,by rw[eP'];exact eP⟩
obtain⟨⟨y11,rfl⟩,cu4,m,q,n',W,sc',hd,j,hn',eB,eP⟩:=hp
refine⟨_,rfl,iV rfl (iM j.pt.o rfl ⟨⟨p,pd,fs,cs,ss⟩,x.s,n,nm,ct,sc',rfl,j.pt,ok.u,n4,λl2 us2 H5 s5 n5 h5 r5'=>?_⟩)⟩
have j5:=j.same s5
refine λp2 pd2 np2 npd2 nn2=>?_
have sP2:Same H5 (upd (upd H5 pd2 (.own p2)) p2 (.ins t.C_Parts pd2 [])):=q4B np2 npd2
refine⟨p2,pd2,x,_,_,m,q,n',W,false,l2,us2,n,nm,ct,sc',rfl,qH,j5.ps.same sP2,sP2 _ _ h5,r5'.same sP2,j.ok,kH _,by rw[j.sr];exact rN _,λfs2 cs2 ss2 H6 pt2 _ _ _ _ up2=>⟨rfl,?_⟩⟩
have s56:Same H5 H6:=λb o e=>up2 b o (qF e np2) (sP2 b o e)
have j6:=j5.same s56
refine(iM pt2.o rfl ⟨⟨p2,pd2,fs2,cs2,ss2⟩,x.s,n,nm,ct,sc',rfl,pt2,ok.u,n4,λl3 us3 H7 s7' n7 h7 r7=>?_⟩)
have j7:=j6.same s7'
refine(iV rfl (iM j7.pt.o rfl ⟨⟨p,pd,fs,cs,ss⟩,x.s,n,nm,ct,sc',rfl,j7.pt,ok.u,n4,λl4 us4 H8 s8' n8 h8 r8=>?_⟩))
refine⟨q8U (s8' _ _ h7) h8 (r7.same s8') r8,_,rfl,iteT ?_⟩
refine⟨_,rfl,_,rfl,?_⟩
dsimp only[tNil,mV,m8]
exact⟨x,_,_,m,q,n',W,false,⟨p,pd,fs,cs,ss⟩,⟨mi,l,sa,ha,hA⟩,us,n,nm,ct,sc,sc',hd,rfl,j7.same s8',rfl,λH9 s9=>kk H9⟩)
theorem qGU{P:Program}{w:World}{K:W.Frag}{mg:Str→Option Value}{t:Adr}(T:Txt K mg t)(S:Fns K t)(B:BmIn base mg):S.law.Ok0 P w mg base 16 (q36 K [t.aA]):=Classical.byContradiction λn=>by
 have hs:hkB hkE:=by unfold hkE;exact Classical.epsilon_spec ⟨⟨P,w,K,mg,t⟩,S,base,T,B,n⟩
 obtain⟨S',b',T',B1,n'⟩:=hs;exact n' (qGT T' S' B1)
end
theorem qGV{l:W.OpenLaw}{w:World}{K:W.Frag}{h:Heap}{mg:Str→Option Value}{fa z0 z1 z2 z3 z4 z5 z6 z7 z8 z9 z10 z11 z12 z13 z14 z15 z16 z17 z18 z19 z20 z21 z22 z23 z24 z25 z26 z27 z28 z29 z30 z31 z32 z33 z34 z35 z36 z37 z38 z39 z40 z41 z42 z43 z44 z45 z46 z47 z48 z49 z50 z51 z52 z53 z54 z55 z56 z57 z58 z59 z60 z61 z62 z63 z64 z65 z66 z67 z68 z69 z70 z71 z72 z73 z74 z75 z76 z77 z78 z79 z80 z81 z82:Addr}(X:K.In h)(G:h.Ns mainGlobals mg)(hfa:mg "law"=some (.ref fa))
 {z83 z84 z95 z96 z107 z108:Option Addr} {z85 z97 z109:Array (Option Value)} {z86 z87 z88 z89 z90 z91 z98 z99 z100 z101 z103 z110 z111 z112 z113 z114 z115:Value} {z92:Option Addr} {z93:Nat} {z94:Array (Option Value)} {e0_Chip_init:Tok} {z116:Option Addr} {z117:Nat} {z118:Array (Option Value)} {e0_Terms_init:Tok} {e1_Terms_init:Tok} {bV:Tok} {t9:Tok} {oH:Tok}
 (z119:W.nsIn K mainGlobals "Parts"=some (some (.ref z71)))
 (z120:Cls K z71)
 (z121:qN K z71 "store")
 (z122:qN K z71 "firsts")
 (z123:qN K z71 "counts")
 (z124:qN K z71 "shares")
 (z125:Meth K z71 "write" z11)
 (z126:Meth K z71 "read" z12)
 (z127:Meth K z71 "held" z13)
 (z128:Meth K z71 "room" z14)
 (z129:Meth K z71 "share_of" z15)
 (z130:Meth K z71 "shift" z16)
 (z131:Meth K z71 "told" z17)
 (z132:Meth K z71 "place_of" z18)
 (z133:Meth K z71 "check_part" z19)
 (z134:Mk K z71 z10)
 (z135:W.nsIn K mainGlobals "Chip"=some (some (.ref z72)))
 (z136:Cls K z72)
 (z137:qN K z72 "blocks")
 (z138:qN K z72 "pages")
 (z139:qN K z72 "most")
 (z140:qN K z72 "limits")
 (z141:qN K z72 "borne")
 (z142:qN K z72 "clearings")
 (z143:qN K z72 "deed_counts")
 (z144:qN K z72 "broken")
 (z145:qN K z72 "deeds_left")
 (z146:qN K z72 "record")
 (z147:Meth K z72 "put" z22)
 (z148:Meth K z72 "read" z23)
 (z149:Meth K z72 "cut_after" z24)
 (z150:Meth K z72 "power_on" z25)
 (z151:Meth K z72 "is_dark" z26)
 (z152:Meth K z72 "cleared" z27)
 (z153:Meth K z72 "failed" z28)
 (z154:Meth K z72 "deeds" z29)
 (z155:Meth K z72 "check_page" z30)
 (z156:Meth K z72 "check_block" z31)
 (z157:Meth K z72 "check_power" z32)
 (z158:Meth K z72 "check_deed" z33)
 (z159:Meth K z72 "is_spent" z34)
 (z160:Meth K z72 "do_deed" z35)
 (z161:Mk K z72 z21)
 (z162:W.nsIn K mainGlobals "Book"=some (some (.ref z73)))
 (z163:Cls K z73)
 (z164:qN K z73 "blocks")
 (z165:qN K z73 "pages")
 (z166:qN K z73 "stamp")
 (z167:qN K z73 "where")
 (z168:qN K z73 "live")
 (z169:qN K z73 "filled")
 (z170:qN K z73 "born")
 (z171:Meth K z73 "mark" z38)
 (z172:Meth K z73 "note" z39)
 (z173:Meth K z73 "forget" z40)
 (z174:Meth K z73 "held" z41)
 (z175:Mk K z73 z37)
 (z176:W.nsIn K mainGlobals "Plain"=some (some (.ref z74)))
 (z177:Cls K z74)
 (z178:qN K z74 "chip")
 (z179:qN K z74 "terms")
 (z180:qN K z74 "book")
 (z181:Meth K z74 "good" z43)
 (z182:Meth K z74 "free" z44)
 (z183:Meth K z74 "part" z45)
 (z184:Meth K z74 "spot" z46)
 (z185:Meth K z74 "reserve" z47)
 (z186:Meth K z74 "ready" z48)
 (z187:Meth K z74 "make_ready" z49)
 (z188:Meth K z74 "set_down" z50)
 (z189:Meth K z74 "lay" z51)
 (z190:Meth K z74 "write" z52)
 (z191:Meth K z74 "read" z53)
 (z192:Meth K z74 "held" z54)
 (z193:Meth K z74 "check_sheet" z55)
 (z194:Meth K z74 "check_share" z56)
 (z195:Mk K z74 z42)
 (z196:W.nsIn K mainGlobals "Terms"=some (some (.ref z75)))
 (z197:Cls K z75)
 (z198:qN K z75 "blocks")
 (z199:qN K z75 "pages")
 (z200:qN K z75 "sheets")
 (z201:qN K z75 "share")
 (z202:qN K z75 "ill")
 (z203:qN K z75 "spread")
 (z204:Meth K z75 "closed" z58)
 (z205:Mk K z75 z57)
 (z206:W.nsIn K mainGlobals "WornError"=some (some (.ref z76)))
 (z207:W.nsIn K mainGlobals "NoSheet"=some (some (.ref z77)))
 (z208:W.nsIn K mainGlobals "NoValue"=some (some (.ref z78)))
 (z209:XRd K z78)
 (z210:W.excIn K z78 bmVE "ValueError.__new__"=true)
 (z211:W.nsIn K mainGlobals "Full"=some (some (.ref z79)))
 (z212:XRd K z79)
 (z213:W.excIn K z79 bmVE "ValueError.__new__"=true)
 (z214:W.nsIn K mainGlobals "NoPart"=some (some (.ref z80)))
 (z215:XRd K z80)
 (z216:W.excIn K z80 bmVE "ValueError.__new__"=true)
 (z217:W.exmOne K (.ref z78) (.ref z76)=some true)
 (z218:W.exmOne K (.ref z79) (.ref z79)=some true)
 (z219:W.exmOne K (.ref z79) (.ref z76)=some true)
 (z220:W.exmOne K (.ref z80) (.ref z76)=some true)
 (z221:W.kitOne K (.ref z78) (.ref z79)=some false)
 (z222:W.kitOne K (.ref z78) (.ref z80)=some false)
 (z223:W.kitOne K (.ref z78) (.ref z77)=some false)
 (z224:W.kitOne K (.ref z78) (.ref z78)=some true)
 (z225:W.kitOne K (.ref z78) (.type "ValueError")=some true)
 (z226:W.kitOne K (.ref z79) (.ref z79)=some true)
 (z227:W.kitOne K (.ref z79) (.ref z80)=some false)
 (z228:W.kitOne K (.ref z79) (.ref z77)=some false)
 (z229:W.kitOne K (.ref z79) (.ref z78)=some false)
 (z230:W.kitOne K (.ref z79) (.type "ValueError")=some true)
 (z231:W.kitOne K (.ref z80) (.ref z79)=some false)
 (z232:W.kitOne K (.ref z80) (.ref z80)=some true)
 (z233:W.kitOne K (.ref z80) (.ref z77)=some false)
 (z234:W.kitOne K (.ref z80) (.ref z78)=some false)
 (z235:W.kitOne K (.ref z80) (.type "ValueError")=some true)
 (z236:W.codeHdIn K z0 z1=true)
 (z237:GFn K "is_whole" z2)
 (z238:GFn K "is_within" z3)
 (z239:GFn K "is_shape" z4)
 (z240:GFn K "is_value" z5)
 (z241:GFn K "is_name" z6)
 (z242:GFn K "is_from_one" z7)
 (z243:GFn K "check_told" z8)
 (z244:GFn K "check_row" z9)
 (z245:GFn K "limits_of" z20)
 (z246:GFn K "mark_of" z36)
 (z247:GFn K "_law_cell_at" z59)
 (z248:GFn K "_law_whole" z60)
 (z249:GFn K "_law_names" z61)
 (z250:GFn K "_law_table" z62)
 (z251:GFn K "_law_kinds" z63)
 (z252:GFn K "_law_shift" z64)
 (z253:GFn K "_law_write" z65)
 (z254:GFn K "_law_due" z66)
 (z255:GFn K "_law_moved" z67)
 (z256:GFn K "_law_step" z68)
 (z257:GFn K "_law_same" z69)
 (z258:W.nsIn K mainGlobals "MOST_TOLD"=some (some (.int 1000000 bV)))
 (z259:W.nsIn K mainGlobals "ROLL"=some (some (.int 64 t9)))
 (z260:W.nsIn K mainGlobals "NAMES"=some (some (.int 128 oH)))
 (z261:W.nsIn K mainGlobals "ValueError"=some none)
 (z262:W.nsIn K mainGlobals "all"=some none)
 (z263:W.nsIn K mainGlobals "bool"=some none)
 (z264:W.nsIn K mainGlobals "int"=some none)
 (z265:W.nsIn K mainGlobals "isinstance"=some none)
 (z266:W.nsIn K mainGlobals "len"=some none)
 (z267:W.nsIn K mainGlobals "list"=some none)
 (z268:W.nsIn K mainGlobals "max"=some none)
 (z269:W.nsIn K mainGlobals "min"=some none)
 (z270:W.nsIn K mainGlobals "range"=some none)
 (z271:W.nsIn K mainGlobals "set"=some none)
 (z272:W.nsIn K mainGlobals "sorted"=some none)
 (z273:W.nsIn K mainGlobals "str"=some none)
 (z274:W.nsIn K mainGlobals "sum"=some none)
 (z275:W.nsIn K mainGlobals "tuple"=some none)
 (z276:FnX K "is_whole" "is_whole" q20 z2)
 (z277:FnX K "is_within" "is_within" q0I z3)
 (z278:FnX K "is_shape" "is_shape" q21 z4)
 (z279:FnX K "is_value" "is_value" q22 z5)
 (z280:FnX K "is_name" "is_name" q39 z6)
 (z281:FnX K "is_from_one" "is_from_one" zF z7)
 (z282:FnX K "check_told" "check_told" zY z8)
 (z283:FnX K "check_row" "check_row" q0J z9)
 (z284:FnX K "__init__" "Parts.__init__" zZ z10)
 (z285:FnX K "write" "Parts.write" zG z11)
 (z286:FnX K "read" "Parts.read" q00 z12)
 (z287:FnX K "held" "Parts.held" q01 z13)
 (z288:FnX K "room" "Parts.room" q02 z14)
 (z289:FnX K "share_of" "Parts.share_of" uK z15)
 (z290:FnX K "shift" "Parts.shift" zH z16)
 (z291:FnX K "told" "Parts.told" q03 z17)
 (z292:FnX K "place_of" "Parts.place_of" uL z18)
 (z293:FnX K "check_part" "Parts.check_part" yZ z19)
 (z294:FnX K "limits_of" "limits_of" q0K z20)
 (z295:K.lookup z21=some ⟨z86,z83,.func (W.fnOf "__init__" "Chip.__init__" (yH uB) (jY uB) (qG uB) (.ref z81) z87 z88 z89 z84 z90 z91),z85⟩)
 (z296:W.codeIn K z90 "Chip.__init__"=true)
 (z297:K.lookup z81=some ⟨.type "tuple",z92,.seq #[.int 1000000 e0_Chip_init,.none] z93,z94⟩)
 (z298:FnX K "put" "Chip.put" q23 z22)
 (z299:FnX K "read" "Chip.read" q0L z23)
 (z300:FnX K "cut_after" "Chip.cut_after" uM z24)
 (z301:FnX K "power_on" "Chip.power_on" v4 z25)
 (z302:FnX K "is_dark" "Chip.is_dark" vN z26)
 (z303:FnX K "cleared" "Chip.cleared" vO z27)
 (z304:FnX K "failed" "Chip.failed" zI z28)
 (z305:FnX K "deeds" "Chip.deeds" q04 z29)
 (z306:FnX K "check_page" "Chip.check_page" uH z30)
 (z307:FnX K "check_block" "Chip.check_block" u6 z31)
 (z308:FnX K "check_power" "Chip.check_power" u7 z32)
 (z309:FnX K "check_deed" "Chip.check_deed" uI z33)
 (z310:FnX K "is_spent" "Chip.is_spent" v5 z34)
 (z311:FnX K "do_deed" "Chip.do_deed" vP z35)
 (z312:FnX K "mark_of" "mark_of" q3A z36)
 (z313:FnX K "__init__" "Book.__init__" q0M z37)
 (z314:FnX K "mark" "Book.mark" q0N z38)
 (z315:FnX K "note" "Book.note" q0O z39)
 (z316:FnX K "forget" "Book.forget" zJ z40)
 (z317:FnX K "held" "Book.held" q0P z41)
 (z318:FnX K "__init__" "Plain.__init__" q05 z42)
 (z319:FnX K "good" "Plain.good" q06 z43)
 (z320:K.lookup z44=some ⟨z98,z95,.func (W.fnOf "free" "Plain.free" (yH jU) (jY jU) (qG jU) .none z99 z100 z101 z96 (.ref z0) z103),z97⟩)
 (z321:W.codeIn K (.ref z0) "Plain.free"=true)
 (z322:FnX K "part" "Plain.part" q07 z45)
 (z323:FnX K "spot" "Plain.spot" q08 z46)
 (z324:FnX K "reserve" "Plain.reserve" v6 z47)
 (z325:FnX K "ready" "Plain.ready" zK z48)
 (z326:FnX K "make_ready" "Plain.make_ready" u8 z49)
 (z327:FnX K "set_down" "Plain.set_down" uN z50)
 (z328:FnX K "lay" "Plain.lay" q0Q z51)
 (z329:FnX K "write" "Plain.write" zL z52)
 (z330:FnX K "read" "Plain.read" q09 z53)
 (z331:FnX K "held" "Plain.held" q0A z54)
 (z332:FnX K "check_sheet" "Plain.check_sheet" yU z55)
 (z333:FnX K "check_share" "Plain.check_share" yV z56)
 (z334:K.lookup z57=some ⟨z110,z107,.func (W.fnOf "__init__" "Terms.__init__" (yH yR) (jY yR) (qG yR) (.ref z82) z111 z112 z113 z108 z114 z115),z109⟩)
 (z335:W.codeIn K z114 "Terms.__init__"=true)
 (z336:K.lookup z82=some ⟨.type "tuple",z116,.seq #[.int 0 e0_Terms_init,.int 1000000 e1_Terms_init] z117,z118⟩)
 (z337:FnX K "closed" "Terms.closed" vQ z58)
 (z338:FnX K "_law_cell_at" "_law_cell_at" zM z59)
 (z339:FnX K "_law_whole" "_law_whole" q0R z60)
 (z340:FnX K "_law_names" "_law_names" q0S z61)
 (z341:FnX K "_law_table" "_law_table" q0T z62)
 (z342:FnX K "_law_kinds" "_law_kinds" q0U z63)
 (z343:FnX K "_law_shift" "_law_shift" q0V z64)
 (z344:FnX K "_law_write" "_law_write" q0W z65)
 (z345:FnX K "_law_due" "_law_due" q3B z66)
 (z346:FnX K "_law_moved" "_law_moved" q0X z67)
 (z347:FnX K "_law_step" "_law_step" q24 z68)
 (z348:FnX K "_law_same" "_law_same" q25 z69)
 (z349:W.nsIn K mainGlobals "law"=some (some (.ref z70)))
 (z350:FnX K "law" "law" qCX z70):
 ∃fd:FuncData,(∀(s:Shared) (v:Value),BindsTo s fd ⟨[v],[]⟩ [("_law_script",v)])∧∀base:Heap,K.In base→base.Ns mainGlobals mg→BmIn base mg→FnOk l.prog w K mg base (CX0) 16 fa fd ["_law_script"] (q36 K [z1]):=by(
have e:=hfa.symm.trans (mS X G z349)
cases e
let t:Adr:=⟨z2,z3,z4,z5,z6,z7,z8,z9,z10,z11,z12,z13,z14,z15,z16,z17,z18,z19,z20,z21,z22,z23,z24,z25,z26,z27,z28,z29,z30,z31,z32,z33,z34,z35,z36,z37,z38,z39,z40,z41,z42,z43,z44,z45,z46,z47,z48,z49,z50,z51,z52,z53,z54,z55,z56,z57,z58,z59,z60,z61,z62,z63,z64,z65,z66,z67,z68,z69,fa,z71,z72,z73,z74,z75,z76,z77,z78,z79,z80,bV,t9,oH,z0,z1⟩
have T:Txt K mg t:=⟨mS X G z119,z120,z121,z122,z123,z124,z125,z126,z127,z128,z129,z130,z131,z132,z133,z134,mS X G z135,z136,z137,z138,z139,z140,z141,z142,z143,z144,z145,z146,z147,z148,z149,z150,z151,z152,z153,z154,z155,z156,z157,z158,z159,z160,z161,mS X G z162,z163,z164,z165,z166,z167,z168,z169,z170,z171,z172,z173,z174,z175,mS X G z176,z177,z178,z179,z180,z181,z182,z183,z184,z185,z186,z187,z188,z189,z190,z191,z192,z193,z194,z195,mS X G z196,z197,z198,z199,z200,z201,z202,z203,z204,z205,mS X G z206,mS X G z207,mS X G z208,z209,z210,mS X G z211,z212,z213,mS X G z214,z215,z216,z217,z218,z219,z220,z221,z222,z223,z224,z225,z226,z227,z228,z229,z230,z231,z232,z233,z234,z235,z236,mS X G z237.1,z237.2,mS X G z238.1,z238.2,mS X G z239.1,z239.2,mS X G z240.1,z240.2,mS X G z241.1,z241.2,mS X G z242.1,z242.2,mS X G z243.1,z243.2,mS X G z244.1,z244.2,mS X G z245.1,z245.2,mS X G z246.1,z246.2,mS X G z247.1,z247.2,mS X G z248.1,z248.2,mS X G z249.1,z249.2,mS X G z250.1,z250.2,mS X G z251.1,z251.2,mS X G z252.1,z252.2,mS X G z253.1,z253.2,mS X G z254.1,z254.2,mS X G z255.1,z255.2,mS X G z256.1,z256.2,mS X G z257.1,z257.2,mS X G z258,mS X G z259,mS X G z260,gF X G z261,gF X G z262,gF X G z263,gF X G z264,gF X G z265,gF X G z266,gF X G z267,gF X G z268,gF X G z269,gF X G z270,gF X G z271,gF X G z272,gF X G z273,gF X G z274,gF X G z275⟩
let S:Fns K t:=⟨fn1 z276,fn1 z277,fn1 z278,fn1 z279,fn1 z280,fn1 z281,fn1 z282,fn1 z283,fn1 z284,fn1 z285,fn1 z286,fn1 z287,fn1 z288,fn1 z289,fn1 z290,fn1 z291,fn1 z292,fn1 z293,fn1 z294,_,(.ref z81),FunD.mk' (st:=uB) z295 z296,λs us kin hl=>by rw[lnx (us:=us) (n:=5) (by simpa using hl)];exact dC rfl (kin _ _ z297) rfl rfl rfl,[.none],λs us kin hl=>by rw[lnx (us:=us) (n:=4) (by simpa using hl)];exact dC rfl (kin _ _ z297) rfl rfl rfl,(.cons rfl .nil),[.int 1000000 e0_Chip_init,.none],λs us kin hl=>by rw[lnx (us:=us) (n:=3) (by simpa using hl)];exact dC rfl (kin _ _ z297) rfl rfl rfl,(.cons ⟨_,rfl⟩ (.cons rfl .nil)),fn1 z298,fn1 z299,fn1 z300,fn1 z301,fn1 z302,fn1 z303,fn1 z304,fn1 z305,fn1 z306,fn1 z307,fn1 z308,fn1 z309,fn1 z310,fn1 z311,fn1 z312,fn1 z313,fn1 z314,fn1 z315,fn1 z316,fn1 z317,fn1 z318,fn1 z319,_,FunT.mk' (st:=jU) z320 z321,yC.all λus hl=>by rw[lnx hl];rfl,fn1 z322,fn1 z323,fn1 z324,fn1 z325,fn1 z326,fn1 z327,fn1 z328,fn1 z329,fn1 z330,fn1 z331,fn1 z332,fn1 z333,_,(.ref z82),FunD.mk' (st:=yR) z334 z335,λs us kin hl=>by rw[lnx (us:=us) (n:=7) (by simpa using hl)];exact dC rfl (kin _ _ z336) rfl rfl rfl,[.int 1000000 e1_Terms_init],λs us kin hl=>by rw[lnx (us:=us) (n:=6) (by simpa using hl)];exact dC rfl (kin _ _ z336) rfl rfl rfl,(.cons ⟨_,rfl⟩ .nil),[.int 0 e0_Terms_init,.int 1000000 e1_Terms_init],λs us kin hl=>by rw[lnx (us:=us) (n:=5) (by simpa using hl)];exact dC rfl (kin _ _ z336) rfl rfl rfl,(.cons ⟨_,rfl⟩ (.cons ⟨_,rfl⟩ .nil)),fn1 z337,fn1 z338,fn1 z339,fn1 z340,fn1 z341,fn1 z342,fn1 z343,fn1 z344,fn1 z345,fn1 z346,fn1 z347,fn1 z348,fn1 z350⟩
exact⟨_,FnX.bind1 (by intros;rfl) S.law.F,λbase _ _ bm=>qGU T S bm⟩)
theorem walk{l:W.OpenLaw}{q:Program}{loose:List Str}{XP:(Str→Option Value)→Heap→Prop}{YP:World→Heap→Prop}{d:DefRec}{K:Params→W.Frag}(hn:l.most=some 63)(hdf:d.params.defaults=[])
 (hY:∀(w:World) (h:Heap),YP w h→(K w.params).In h∧∀T∈([563]:List Addr),h.get? T=some (W.tabObj #[])) (hT:∀w:World,∀T∈([563]:List Addr),(K w.params).lookup T=none∧∃c,W.codeHdIn (K w.params) c T=true)
 (F:∀(w:World) (mg:Str→Option Value) (fa:Addr) (h:Heap),(K w.params).In h→h.Ns mainGlobals mg→mg d.name=some (.ref fa)→∃fd:FuncData,(∀(s:Shared) (u:Value),BindsTo s fd ⟨[u],[]⟩ [("_law_script",u)])∧∀base:Heap,(K w.params).In base→base.Ns mainGlobals mg→BmIn base mg→FnOk l.prog w (K w.params) mg base (CX0) 16 fa fd ["_law_script"] (q36 (K w.params) [563])):
 W.WalkO q loose XP YP l.row.toRowW d [] (λf vs=>PySem.call f vs):=L2.qCC (n:=63) (k:=16) (x:="_law_script") (CX:=λ_=>CX0) (sp:=λw=>q36 (K w.params) [563]) [563] hn (by decide) hdf ⟨rfl,by decide,by decide⟩ hY hT F (λ_ _ a ns hl hS hT=>⟨a,ns,rfl,hS,hl,hT,λ_=>rfl⟩) (λ_ _ _ _ _ z=>z)
end W1
namespace PySem.W.Fast
theorem tw2325984481402721674:True:=⟨⟩
theorem tw2408201881988134433:True:=⟨⟩
theorem tw3613034687946404513:True:=⟨⟩
theorem tw16969330326774456257:True:=⟨⟩
theorem tw4147262665590070082:True:=⟨⟩
theorem tw1904639919801174882:True:=⟨⟩
theorem tw564863076339789763:True:=⟨⟩
theorem tw17420201047772733700:True:=⟨⟩
theorem tw9343054556802838116:True:=⟨⟩
theorem tw14821379945949113445:True:=⟨⟩
theorem tw2869264699466885733:True:=⟨⟩
theorem tw4778214480714502951:True:=⟨⟩
theorem tw8784430382944085863:True:=⟨⟩
theorem tw11402727677468709032:True:=⟨⟩
theorem tw17984192051115740840:True:=⟨⟩
theorem tw8768347662726685705:True:=⟨⟩
theorem tw14381641099403231273:True:=⟨⟩
theorem tw18192251315441629323:True:=⟨⟩
theorem tw5295955228715888427:True:=⟨⟩
theorem tw632643958165847084:True:=⟨⟩
theorem tw3053448063545997196:True:=⟨⟩
theorem tw8935336763650514892:True:=⟨⟩
theorem tw2530568997253686125:True:=⟨⟩
theorem tw6155901017957344334:True:=⟨⟩
theorem tw13580613760231527918:True:=⟨⟩
theorem tw15848178276555463920:True:=⟨⟩
theorem tw10374036798536809745:True:=⟨⟩
theorem tw13345032078193915986:True:=⟨⟩
theorem tw15702858871734173874:True:=⟨⟩
theorem tw7903090396257008819:True:=⟨⟩
theorem tw14857958148162065715:True:=⟨⟩
theorem tw5974460909070495861:True:=⟨⟩
theorem tw8378106137485406133:True:=⟨⟩
theorem tw15918492747219295510:True:=⟨⟩
theorem tw1090652705491713366:True:=⟨⟩
theorem tw5544348408694203894:True:=⟨⟩
theorem tw16466580010223526263:True:=⟨⟩
theorem tw18351547021261843863:True:=⟨⟩
theorem tw17535446136712200759:True:=⟨⟩
theorem tw17479888248150221719:True:=⟨⟩
theorem tw16897731807949204313:True:=⟨⟩
theorem tw6295894889625187291:True:=⟨⟩
theorem tw1728867975656314044:True:=⟨⟩
theorem tw17668927577280263484:True:=⟨⟩
theorem tw3460875992468834620:True:=⟨⟩
theorem tw18153550060052072284:True:=⟨⟩
theorem tw16903652323539448093:True:=⟨⟩
theorem tw12547372194959381310:True:=⟨⟩
theorem tw15508420595418877055:True:=⟨⟩
theorem tw12140798970563053727:True:=⟨⟩
theorem tw8359400198622610239:True:=⟨⟩
theorem tw5320474582608844799:True:=⟨⟩
theorem tw16019741991939473601:True:=⟨⟩
theorem tw12457662008941684256:True:=⟨⟩
theorem tw3016946873891019052:True:=⟨⟩
theorem tw2838127045136543435:True:=⟨⟩
theorem tw17407841860844466893:True:=⟨⟩
theorem tw13016492685884250649:True:=⟨⟩
theorem tw7158350279896150:True:=⟨⟩
theorem tw2811819951321490196:True:=⟨⟩
theorem tw3963960285892421142:True:=⟨⟩
theorem tw12244226298355112779:True:=⟨⟩
theorem tw4711931890916836662:True:=⟨⟩
theorem tw8565700756634380511:True:=⟨⟩
theorem tw3616765892804635632:True:=⟨⟩
theorem tw15513715130003070968:True:=⟨⟩
theorem tw3105996871407990526:True:=⟨⟩
theorem tw10110657192323591101:True:=⟨⟩
theorem tw2854377523614510884:True:=⟨⟩
theorem tw12915018701347823769:True:=⟨⟩
theorem tw8994947396405522613:True:=⟨⟩
theorem tw8985166307571774080:True:=⟨⟩
theorem tw704334800287019997:True:=⟨⟩
theorem tw16318570269445361166:True:=⟨⟩
theorem tw5240518487193201624:True:=⟨⟩
theorem tw4556500927537926001:True:=⟨⟩
theorem tw6419187326236593461:True:=⟨⟩
theorem tw6141496294631049603:True:=⟨⟩
theorem tw10444832976438678891:True:=⟨⟩
theorem tw4789284425969903700:True:=⟨⟩
theorem tw14504220197217448899:True:=⟨⟩
theorem tw1728977333696598322:True:=⟨⟩
theorem tw10544915333183860234:True:=⟨⟩
theorem tw4355842400431242301:True:=⟨⟩
theorem tw10048171864514359060:True:=⟨⟩
theorem tw2262821995130598730:True:=⟨⟩
theorem tw7184392303106899113:True:=⟨⟩
theorem tw10405317593265353869:True:=⟨⟩
theorem tw3978593940693644317:True:=⟨⟩
theorem tw2310049866227410579:True:=⟨⟩
theorem tw993692086954118402:True:=⟨⟩
theorem tw11068231893143814326:True:=⟨⟩
theorem tw2908471681189094024:True:=⟨⟩
theorem tw16270989383880715158:True:=⟨⟩
theorem tw12865676188797059213:True:=⟨⟩
theorem tw8126597874273994133:True:=⟨⟩
theorem tw18390605064558370648:True:=⟨⟩
theorem tw271986546590209363:True:=⟨⟩
theorem tw1402642398068334877:True:=⟨⟩
theorem tw4418241641607471570:True:=⟨⟩
theorem tw13918412037192423691:True:=⟨⟩
theorem tw10192669595778909715:True:=⟨⟩
theorem tw9014988576515777540:True:=⟨⟩
theorem tw392787156767613010:True:=⟨⟩
theorem tw9840609367854761057:True:=⟨⟩
theorem tw2517627969519722513:True:=⟨⟩
theorem tw14252709615785050323:True:=⟨⟩
theorem tw5661893797079844571:True:=⟨⟩
theorem tw10781600905599830646:True:=⟨⟩
theorem tw8522732812246474355:True:=⟨⟩
theorem tw5613936903283824624:True:=⟨⟩
theorem tw6468932182103458077:True:=⟨⟩
theorem tw9572711490027180993:True:=⟨⟩
theorem tw8202270028680158487:True:=⟨⟩
theorem tw15583487919399636709:True:=⟨⟩
theorem tw11459062969398652676:True:=⟨⟩
theorem tw14556002323662452277:True:=⟨⟩
theorem tw2097813639492003694:True:=⟨⟩
theorem tw7828213541322015606:True:=⟨⟩
theorem tw16501993258246712951:True:=⟨⟩
theorem tw5805085548098958326:True:=⟨⟩
theorem tw1818787713253278539:True:=⟨⟩
theorem tw15394646073305240442:True:=⟨⟩
theorem tw5144334741562825716:True:=⟨⟩
theorem tw15086260434356854513:True:=⟨⟩
theorem tw9983016268193023735:True:=⟨⟩
theorem tw12620711139488123138:True:=⟨⟩
theorem tw12752689449141359817:True:=⟨⟩
theorem tw17599066088098508579:True:=⟨⟩
theorem tw3305672614164186825:True:=⟨⟩
theorem tw6277388341703268552:True:=⟨⟩
theorem tw9484551404887954702:True:=⟨⟩
theorem tw14531778886829613806:True:=⟨⟩
theorem tw7160663586273663850:True:=⟨⟩
theorem tw4929208210995350898:True:=⟨⟩
theorem tw9588996320217513744:True:=⟨⟩
theorem tw14266887929281065873:True:=⟨⟩
theorem tw3415074207449797825:True:=⟨⟩
theorem tw655278614484900939:True:=⟨⟩
theorem tw10314317975459709038:True:=⟨⟩
theorem tw7279143767493277793:True:=⟨⟩
theorem tw12810872282082376860:True:=⟨⟩
theorem tw9804473845078341970:True:=⟨⟩
theorem tw13564034452562949242:True:=⟨⟩
theorem tw1376810191653283340:True:=⟨⟩
theorem tw16602575927798646882:True:=⟨⟩
theorem tw3801906345236763892:True:=⟨⟩
theorem tw670641606847044712:True:=⟨⟩
theorem tw10801843370421273208:True:=⟨⟩
theorem tw4795052355431664020:True:=⟨⟩
theorem tw9666203607869746903:True:=⟨⟩
theorem tw14082767296453717355:True:=⟨⟩
theorem tw722706148018158406:True:=⟨⟩
theorem tw10703771696918819740:True:=⟨⟩
theorem tw4142191047216534191:True:=⟨⟩
theorem tw16208323158720487816:True:=⟨⟩
theorem tw14464383659367512768:True:=⟨⟩
theorem tw3862350859466115305:True:=⟨⟩
theorem tw9774198240712978229:True:=⟨⟩
theorem tw11820681912780279947:True:=⟨⟩
theorem tw17944483209723901573:True:=⟨⟩
theorem tw8792786390733574029:True:=⟨⟩
theorem tw17700470702140218708:True:=⟨⟩
theorem tw13378211184856995007:True:=⟨⟩
theorem tw183735559241683953:True:=⟨⟩
theorem tw10969730420358865789:True:=⟨⟩
theorem tw1235708928509923789:True:=⟨⟩
theorem tw10962357662053074827:True:=⟨⟩
theorem tw3354095295798891478:True:=⟨⟩
theorem tw4613429501788499154:True:=⟨⟩
theorem tw13652104011243090906:True:=⟨⟩
theorem tw11865170490591641229:True:=⟨⟩
theorem tw15966188160396085916:True:=⟨⟩
theorem tw14491264629599075657:True:=⟨⟩
theorem tw11577811661016292799:True:=⟨⟩
theorem tw16808870904339358010:True:=⟨⟩
theorem tw12709222245331069872:True:=⟨⟩
theorem tw1371786251224545282:True:=⟨⟩
theorem tw15138203035343472228:True:=⟨⟩
theorem tw16925741224572574787:True:=⟨⟩
theorem tw7192302830244803494:True:=⟨⟩
theorem tw17623995115799985586:True:=⟨⟩
theorem tw1776017033284739497:True:=⟨⟩
theorem tw5119187825223243483:True:=⟨⟩
theorem tw1759890691430631799:True:=⟨⟩
theorem tw99365540311398196:True:=⟨⟩
theorem tw13489656622724066687:True:=⟨⟩
theorem tw416046211521267134:True:=⟨⟩
theorem tw15647847931050942312:True:=⟨⟩
theorem tw11991043078008762745:True:=⟨⟩
theorem tw15341363212009537771:True:=⟨⟩
theorem tw2317399005907192992:True:=⟨⟩
theorem tw8553588079770728194:True:=⟨⟩
theorem tw11969155418045364253:True:=⟨⟩
theorem tw8239563738573055470:True:=⟨⟩
theorem tw3614992704056044802:True:=⟨⟩
theorem tw14275368992176803978:True:=⟨⟩
theorem tw6790976680516839404:True:=⟨⟩
theorem tw5439413156325863739:True:=⟨⟩
theorem tw14194358861851316749:True:=⟨⟩
theorem tw4212278857302655167:True:=⟨⟩
theorem tw18087809684837306126:True:=⟨⟩
theorem tw8151810521109499535:True:=⟨⟩
theorem tw6206033892369362859:True:=⟨⟩
theorem tw4644028675689685027:True:=⟨⟩
theorem tw17505685067429727490:True:=⟨⟩
theorem tw10082610189609468717:True:=⟨⟩
theorem tw8849649630006090942:True:=⟨⟩
theorem tw3202908373725825222:True:=⟨⟩
theorem tw2467619636069638326:True:=⟨⟩
theorem tw17765389732240036782:True:=⟨⟩
theorem tw13343181420359855176:True:=⟨⟩
theorem tw7477667873515678140:True:=⟨⟩
theorem tw13842559276224647497:True:=⟨⟩
theorem tw6577447289120519366:True:=⟨⟩
theorem tw17558802131245672981:True:=⟨⟩
theorem tw12263819720795110907:True:=⟨⟩
theorem tw10297354540653627842:True:=⟨⟩
theorem tw18321688435671820121:True:=⟨⟩
theorem tw4191893194919071507:True:=⟨⟩
theorem tw13210489302103680126:True:=⟨⟩
theorem tw8316390410546029110:True:=⟨⟩
theorem tw6291095676753130231:True:=⟨⟩
theorem tw9931595722127991131:True:=⟨⟩
theorem tw2832571199143268842:True:=⟨⟩
theorem tw15105996340049396131:True:=⟨⟩
theorem tw14623662332478186871:True:=⟨⟩
theorem tw7667874806825880843:True:=⟨⟩
theorem tw3820188604769573279:True:=⟨⟩
theorem tw6534316226760453799:True:=⟨⟩
theorem tw13416112607924551094:True:=⟨⟩
theorem tw9484917276386886726:True:=⟨⟩
theorem tw17079384323383693770:True:=⟨⟩
theorem tw10866771401516394130:True:=⟨⟩
theorem tw6052330868793498815:True:=⟨⟩
theorem tw6718186322145603464:True:=⟨⟩
theorem tw18423259523135854844:True:=⟨⟩
theorem tw14098596284777867071:True:=⟨⟩
theorem tw2629883710224950889:True:=⟨⟩
theorem tw7561269979026289163:True:=⟨⟩
theorem tw16416242607644900401:True:=⟨⟩
theorem tw5388938108478282127:True:=⟨⟩
theorem tw15638201356015205221:True:=⟨⟩
theorem tw14479655394454819458:True:=⟨⟩
theorem tw10203661175621800040:True:=⟨⟩
theorem tw5517472146521281413:True:=⟨⟩
theorem tw17814061161051586284:True:=⟨⟩
theorem tw9498211173990874211:True:=⟨⟩
theorem tw7446872565901552683:True:=⟨⟩
theorem tw12601596001336551761:True:=⟨⟩
theorem tw14442530694079289821:True:=⟨⟩
theorem tw9813308547603304954:True:=⟨⟩
theorem tw735300567284961071:True:=⟨⟩
theorem tw16457985641993349233:True:=⟨⟩
theorem tw7517287338721186514:True:=⟨⟩
theorem tw4262440042597130804:True:=⟨⟩
theorem tw2082568576614526370:True:=⟨⟩
theorem tw13876652187586795728:True:=⟨⟩
theorem tw12103693411377495191:True:=⟨⟩
theorem tw11911286462759452007:True:=⟨⟩
theorem tw15267812219301026303:True:=⟨⟩
theorem tw16690577277960130490:True:=⟨⟩
theorem tw11773291008763659835:True:=⟨⟩
theorem tw10802748820339452444:True:=⟨⟩
theorem tw6883473569580016100:True:=⟨⟩
theorem tw11499714942810230547:True:=⟨⟩
theorem tw15799612606773559612:True:=⟨⟩
theorem tw8093153399074109492:True:=⟨⟩
theorem tw4297808870051177254:True:=⟨⟩
theorem tw17262151458848250996:True:=⟨⟩
theorem tw15029311322632705075:True:=⟨⟩
theorem tw12453449643246378339:True:=⟨⟩
theorem tw8390666693734956739:True:=⟨⟩
theorem tw16814778032191826663:True:=⟨⟩
theorem tw13924719568191009230:True:=⟨⟩
theorem tw11423325085432840241:True:=⟨⟩
theorem tw15006189427887140900:True:=⟨⟩
theorem tw8459765291668347179:True:=⟨⟩
theorem tw13408863419182818893:True:=⟨⟩
theorem tw10931401919747784658:True:=⟨⟩
theorem tw7369560673417192076:True:=⟨⟩
theorem tw6656169566861601525:True:=⟨⟩
theorem tw1578605631288352355:True:=⟨⟩
theorem tw3813738420355204950:True:=⟨⟩
theorem tw5086110971331620238:True:=⟨⟩
theorem tw1636543564031404440:True:=⟨⟩
theorem tw10693638115161490744:True:=⟨⟩
theorem tw5044614534832104705:True:=⟨⟩
theorem tw15691109860703544088:True:=⟨⟩
theorem tw10519304415779546248:True:=⟨⟩
theorem tw6730788939964308261:True:=⟨⟩
theorem tw10910384943777201063:True:=⟨⟩
theorem tw7798333413213295171:True:=⟨⟩
theorem tw18391039211993370435:True:=⟨⟩
theorem tw17461471178343929319:True:=⟨⟩
theorem tw369955009495204028:True:=⟨⟩
theorem tw8073867352157361149:True:=⟨⟩
theorem tw15181721693173643364:True:=⟨⟩
theorem tw7257040917794509314:True:=⟨⟩
theorem tw2378589643375674315:True:=⟨⟩
theorem tw17714621772521223878:True:=⟨⟩
theorem tw13464205953865370541:True:=⟨⟩
theorem tw15893072360600358553:True:=⟨⟩
theorem tw5006899012204280152:True:=⟨⟩
theorem tw3280772317358346157:True:=⟨⟩
theorem tw2162156514372079501:True:=⟨⟩
theorem tw17379718800794888538:True:=⟨⟩
theorem tw16449319916506398099:True:=⟨⟩
theorem tw13521718991068044:True:=⟨⟩
theorem tw12158976907801241811:True:=⟨⟩
theorem tw8045986581888627715:True:=⟨⟩
theorem tw8838111926636056287:True:=⟨⟩
theorem tw16682366252456518633:True:=⟨⟩
theorem tw15565915651004621772:True:=⟨⟩
theorem tw11839700028247732387:True:=⟨⟩
theorem tw6815078338944147395:True:=⟨⟩
theorem tw5247049578323008236:True:=⟨⟩
theorem tw9485613735489567770:True:=⟨⟩
theorem tw8877343986905063625:True:=⟨⟩
theorem tw17165479786139490465:True:=⟨⟩
theorem tw5358461440807073054:True:=⟨⟩
theorem tw10938134152998249073:True:=⟨⟩
theorem tw8990450651017665361:True:=⟨⟩
theorem tw6517611525573659362:True:=⟨⟩
theorem tw12735180551705406633:True:=⟨⟩
theorem tw8884419697029296934:True:=⟨⟩
theorem tw15178849848217755956:True:=⟨⟩
theorem tw12343083901167809963:True:=⟨⟩
theorem tw2120260696271325300:True:=⟨⟩
theorem tw18446442323816674142:True:=⟨⟩
theorem tw6838642772002882185:True:=⟨⟩
theorem tw3650304707841108161:True:=⟨⟩
theorem tw3518784876558157362:True:=⟨⟩
theorem tw5284712719480933990:True:=⟨⟩
theorem tw3973671195433000121:True:=⟨⟩
theorem tw18049088969127374556:True:=⟨⟩
theorem tw17048523677945615661:True:=⟨⟩
theorem tw9445713380946441759:True:=⟨⟩
theorem tw4203972907907793655:True:=⟨⟩
theorem tw16742075143591054872:True:=⟨⟩
theorem tw6202138497997276948:True:=⟨⟩
theorem tw18077462362565433957:True:=⟨⟩
theorem tw5488879121400011652:True:=⟨⟩
theorem tw5019521997556369907:True:=⟨⟩
theorem tw1083989625559298000:True:=⟨⟩
theorem tw3840013595023240275:True:=⟨⟩
theorem tw13270049257927499360:True:=⟨⟩
theorem tw13687011193345404818:True:=⟨⟩
theorem tw10995158968784552580:True:=⟨⟩
theorem tw9150777037603515680:True:=⟨⟩
theorem tw5962560001857500249:True:=⟨⟩
theorem tw9263066162613173984:True:=⟨⟩
theorem tw2938157287024596170:True:=⟨⟩
theorem tw17581895475664194511:True:=⟨⟩
theorem tw604494557293554433:True:=⟨⟩
theorem tw16967315183209104043:True:=⟨⟩
theorem tw14369464876460795410:True:=⟨⟩
theorem tw5557399401300643503:True:=⟨⟩
theorem tw13842958695531083941:True:=⟨⟩
theorem tw11337112914577118598:True:=⟨⟩
theorem tw9940773169355631069:True:=⟨⟩
theorem tw7994874616881619926:True:=⟨⟩
theorem tw7209106542330792090:True:=⟨⟩
theorem tw7161125321387127342:True:=⟨⟩
theorem tw6718537771210596574:True:=⟨⟩
theorem tw3434948002434531567:True:=⟨⟩
theorem tw2602000910296521750:True:=⟨⟩
theorem tw13577031646112451988:True:=⟨⟩
theorem tw9076011898691708228:True:=⟨⟩
theorem tw6932114930501045005:True:=⟨⟩
theorem tw6180408771118074846:True:=⟨⟩
theorem tw6120614382495827646:True:=⟨⟩
theorem tw5282857706482656699:True:=⟨⟩
theorem tw4403647240337359243:True:=⟨⟩
theorem tw198634912048883056:True:=⟨⟩
theorem tw18153526396303860972:True:=⟨⟩
theorem tw17652432014931523095:True:=⟨⟩
theorem tw16104748161206870920:True:=⟨⟩
theorem tw16036536121471132459:True:=⟨⟩
theorem tw14175954112915541373:True:=⟨⟩
theorem tw13463551532548736897:True:=⟨⟩
theorem tw12253248350333273974:True:=⟨⟩
theorem tw11996939159132385127:True:=⟨⟩
theorem tw11257208085642165609:True:=⟨⟩
theorem tw10514672388270418277:True:=⟨⟩
theorem tw10269041028699665161:True:=⟨⟩
theorem tw3121969408109995029:True:=⟨⟩
theorem tw9719357613594822809:True:=⟨⟩
theorem tw5121235610783546515:True:=⟨⟩
theorem tw860965139691741855:True:=⟨⟩
theorem tw3221874066143212889:True:=⟨⟩
theorem tw15343349217803963278:True:=⟨⟩
theorem tw1250398983302074044:True:=⟨⟩
theorem tw10719355246019407641:True:=⟨⟩
theorem tw7858072503273866372:True:=⟨⟩
theorem tw18037358299376873164:True:=⟨⟩
theorem tw1786746777724298657:True:=⟨⟩
theorem tw15151985927557473660:True:=⟨⟩
theorem tw15136459869211753985:True:=⟨⟩
theorem tw12949350506859251968:True:=⟨⟩
theorem tw6512691075063475642:True:=⟨⟩
theorem tw3484124859999229512:True:=⟨⟩
theorem tw8593644752154665093:True:=⟨⟩
theorem tw5208745222868925342:True:=⟨⟩
theorem tw8323158453454950755:True:=⟨⟩
theorem tw17949713092218589768:True:=⟨⟩
theorem tw79859764928284668:True:=⟨⟩
theorem tw7421956773800272893:True:=⟨⟩
theorem tw7129650695071785321:True:=⟨⟩
theorem tw6578942604514159366:True:=⟨⟩
theorem tw4699956943032545262:True:=⟨⟩
theorem tw3511237783270622845:True:=⟨⟩
theorem tw14828943968545855678:True:=⟨⟩
theorem tw14407702469049841471:True:=⟨⟩
theorem tw13397268439347620746:True:=⟨⟩
theorem tw13290775234251902689:True:=⟨⟩
theorem tw12761064895321709113:True:=⟨⟩
theorem tw11131038367022053948:True:=⟨⟩
theorem tw11177479690742205632:True:=⟨⟩
theorem tw8387986147021344294:True:=⟨⟩
theorem tw7072448471749409238:True:=⟨⟩
theorem tw6864050237666849120:True:=⟨⟩
theorem tw5407769188595603468:True:=⟨⟩
theorem tw4544310652109999147:True:=⟨⟩
theorem tw18233390204334423689:True:=⟨⟩
theorem tw17370568722286364267:True:=⟨⟩
theorem tw17009380689024422656:True:=⟨⟩
theorem tw14509684148534609806:True:=⟨⟩
theorem tw13728647201677958728:True:=⟨⟩
theorem tw12843339162299258716:True:=⟨⟩
theorem tw1170508668221575303:True:=⟨⟩
theorem tw11397711956479181411:True:=⟨⟩
theorem tw10477223517929834858:True:=⟨⟩
theorem tw10472895847728452291:True:=⟨⟩
theorem tw9115305366529990317:True:=⟨⟩
theorem tw10611825086661275430:True:=⟨⟩
theorem tw8505728471820752657:True:=⟨⟩
theorem tw4414568474464398884:True:=⟨⟩
theorem tw17548247035197292191:True:=⟨⟩
theorem tw10862080392556232149:True:=⟨⟩
theorem tw17842536519341661525:True:=⟨⟩
theorem tw2301110515548253537:True:=⟨⟩
theorem tw3590533640989960549:True:=⟨⟩
theorem tw6896951697649420228:True:=⟨⟩
theorem tw9046354548345612624:True:=⟨⟩
theorem tw2179707560011410795:True:=⟨⟩
theorem tw13857315050014348045:True:=⟨⟩
theorem tw13200776663414807924:True:=⟨⟩
theorem tw11721367599270993087:True:=⟨⟩
theorem tw9051653397691167860:True:=⟨⟩
theorem tw17546893484938811084:True:=⟨⟩
theorem tw14049073963462375970:True:=⟨⟩
theorem tw9387080004944542731:True:=⟨⟩
theorem tw8035247335043387363:True:=⟨⟩
theorem tw6216000716323114856:True:=⟨⟩
theorem tw2789910761696921582:True:=⟨⟩
theorem tw1070270298824725590:True:=⟨⟩
theorem tw10176421755640610390:True:=⟨⟩
theorem tw8756904689764756587:True:=⟨⟩
theorem tw799312367948091215:True:=⟨⟩
theorem tw7570893091651649284:True:=⟨⟩
theorem tw5197765034179794571:True:=⟨⟩
theorem tw1636495244354023952:True:=⟨⟩
theorem tw11040539176193654065:True:=⟨⟩
theorem tw4522360344727844285:True:=⟨⟩
theorem tw3593976821073162235:True:=⟨⟩
theorem tw16020740788637587653:True:=⟨⟩
theorem tw12333216825423082486:True:=⟨⟩
theorem tw7022930501983894983:True:=⟨⟩
theorem tw1962076455266743991:True:=⟨⟩
theorem tw11472263566487361650:True:=⟨⟩
theorem tw4876407025027722147:True:=⟨⟩
theorem tw13840918677150603227:True:=⟨⟩
theorem tw13173303240455935101:True:=⟨⟩
theorem tw12561484230757837356:True:=⟨⟩
theorem tw3226164380853716124:True:=⟨⟩
theorem tw1738432927521853269:True:=⟨⟩
theorem tw1741484268870235670:True:=⟨⟩
theorem tw14506173340797256368:True:=⟨⟩
theorem tw890599668039924374:True:=⟨⟩
theorem tw8543841358921075298:True:=⟨⟩
theorem tw6673231327646311404:True:=⟨⟩
theorem tw5187531685934567048:True:=⟨⟩
theorem tw3995118961072316506:True:=⟨⟩
theorem tw2458641937946115832:True:=⟨⟩
theorem tw18244673297576512055:True:=⟨⟩
theorem tw16475712669639013072:True:=⟨⟩
theorem tw1424967721567774754:True:=⟨⟩
theorem tw1361348872980521370:True:=⟨⟩
theorem tw11341513216108789022:True:=⟨⟩
theorem tw10910355375172862494:True:=⟨⟩
theorem tw10608785280986238592:True:=⟨⟩
theorem tw5595171304365425151:True:=⟨⟩
theorem tw5472345640285020672:True:=⟨⟩
theorem tw17265620149740571766:True:=⟨⟩
theorem tw14077088027416725011:True:=⟨⟩
theorem tw5530657355593417770:True:=⟨⟩
theorem tw15824302878457656754:True:=⟨⟩
theorem tw8116902479842935437:True:=⟨⟩
theorem tw791068856310355676:True:=⟨⟩
theorem tw6689242310225663697:True:=⟨⟩
theorem tw6611321301196637624:True:=⟨⟩
theorem tw6316863316563771177:True:=⟨⟩
theorem tw5130221493997813862:True:=⟨⟩
theorem tw4296478277321865451:True:=⟨⟩
theorem tw17907289063240973799:True:=⟨⟩
theorem tw16671435628573671622:True:=⟨⟩
theorem tw1458853122788491251:True:=⟨⟩
theorem tw12133456041710154285:True:=⟨⟩
theorem tw12063874402187222499:True:=⟨⟩
theorem tw12005523667921352633:True:=⟨⟩
theorem tw11911933796903678359:True:=⟨⟩
theorem tw9435580343083013101:True:=⟨⟩
theorem tw7388418314692690409:True:=⟨⟩
theorem tw6970938214868847802:True:=⟨⟩
theorem tw3542540538524617917:True:=⟨⟩
theorem tw3511886904716488887:True:=⟨⟩
theorem tw3444074287440797634:True:=⟨⟩
theorem tw2774247764791546926:True:=⟨⟩
theorem tw16852923073528617450:True:=⟨⟩
theorem tw12824000321435942886:True:=⟨⟩
theorem tw8873475961472067281:True:=⟨⟩
end PySem.W.Fast
open PySem PySem.W PyProof.Rows
set_option maxRecDepth 100000 in
theorem PySem.Challenge.cw_wornpages_k84_shares_shifted_holds : PySem.Challenge.rw_wornpages_k84_shares_shifted.Holds := by
 (
w_on;o_law;k_head;(case hw=>w_witness2)
k_fill
refine W1.walk (l:=PySem.Challenge.rw_wornpages_k84_shares_shifted) rfl rfl (λw h Y=>⟨W.km_in_of Y,W.km_tabs_of Y⟩) (?T) ?F
case T=>
 intro w T hT;have hT:T=563:=by simpa using hT
 subst hT;exact⟨by kernel_rfl,565,by kernel_rfl⟩
case F=>
 intro w mg fa h KX G hmg;refine' W1.qGV (z1:=563) (z0:=565) KX G hmg ?_ ?_ ?_ ?_ ?_ ?_ ?_ ?_ ?_ ?_ ?_ ?_ ?_ ?_ ?_ ?_ ?_ ?_ ?_ ?_ ?_ ?_ ?_ ?_ ?_ ?_ ?_ ?_ ?_ ?_ ?_ ?_ ?_ ?_ ?_ ?_ ?_ ?_ ?_ ?_ ?_ ?_ ?_ ?_ ?_ ?_ ?_ ?_ ?_ ?_ ?_ ?_ ?_ ?_ ?_ ?_ ?_ ?_ ?_ ?_ ?_ ?_ ?_ ?_ ?_ ?_ ?_ ?_ ?_ ?_ ?_ ?_ ?_ ?_ ?_ ?_ ?_ ?_ ?_ ?_ ?_ ?_ ?_ ?_ ?_ ?_ ?_ ?_ ?_ ?_ ?_ ?_ ?_ ?_ ?_ ?_ ?_ ?_ ?_ ?_ ?_ ?_ ?_ ?_ ?_ ?_ ?_ ?_ ?_ ?_ ?_ ?_ ?_ ?_ ?_ ?_ ?_ ?_ ?_ ?_ ?_ ?_ ?_ ?_ ?_ ?_ ?_ ?_ ?_ ?_ ?_ ?_ ?_ ?_ ?_ ?_ ?_ ?_ ?_ ?_ ?_ ?_ ?_ ?_ ?_ ?_ ?_ ?_ ?_ ?_ ?_ ?_ ?_ ?_ ?_ ?_ ?_ ?_ ?_ ?_ ?_ ?_ ?_ ?_ ?_ ?_ ?_ ?_ ?_ ?_ ?_ ?_ ?_ ?_ ?_ ?_ ?_ ?_ ?_ ?_ ?_ ?_ ?_ ?_ ?_ ?_ ?_ ?_ ?_ ?_ ?_ ?_ ?_ ?_ ?_ ?_ ?_ ?_ ?_ ?_ ?_ ?_ ?_ ?_ ?_ ?_ ?_ ?_ ?_ ?_ ?_ ?_ ?_ ?_ ?_ ?_ ?_ ?_ ?_ ?_ ?_ ?_ ?_ ?_ ?_ ?_ ?_ ?_ ?_ ?_ ?_ ?_
 any_goals first|k_is|(refine' L2.FnX.of ?fa ?fb;(case fa=>k_is);(case fb=>k_is))|((first|apply And.intro|apply L2.Meth.mk|apply L2.Mk.mk|apply L2.Cls.mk|apply L2.XAt.mk|apply L2.BIni.mk|apply L2.ClM.mk|apply L2.XRd.mk)<;>first|k_is|kernel_rfl)|(show W.findIn _ _ _=_;k_is)
 all_goals first|k_exc|kts_exm|kit_is|kernel_rfl|decide)
