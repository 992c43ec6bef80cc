import PyProof.Rows.All
import Wide.All
import OpenK.AllK
import Wide.FinOn
import Lean
import PyProof.EqAt
import PyProof.EqKinds
import PyProof.TupleCall
import PyProof.StationsW
import PyProof.NsDelKeeps
import PyProof.PassesOwn
import PyProof.ZipIter
import PyProof.NeKinds
import PyProof.CompFree
import KE.KDictList
import PyProof.ConsumeWalk
import PyProof.WalkInts
import PyProof.WalksMore
import PyProof.SumAny
import PyProof.Rows.MinMaxN
import PyProof.Rows.SortWalk
import PyProof.ListRange
import KE.KTupSum
import PyProof.EnumFor
import PyProof.EnumMake
import PyProof.EnumStmt
import OpenK.KMake
import PyProof.DictWalks
import PyProof.FitsBits
import PyProof.CompUse
import KE.KSortTup
import PyProof.MinMaxWalk
import PyProof.SeqI3
import PyProof.DictItems
import KE.KItemsList
import KE.KEqDict
import KE.KDictSum
import PyProof.DictValues
import KE.KLam
import KE.KNestM
import PyProof.ExcClass3
import PySem.Challenge.RW_wornpages_k51_a_put_that_fails
set_option Elab.async false
set_option linter.all false
set_option maxRecDepth 100000
set_option maxHeartbeats 0
noncomputable abbrev hU:=@if_pos
noncomputable abbrev hV:=@if_neg
noncomputable abbrev hW:=@decide_eq_true
noncomputable abbrev hZ:=@decide_eq_false
noncomputable abbrev kI:=@decide_eq_true_eq
noncomputable abbrev mF:=@beq_iff_eq
noncomputable abbrev mK:=@of_decide_eq_true
noncomputable abbrev gC:=@decide_eq_false_iff_not
noncomputable abbrev gS:=@or_false
noncomputable abbrev g0:=@beq_eq_false_iff_ne
noncomputable abbrev dF:=@decide_eq_decide
noncomputable abbrev rD:=@congrArg
open List renaming getD_eq_getElem?_getD→hG, length_map→h8, mem_cons_of_mem→h9, getElem?_eq_some_iff→kD, getElem?_eq_getElem→kE, mem_cons→kG, size_toArray→kL, mem_cons_self→kM, mem_singleton→kN, mem_append_right→kP, length_cons→kX, length_append→kZ, map_cons→k7, not_mem_nil→mC, mem_append_left→mE, getElem?_map→mG, mem_map→mH, map_append→mI, filter_cons→mJ, length_filter_le→mL, nodup_cons→mM, getElem?_set→mQ, length_replicate→mR, mem_append→mS, mem_of_getElem?→mY, mem_range→mZ, length_set→m7, take_append_getElem→gA, lookup_cons→gD, length_range→gI, replicate_succ→gP, mem_filter→gQ, getElem?_replicate→gW, find?_cons→gZ, length_take→dC, all_eq_true→dE, take_length→dG, filter_append→dH, filterMap_cons→dU, map_replicate→rC, sum_cons→rE, length_singleton→rF, flatten_cons→rJ, nodup_append→rL, getElem?_append_right→rN, getElem_mem→rT, any_eq_true→rV, any_cons→rY, mem_filterMap→r9, append_assoc→wG, getElem?_eq_none→wK, nodup_range→wN, getElem?_set_ne→wO, append_nil→wR, of_mem_zip→wS, filter_sublist→wX, map_congr_left→wY, map_map→cC, find?_eq_none→cL, getElem?_append_left→cN, pairwise_iff_getElem→cO, mem_of_find?_eq_some→cP, pairwise_map→cR, filter_congr→cS, cons_append→cV, getElem?_cons_succ→cW, ext_getElem→cX, getElem?_set_self→cY, map_set→pA, filter_eq_nil_iff→pB, length_nil→pD, countP_mono_left→pK, filter_eq_self→pX, contains_cons→sJ, getElem_range→sO, map_nil→sY, find?_append→nH, length_drop→nK, countP_cons→nN, getElem_map→nO, nil_append→nR, forIn_cons→nV, find?_some→nW, all_cons→lL, any_map→lN
open PySem renaming wpAny_bind→hI, wpAny_pure→kJ, sizeLine_eq→mT, mem_of_lookup→mV, wpAny_mono→gB, wpAny_truthy_bool→gH, wpAny_Call_Name_kw→gM, wpAny_holding→gO, wpAny_passesOwn→dL, wpAny_call→dQ, boot_len→dY, wpAny_field→d3, codeAny_mono→rA, wpAny_loadPart_at→rK, codeAny_call_builtin→rP, wpAny_standAt→rX, tupleKind_room_in1→wA, wpAny_newObj_type→wH, plainObj_wpAny_Assign_Attribute→wJ, wpAny_execs_nil→wQ, wpAny_newFunctionEnv_cells→cF, wpAny_setField→cG, wpAny_attempt→cT, wpAny_pyNext_range_end→cZ, seqIndex_neg→c4, wpAny_getItem_list_neg→c6, codeAny_handlers_suite→c9, wpAny_isTrue_Compare1→pG, codeAny_call_function→pH, wpAny_loadPart→pM, seqIndex_of→pO, wpAny_newFunctionEnv→pQ, wpAny_handleBy_cons→pT, wpAny_isSubtype_exc→pU, wpAny_newList→p7, wpAny_pyIter_range→sD, wpAny_assign_Name→sQ, slot_list_getitem→sX, wpAny_Name→nX, typeIs_int→nZ, call_meets→n8
open PySem.Heap renaming get?_push_of_some→hR, lt_size→kF, get?_push_size→kU, get?_update_other→mB, get?_update_self→gK, get?_none_of_le→dM, size_push→rM, get?_update_ne→rW, get?_push_at→sZ, size_update→nP
open Nat renaming le_refl→kB, lt_of_lt_of_le→kQ, ne_of_lt→kW, le_trans→kY, zero_le→mO, lt_succ_of_lt→gX, lt_irrefl→g9, le_succ→dA, ne_of_gt→dN, succ_le_succ→dZ, lt_of_le_of_lt→rB, lt_of_mul_lt_mul_right→rQ, lt_succ_self→rR, eq_zero_or_pos→wC, le_of_eq→wE, le_of_lt→wZ, not_lt→cH, succ_mul→c8, mul_le_mul_right→pR
open Bool renaming false_ne_true→kC, and_eq_true→kO, or_eq_true→gL, eq_iff_iff→rZ, not_eq_true'→wI, or_eq_false_iff→wP, and_eq_false_iff→pL, true_and→p6, or_true→lM
open Option.some renaming inj→kH
open Int renaming toNat_natCast→kR, natCast_mul→m8, eq_ofNat_of_zero_le→dX, le_refl→d9, natCast_ediv→wM, natCast_add→wT, le_of_lt→cB, zero_add→cD, le_trans→nE, add_sub_assoc→nI, mul_nonneg→n9
open Option renaming map_eq_some_iff→mP, isSome_iff_exists→dR, bind_some→rS, map_some→r6, isSome_map→cQ, getD_none→nL
open Array renaming length_toList→mU, getElem?_setIfInBounds_ne→dS, getElem?_eq_some_iff→rO, getD_eq_getD_getElem?→cA, append_assoc→sB, find?_toList→sE
open PySem.PassesOwn renaming never→mW
open PySem.W renaming kia_one→m6, mg_of→m9, methodCall_KW→gJ, callWith_K→gN, looks_findIn→dO, mg_none_of→dP, any_some→dW, cellsFrom_some→wF, plainGet_of→wU, looks_clsIn→wV, callWith_K0→wW, tail_of_in→cJ, check_slot→cK, looks_mroIn→pV, codeRec_of→sI, method_cls→sL, set_plain→sR, make_core→sS, kitx_list→sU, kitx_dict→sV, cls_value→nB, makes_of→nJ, codeHd_of_K→nQ
open Classical renaming byContradiction→gR, not_not→nG
open PySem.F renaming slot_list_append→gT, type_list_append→gU, plainAttrs_list→gY, excBase_ValueError→cI, slot_range_iterator_next→cM, slot_dict_pop→pJ, slot_int_rmul→nS
open PySem.BindsTo renaming of_defaults→g8
open PySem.Obj renaming isFreed_of_fields→dJ, data_mapFields→wB
open Ne renaming symm→rG
open PyProof.Rows renaming callWith_type1→rH, callWith_builtin1→wL, listUpdate_at→cU, subscriptTail_builtinR→c5, get?_update_seq→pE, getElem?_mirror_all→pW, Subscript_→nY, size_push'→lA
open Sum.inl renaming inj→wD
open PySem.Calls renaming Name_function_global→cE, callWith_builtin→c7, evalArgs_plain→pP, spliced_cons→sG, spliced_nil→sW
open PySem.SeqAt.EqAt renaming same→pC, int_str→p8, str_int→p9, of_refs→sN
open PySem.Around renaming frames_deeper→pN
open PySem.Value renaming isStrOf_shape→pS, isInt_shape→sP
open PySem.Paired renaming length→pZ
open PySem.W.Looks renaming here→sF, ld→nM, of_pure→lO
open PySem.Code renaming quiet_builtin→sK
open PySem.Heap.Ns1 renaming of_empty→sT
open PySem.SeqAt renaming eq_listAt→nU
open PySem.EqMixed renaming eq_bool_str→lB, eq_str_bool→lC, ne_bool_str→lD, ne_str_bool→lE, eq_int_str→lG, eq_str_int→lI, ne_int_str→lJ, ne_str_int→lK
open PySem.IsRange renaming new→lP
open List.Pairwise renaming filter→lQ
open PySem.Heap.IsSliceOf renaming new→lR
set_option genSizeOf false
namespace L2
open PySem PySem.Spec PyProof.Rows
noncomputable abbrev Key:=Sum Int Str
noncomputable def q4V:Key→Value→Bool
| .inl k,v=>Value.isInt k v
| .inr x,v=>Value.isStrOf x v
noncomputable def keyH(w:World):Key→Int
| .inl k=>hashInt k
| .inr x=>hashStr w x
theorem jU:∀{k:Key} {v:Value},q4V k v=true→(∃i t,k=Sum.inl i∧v=Value.int i t)∨(∃x t,k=Sum.inr x∧v=Value.str x t)
| .inl i,v,h=>by obtain⟨t,e⟩:=sP (k:=i) (v:=v) h;exact .inl ⟨i,t,rfl,e⟩
| .inr x,v,h=>by obtain⟨t,e⟩:=pS (x:=x) (v:=v) h;exact .inr ⟨x,t,rfl,e⟩
theorem q9E(i:Int)(t:Tok):q4V (.inl i) (.int i t)=true:=by simp[q4V,Value.isInt]
theorem q9F(x:Str)(t:Tok):q4V (.inr x) (.str x t)=true:=by simp[q4V,Value.isStrOf]
theorem qDT(a b:Int):decide ((Sum.inl a:Key)=Sum.inl b)=(a==b):=by(
by_cases e:a=b
·subst e;simp
have h:¬(Sum.inl a:Key)=Sum.inl b:=λq=>e (wD q)
rw[hZ h]
exact(g0.mpr e).symm)
theorem qDU(a b:Str):decide ((Sum.inr a:Key)=Sum.inr b)=decide (a=b):=by(
by_cases e:a=b
·subst e;simp
have h:¬(Sum.inr a:Key)=Sum.inr b:=λq=>e (Sum.inr.inj q)
rw[hZ h,hZ e])
theorem qDV(a:Int)(b:Str):decide ((Sum.inl a:Key)=Sum.inr b)=false:=hZ (λq=>nomatch q)
theorem qDW(a:Str)(b:Int):decide ((Sum.inr a:Key)=Sum.inl b)=false:=hZ (λq=>nomatch q)
noncomputable def jP(prog:Program)(w:World):PySem.KeyKind prog w Key where
is:=q4V
hash:=keyH w
inj:=λv a b ha hb=>by
 rcases jU ha with⟨i,t,rfl,rfl⟩|⟨x,t,rfl,rfl⟩
 ·rcases jU hb with⟨j,u,rfl,e⟩|⟨y,u,rfl,e⟩
  ·injection e with e1 _;rw[e1]
  exact nomatch e
 rcases jU hb with⟨j,u,rfl,e⟩|⟨y,u,rfl,e⟩
 ·exact nomatch e
 injection e with e1 _;rw[e1]
byValue:=λk v h=>by rcases jU h with⟨i,t,rfl,rfl⟩|⟨x,t,rfl,rfl⟩<;>rfl
pyHash:=λhv h=>by
 rcases jU hv with⟨i,t,rfl,rfl⟩|⟨x,t,rfl,rfl⟩
 ·exact wpAny_pyHash_int h
 exact wpAny_pyHash_str h
eqBool:=λhu hv h=>by
 rcases jU hu with⟨i,t,rfl,rfl⟩|⟨x,t,rfl,rfl⟩
 ·rcases jU hv with⟨j,u,rfl,rfl⟩|⟨y,u,rfl,rfl⟩
  ·rw[qDT]at h;exact wpAny_eqBool_int h
  rw[qDV]at h;exact p8 i t y u _ _ _ _ h
 rcases jU hv with⟨j,u,rfl,rfl⟩|⟨y,u,rfl,rfl⟩
 ·rw[qDW]at h;exact p9 x t j u _ _ _ _ h
 rw[qDU]at h;exact wpAny_eqBool_str h
«strs»:=λk x t v h=>by
 rcases jU h with⟨i,u,rfl,e⟩|⟨y,u,rfl,e⟩
 ·exact nomatch e
 injection e with e1 _
 subst e1;cases v<;>rfl
theorem q6T(prog:Program)(w:World)(i:Int)(t:Tok):(jP prog w).is (.inl i) (.int i t)=true:=q9E i t
theorem q6U(prog:Program)(w:World)(x:Str)(t:Tok):(jP prog w).is (.inr x) (.str x t)=true:=q9F x t
inductive V where
|non|bl (b:Bool)|int (i:Int)|str (x:Str)|byt (b:Array UInt8)|flt (b:UInt64)|ref (a:Addr)|ty (n:String)
deriving DecidableEq
noncomputable def RelV:V→Value→Prop
| .non,u=>u=Value.none
| .bl b,u=>u=Value.bool b
| .int i,u=>∃t,u=Value.int i t
| .str x,u=>∃t,u=Value.str x t
| .byt b,u=>∃t,u=Value.bytes b t
| .flt b,u=>∃t,u=Value.float b t
| .ref a,u=>u=Value.ref a
| .ty n,u=>u=Value.type n
noncomputable abbrev Vals:List V→List Value→Prop:=Paired RelV
theorem Vals.length{xs:List V}{us:List Value}(r:Vals xs us):xs.length=us.length:=pZ r
theorem Vals.get:∀{xs:List V} {us:List Value} {i:Nat} {x:V},Vals xs us→xs[i]?=some x→∃u,us[i]?=some u∧RelV x u
|_,_,_,_,.nil,e=>by simp at e
|_,_,0,_,.cons r _,e=>by simp at e;subst e;exact⟨_,rfl,r⟩
|_,_,i+1,x,.cons _ t,e=>by obtain⟨u,h1,h2⟩:=Vals.get (i:=i) (x:=x) t (by simpa using e);exact⟨u,by simpa using h1,h2⟩
theorem Vals.set{x:V}{u:Value}(r:RelV x u):∀{xs:List V} {us:List Value} (i:Nat),Vals xs us→Vals (xs.set i x) (us.set i u)
|_,_,_,.nil=>.nil
|_,_,0,.cons _ t=>.cons r t
|_,_,i+1,.cons q t=>.cons q (Vals.set r i t)
theorem Vals.append:∀{xs ys:List V} {us ws:List Value},Vals xs us→Vals ys ws→Vals (xs++ys) (us++ws)
|_,_,_,_,.nil,s=>s
|_,_,_,_,.cons r t,s=>.cons r (Vals.append t s)
theorem Vals.take:∀{xs:List V} {us:List Value} (n:Nat),Vals xs us→Vals (xs.take n) (us.take n)
|_,_,0,_=>.nil
|_,_,_ +1,.nil=>.nil
|_,_,n+1,.cons r t=>.cons r (Vals.take n t)
theorem Vals.drop:∀{xs:List V} {us:List Value} (n:Nat),Vals xs us→Vals (xs.drop n) (us.drop n)
|_,_,0,r=>r
|_,_,_ +1,.nil=>.nil
|_,_,n+1,.cons _ t=>Vals.drop n t
noncomputable def RelO:Option V→Option Value→Prop
|some v,some u=>RelV v u
|none,none=>True
|_,_=>False
noncomputable def KV{κ:Type}:List (κ×V)→List (κ×Value)→Prop:=Paired λ(p:κ×V) (q:κ×Value)=>p.1=q.1∧RelV p.2 q.2
noncomputable def kV:Key→V
| .inl i=>.int i
| .inr x=>.str x
inductive HO where
|lst (xs:List V)
|tup (xs:List V)
|dK (kvs:List (Key×V))|dT (kvs:List (List Key×V))
|set (S:Int→Bool) (n:Nat)
|ins (C dx:Addr) (fs:List (Str×V))
|own (x:Addr)
|xd (fs:List (Str×V))
|met (f x:Addr)
|rng (lo hi:Int)
|frz (o:Obj) (u:HO)
|tbl (ps:Array Value)
|ext (φ:Heap→Prop)
noncomputable abbrev Hp:=Addr→Option HO
noncomputable def upd(H:Hp)(a:Addr)(o:HO):Hp:=λb=>if b=a then some o else H b
theorem qJ{H:Hp}{a:Addr}{o:HO}:upd H a o a=some o:=by unfold upd;rw[hU rfl]
theorem qD{H:Hp}{a b:Addr}{o:HO}(h:b≠a):upd H a o b=H b:=by unfold upd;rw[hV h]
theorem q5M{H:Hp}{a:Addr}{o u:HO}:upd (upd H a o) a u=upd H a u:=by funext b;unfold upd;split<;>rfl
theorem jN{H:Hp}{a b:Addr}{o u:HO}(h:H a=some o)(h':H b=some u)(d:o≠u):a≠b:=by intro e;subst e;rw[h]at h';exact d (kH h')
theorem qF{H:Hp}{a b:Addr}{o:HO}(h:H a=some o)(h':H b=none):a≠b:=by intro e;subst e;rw[h]at h';cases h'
section
variable(P:Program)(w:World)
noncomputable def jF(H:Hp)(h:Heap)(a:Addr):HO→Prop
| .lst xs=>xs.length≤sizeLine∧∃(its:List Value) (n:Nat),Vals xs its∧h.get? a=some { cls:=.type "list",data:=.seq its.toArray n }
| .tup xs=>xs.length≤sizeLine∧∃its:List Value,Vals xs its∧IsTup h a its.toArray
| .dK kvs=>kvs.length≤sizeLine∧(a==sysModules)=false∧∃vs,KV kvs vs∧h.DictOf (jP P w) a vs
| .dT kvs=>kvs.length≤sizeLine∧(a==sysModules)=false∧∃xs:List (List Key×Addr×Value),Paired (λ(p:List Key×V) (q:List Key×Addr×Value)=>p.1=q.1∧H q.2.1=some (.tup (p.1.map kV))∧RelV p.2 q.2.2) kvs xs∧∃o es ep,h.get? a=some o∧o.ExactDict∧o.data=.dict es ep∧es.toList=xs.map (entryOfKey (tupleKind (jP P w)))∧(xs.map (·.1)).Nodup
| .set S n=>h.SetOf (intKind P w) a S n
| .ins C dx fs=>H dx=some (.own a)∧fs.length≤1000∧dx≠a∧h.get? a=some (PySem.W.instObj C dx)∧∃mA,h.Ns1 dx mA∧(∀f,RelO (fs.lookup f) (mA f))∧PySem.Within mA (fs.map (·.1))
| .own _=>∃o,h.get? a=some o
| .xd fs=>∃mA,h.Ns1 a mA∧∀f,RelO (fs.lookup f) (mA f)
| .rng lo hi=>∃t u v,h.get? a=some { cls:=.type "range",data:=.fields #[.int lo t,.int hi u,.int 1 v] }
| .frz o u=>h.get? a=some o∧jF H h a u
| .tbl ps=>h.get? a=some { cls:=.none,data:=.fields ps }
| .met f x=>h.get? a=some (PySem.W.methodObj (.ref f) (.ref x))
| .ext φ=>φ h∧(∃o,h.get? a=some o)∧∀h1 h2:Heap,φ h1→(∀o,h1.get? a=some o→h2.get? a=some o)→φ h2
noncomputable def HOk(H:Hp)(h:Heap):Prop:=∀a o,H a=some o→jF P w H h a o
end
section
variable{P:Program}{w:World}{H H':Hp}{h h':Heap}{a:Addr}{o:HO}
theorem jF.lt(x:jF P w H h a o):a<h.objs.size:=by(
cases o with
|lst xs=>obtain⟨_,_,_,_,e⟩:=x;exact kF e
|tup xs=>obtain⟨_,_,_,p⟩:=x;exact p.lt
|dK kvs=>obtain⟨_,_,_,_,o,_,_,e,_⟩:=x;exact kF e
|dT kvs=>obtain⟨_,_,_,_,o,_,_,e,_⟩:=x;exact kF e
|set S n=>obtain⟨o,_,_,_,e,_⟩:=x;exact kF e
|ins C dx fs=>obtain⟨_,_,_,e,_⟩:=x;exact kF e
|own y=>obtain⟨_,e⟩:=x;exact kF e
|xd fs=>obtain⟨_,⟨_,_,_,e,_⟩,_⟩:=x;exact kF e
|rng lo hi=>obtain⟨_,_,_,e⟩:=x;exact kF e
|frz ob u=>obtain⟨e,_⟩:=x;exact kF e
|tbl ps=>exact kF (show h.get? a=some _ from x)
|met f y=>exact kF (show h.get? a=some _ from x)
|ext φ=>obtain⟨_,⟨_,e⟩,_⟩:=x;exact kF e)
theorem Paired.mapP{α β:Type}{F G:α→β→Prop}:∀{l₁:List α} {l₂:List β},Paired F l₁ l₂→(∀a b,F a b→G a b)→Paired G l₁ l₂
|_,_,.nil,_=>.nil
|_,_,.cons r t,f=>.cons (f _ _ r) (Paired.mapP t f)
theorem jF.stay(x:jF P w H h a o)(k:∀b u,(b=a∨H b=some (.own a))→h.get? b=some u→h'.get? b=some u)
 (ho:∀b,H b=some (.own a)→H' b=some (.own a)) (ht:∀b xs,H b=some (.tup xs)→H' b=some (.tup xs)):jF P w H' h' a o:=by(
induction o with
|lst xs=>obtain⟨z,its,n,r,e⟩:=x;exact⟨z,its,n,r,k _ _ (.inl rfl) e⟩
|tup xs=>obtain⟨z,its,r,ob,e,c⟩:=x;exact⟨z,its,r,ob,k _ _ (.inl rfl) e,c⟩
|dK kvs=>obtain⟨z,y,vs,r,ob,es,ep,e,c⟩:=x;exact⟨z,y,vs,r,ob,es,ep,k _ _ (.inl rfl) e,c⟩
|dT kvs=>obtain⟨z,y,xs,r,ob,es,ep,e,c⟩:=x;exact⟨z,y,xs,Paired.mapP r λp q z=>⟨z.1,ht _ _ z.2.1,z.2.2⟩,ob,es,ep,k _ _ (.inl rfl) e,c⟩
|set S n=>obtain⟨ob,es,ep,t,e,c⟩:=x;exact⟨ob,es,ep,t,k _ _ (.inl rfl) e,c⟩
|ins C dx fs=>obtain⟨d,z,ne,e,mA,⟨od,es,ep,e2,c⟩,r⟩:=x;exact⟨ho _ d,z,ne,k _ _ (.inl rfl) e,mA,⟨od,es,ep,k _ _ (.inr d) e2,c⟩,r⟩
|own y=>obtain⟨ob,e⟩:=x;exact⟨ob,k _ _ (.inl rfl) e⟩
|xd fs=>obtain⟨mA,⟨od,es,ep,e,c⟩,r⟩:=x;exact⟨mA,⟨od,es,ep,k _ _ (.inl rfl) e,c⟩,r⟩
|rng lo hi=>obtain⟨t,u,v,e⟩:=x;exact⟨t,u,v,k _ _ (.inl rfl) e⟩
|frz ob u ih=>obtain⟨e,q⟩:=x;exact⟨k _ _ (.inl rfl) e,ih q⟩
|tbl ps=>have e:h.get? a=some { cls:=.none,data:=.fields ps }:=x;show h'.get? a=some { cls:=.none,data:=.fields ps };exact k a _ (.inl rfl) e
|met f y=>have e:h.get? a=some (PySem.W.methodObj (.ref f) (.ref y)):=x;show h'.get? a=some (PySem.W.methodObj (.ref f) (.ref y));exact k a _ (.inl rfl) e
|ext φ=>obtain⟨p,⟨o,e⟩,st⟩:=x;exact⟨st _ _ p λo q=>k _ _ (.inl rfl) q,⟨o,k _ _ (.inl rfl) e⟩,st⟩)
theorem HOk.lt(x:HOk P w H h)(e:H a=some o):a<h.objs.size:=(x a o e).lt
theorem HOk.fresh(x:HOk P w H h)(e:h.objs.size≤a):H a=none:=by(
cases q:H a with
|none=>rfl
|some u=>exact absurd (kQ (x.lt q) e) (g9 _))
theorem HOk.kept(x:HOk P w H h)(k:∀b u,h.get? b=some u→h'.get? b=some u):HOk P w H h':=λa o e=>(x a o e).stay (λb u _ q=>k b u q) (λ_ q=>q) λ_ _ q=>q
theorem HOk.laid(x:HOk P w H h)(k:∀b u,h.get? b=some u→h'.get? b=some u)(hp:h.objs.size≤a)(new:jF P w (upd H a o) h' a o):HOk P w (upd H a o) h':=λb u e=>by(
have hn:=x.fresh hp
by_cases hb:b=a
·subst hb;rw[qJ]at e;cases e;exact new
rw[qD hb]at e
exact(x b u e).stay (λc v _ q=>k c v q) (λc q=>by rw[qD (qF q hn)];exact q) λc xs q=>by rw[qD (qF q hn)];exact q)
end
noncomputable def Rd(H:Hp)(a:Addr)(u:HO):Prop:=H a=some u∨∃o,H a=some (.frz o u)
theorem Rd.ok{P:Program}{w:World}{H:Hp}{h:Heap}{a:Addr}{u:HO}(r:Rd H a u)(x:HOk P w H h):jF P w H h a u:=by(
rcases r with r|⟨o,r⟩
·exact x a u r
obtain⟨_,q⟩:=x a _ r
exact q)
noncomputable def Mut:Option HO→Prop
|some (.lst _)=>True
|some (.dK _)=>True
|some (.dT _)=>True
|some (.set _ _)=>True
|some (.ins _ _ _)=>True
|some (.ext _)=>True
|_=>False
section
variable{P:Program}{w:World}{H:Hp}{h h':Heap}{x e:Addr}{o':HO}
theorem HOk.write(ok:HOk P w H h)(mu:Mut (H x))(he:e=x∨H e=some (.own x))(k:∀b u,b≠e→h.get? b=some u→h'.get? b=some u)(heo:∃u,h'.get? e=some u)
 (new:jF P w (upd H x o') h' x o'):HOk P w (upd H x o') h':=λb u q=>by(
have nown:∀c y,H c=some (.own y)→c≠x:=λc y r z=>by subst z;rw[r]at mu;exact mu
have ntup:∀c xs,H c=some (.tup xs)→c≠x:=λc xs r z=>by subst z;rw[r]at mu;exact mu
by_cases hb:b=x
·subst hb;rw[qJ]at q;cases q;exact new
rw[qD hb]at q
by_cases hbe:b=e
·have q':H b=some (.own x):=by
  rcases he with z|z
  ·exact absurd (hbe.trans z) hb
  rw[hbe];exact z
 rw[q]at q';cases q';obtain⟨v,hv⟩:=heo;exact⟨v,by rw[hbe];exact hv⟩
refine(ok b u q).stay (λc v hc r=>k c v ?_ r) (λc r=>by rw[qD (nown c b r)];exact r) λc xs r=>by rw[qD (ntup c xs r)];exact r
rcases hc with rfl|hc
·exact hbe
rintro rfl
rcases he with z|z
·exact nown c b hc z
rw[hc]at z;cases z;exact hb rfl)
end
structure Un(fs ex:List Addr)(H H':Hp)(h h':Heap):Prop where
keep:∀b o,h.get? b=some o→H b=none→b∉fs→b∉ex→h'.get? b=some o
slot:∀b o,h.get? b=some o→H b=none→b∈fs→b∉ex→∃sl,h'.get? b=some { o with slots:=sl }
free:∀b o,h.get? b=some o→H b=none→b∉ex→H' b=none
there:∀b o,h.get? b=some o→b∉ex→∃o',h'.get? b=some o'
tups:∀b xs,H b=some (.tup xs)→H' b=some (.tup xs)
frzs:∀b o u,H b=some (.frz o u)→H' b=some (.frz o u)
tbls:∀b ps,H b=some (.tbl ps)→∃more,H' b=some (.tbl (ps++more))
section
variable{fs fs' ex ex':List Addr}{H H1 H2:Hp}{h h1 h2 h':Heap}{a x e:Addr}{o:HO}
theorem Un.any(u:Un fs ex H H1 h h1){b:Addr}{ob:Obj}(q:h.get? b=some ob)(n:H b=none)(hx:b∉ex):∃sl,h1.get? b=some { ob with slots:=sl }:=by(
by_cases hb:b∈fs
·exact u.slot b ob q n hb hx
exact⟨ob.slots,u.keep b ob q n hb hx⟩)
theorem Un.trans(a:Un fs ex H H1 h h1)(b:Un fs ex H1 H2 h1 h2):Un fs ex H H2 h h2 where
keep:=λc ob q n hc hx=>b.keep c ob (a.keep c ob q n hc hx) (a.free c ob q n hx) hc hx
slot:=λc ob q n hc hx=>by obtain⟨sl,e1⟩:=a.slot c ob q n hc hx;obtain⟨sl',e2⟩:=b.slot c _ e1 (a.free c ob q n hx) hc hx;exact⟨sl',e2⟩
free:=λc ob q n hx=>by obtain⟨o',e1⟩:=a.there c ob q hx;exact b.free c o' e1 (a.free c ob q n hx) hx
there:=λc ob q hx=>by obtain⟨o',e1⟩:=a.there c ob q hx;exact b.there c o' e1 hx
tups:=λc xs q=>b.tups c xs (a.tups c xs q)
frzs:=λc ob xs q=>b.frzs c ob xs (a.frzs c ob xs q)
tbls:=λc ps q=>by obtain⟨m1,e1⟩:=a.tbls c ps q;obtain⟨m2,e2⟩:=b.tbls c _ e1;exact⟨m1++m2,by rw[e2,sB]⟩
theorem Un.kept(k:∀b u,h.get? b=some u→h'.get? b=some u):Un fs ex H H h h':=⟨λb ob q _ _ _=>k b ob q,λb ob q _ _ _=>⟨ob.slots,k b ob q⟩,λ_ _ _ n _=>n,λb ob q _=>⟨ob,k b ob q⟩,λ_ _ q=>q,λ_ _ _ q=>q,λ_ ps q=>⟨#[],by rw[q];simp⟩⟩
theorem Un.refl:Un fs ex H H h h:=Un.kept λ_ _ q=>q
theorem Un.laid(k:∀b u,h.get? b=some u→h'.get? b=some u)(hp:h.objs.size≤a)(hn:H a=none):Un fs ex H (upd H a o) h h' where
keep:=λb u q _ _ _=>k b u q
slot:=λb u q _ _ _=>⟨u.slots,k b u q⟩
free:=λb u q n _=>by rw[qD (kW (kQ (kF q) hp))];exact n
there:=λb u q _=>⟨u,k b u q⟩
tups:=λb xs q=>by rw[qD (qF q hn)];exact q
frzs:=λb u xs q=>by rw[qD (qF q hn)];exact q
tbls:=λb ps q=>⟨#[],by rw[qD (qF q hn),q];simp⟩
theorem Un.write(mu:Mut (H x))(he:e=x∨H e=some (.own x))(k:∀b u,b≠e→h.get? b=some u→h'.get? b=some u)(heo:∃u,h'.get? e=some u):Un fs ex H (upd H x o) h h':=by(
have hx:∀b,H b=none→b≠x:=λb n z=>by subst z;rw[n]at mu;exact mu
have hb:∀b,H b=none→b≠e:=λb n z=>by
 subst z;rcases he with r|r
 ·exact hx b n r
 rw[n]at r;cases r
have hm:∀b u,H b=some u→¬Mut (some u)→b≠x:=λb u q nm z=>by subst z;rw[q]at mu;exact nm mu
refine⟨λb u q n _ _=>k b u (hb b n) q,λb u q n _ _=>⟨u.slots,k b u (hb b n) q⟩,λb u q n _=>by rw[qD (hx b n)];exact n,λb u q _=>?_,λb xs q=>by rw[qD (hm b _ q λz=>z)];exact q,λb u xs q=>by rw[qD (hm b _ q λz=>z)];exact q,λb ps q=>⟨#[],by rw[qD (hm b _ q λz=>z),q];simp⟩⟩
by_cases hbe:b=e
·subst hbe;exact heo
exact⟨u,k b u hbe q⟩)
end
noncomputable def trk(h:Heap)(H:Hp):List Addr:=(List.range h.objs.size).filter λa=>(H a).isSome
noncomputable def hidT(h:Heap)(H:Hp):Heap:=PySem.W.hideAll h (trk h H)
theorem q4W(h:Heap)(H:Hp):(hidT h H).objs.size=h.objs.size:=PySem.W.hideAll_size _ _
theorem q3I{h:Heap}{H:Hp}{b:Addr}{o:Obj}(e:h.get? b=some o)(n:H b=none):(hidT h H).get? b=some o:=PySem.W.hideAll_get _ e λhm=>by  have q:(H b).isSome=true:=(gQ.mp hm).2;rw[n]at q;simp at q
theorem q8S{h:Heap}{H:Hp}{b:Addr}{o:Obj}(e:(hidT h H).get? b=some o):h.get? b=some o∧H b=none:=by(
have e':h.get? b=some o:=PySem.W.of_hideAll (trk h H) e
refine⟨e',?_⟩
cases q:H b with
|none=>rfl
|some x=>have hm:b∈trk h H:=gQ.mpr ⟨mZ.mpr (kF e'),by simp[q]⟩;have z:(hidT h H).get? b=none:=PySem.W.hideAll_none (trk h H) hm;rw[z]at e;cases e)
structure Mod(K:PySem.W.Frag)(mg:Str→Option Value)(base:Heap):Prop where
kin:K.In base
glob:base.Ns mainGlobals mg
blt:∃mb,base.Ns builtinsNs mb∧∀x:Str,x≠"__name__"→mb x=bootBuiltins x
nolimit:base.NoLimit
structure Cx where
prog:Program
w:World
K:PySem.W.Frag
mg:Str→Option Value
base:Heap
A:Around
N:List Str
s₀:Shared
H₀:Hp
env:Env
outer:List Env
stack:List Env
ex:List Addr
fn:Str→Bool
calm:Bool
pn:List (Addr×Obj)
xe:Value→Shared→Prop
noncomputable def frs(l:List Env):List Addr:=l.filterMap (·.frame)
noncomputable abbrev Cx.fs(X:Cx):List Addr:=frs X.outer
noncomputable def Vis(sc:Scope)(x:Str):Prop:=sc.names.lookup x=some .local∨sc.names.lookup x=some .cell∨sc.names.lookup x=some .free
noncomputable def Loc(sc:Scope)(x:Str):Prop:=sc.names.lookup x=some .local∨sc.names.lookup x=some .cell
noncomputable def Look(env:Env)(h:Heap)(m:Str→Option Value)(x:Str)(u:Value):Prop:=(env.kindOf x=some .local∧m x=some u)∨((env.kindOf x=some .cell∨env.kindOf x=some .free)∧∃c,env.cells.lookup x=some c∧h.IsCell c (some u))
structure Cx.Ok(X:Cx):Prop where
mod:Mod X.K X.mg X.base
kind:X.env.scope.kind=.function
glob:X.env.globals=mainGlobals
blt:X.env.builtins=builtinsNs
above:X.s₀.heap.objs.size≤X.env.locals
inj:∀x y c,X.env.cells.lookup x=some c→X.env.cells.lookup y=some c→x=y
has:∀x,(X.env.kindOf x=some .cell∨X.env.kindOf x=some .free)→∃c,X.env.cells.lookup x=some c
cab:∀x c,X.fn x=true→X.env.cells.lookup x=some c→X.s₀.heap.objs.size≤c
hd:X.calm=true→X.A.handled=none
frames:X.A.frames=some X.stack
stk:X.stack=X.outer∨(X.stack=X.env::X.outer∧X.env.frame=some X.env.locals)
exf:∀b∈X.ex,b≠X.env.locals∧∀x c,X.env.cells.lookup x=some c→c≠b
bs:∀b o,X.base.get? b=some o→X.s₀.heap.get? b=some o∧X.H₀ b=none
bsz:X.base.objs.size≤X.s₀.heap.objs.size
noex:∀b o,X.base.get? b=some o→b∉X.ex
exfs:∀b∈X.ex,b∉X.fs
funs:X.s₀.heap.FunFrames X.base X.outer
frf:∀b∈X.fs,X.H₀ b=none
structure Inv(X:Cx)(pins:List (Addr×Obj))(σ:List (Option V))(H:Hp)(s:Shared):Prop where
ok:X.Ok
os:s.os=X.s₀.os
bare:AllBare s.gens
base:Un X.fs X.ex X.H₀ H X.s₀.heap s.heap
loc:∃m,s.heap.Ns X.env.locals m∧∀(i:Nat) (x:Str) (v:V),X.N[i]?=some x→σ[i]?=some (some v)→Vis X.env.scope x→∃u,RelV v u∧Look X.env s.heap m x u
cell:∀x c,X.env.cells.lookup x=some c→∃v,s.heap.IsCell c v
free:H X.env.locals=none
freeC:∀x c,X.env.cells.lookup x=some c→H c=none
pin:∀p∈X.pn++pins,s.heap.get? p.1=some p.2∧H p.1=none∧p.1≠X.env.locals∧p.1∉X.fs∧∀v,p.2.data≠ .cell v
hok:HOk X.prog X.w H s.heap
len:σ.length=X.N.length
section
variable{X:Cx}{pins:List (Addr×Obj)}{σ:List (Option V)}{H H':Hp}{s:Shared}{h':Heap}
theorem Cx.Ok.nofr(ok:X.Ok){b:Addr}{o:Obj}(e:X.base.get? b=some o):b∉X.fs:=λhb=>by have:=(ok.funs.mem hb).1;rw[e]at this;cases this
theorem Inv.bs(I:Inv X pins σ H s):∀b o,X.base.get? b=some o→s.heap.get? b=some o∧H b=none:=λb o e=>⟨I.base.keep b o (I.ok.bs b o e).1 (I.ok.bs b o e).2 (I.ok.nofr e) (I.ok.noex b o e),I.base.free b o (I.ok.bs b o e).1 (I.ok.bs b o e).2 (I.ok.noex b o e)⟩
theorem Inv.bk(I:Inv X pins σ H s):∀b o,X.base.get? b=some o→s.heap.get? b=some o:=λb o e=>(I.bs b o e).1
theorem Inv.mod(I:Inv X pins σ H s):Mod X.K X.mg X.base:=I.ok.mod
theorem Inv.kIn(I:Inv X pins σ H s):X.K.In s.heap:=I.ok.mod.kin.keeps I.bk
theorem Inv.fr(I:Inv X pins σ H s):∃m,Fr X.base X.env.locals s.heap m:=let⟨m,hn,_⟩:=I.loc
 ⟨m,hn,I.bk,kY I.ok.bsz I.ok.above⟩
theorem Inv.lt(I:Inv X pins σ H s):X.env.locals<s.heap.objs.size:=let⟨_,hn,_⟩:=I.loc;hn.lt
theorem Inv.sz(I:Inv X pins σ H s):X.s₀.heap.objs.size≤s.heap.objs.size:=kY I.ok.above (wZ I.lt)
theorem Inv.nofs(I:Inv X pins σ H s){a:Addr}(h:s.heap.objs.size≤a):a∉X.fs:=λhb=>by obtain⟨_,o,ho,_⟩:=I.ok.funs.mem hb;exact absurd (kQ (kF ho) (kY I.sz h)) (g9 _)
theorem Inv.cne(I:Inv X pins σ H s):∀x c,X.env.cells.lookup x=some c→c≠X.env.locals:=λx c e z=>by obtain⟨v,o,ho,hd⟩:=I.cell x c e;obtain⟨m,⟨o',es,ep,ho',hd',_⟩,_⟩:=I.loc;rw[z,ho']at ho;cases ho;rw[hd']at hd;cases hd
theorem Inv.funs(I:Inv X pins σ H s):s.heap.FunFrames X.base X.outer:=by(
have all:∀(l:List Env),(∀b∈frs l,b∈X.fs)→X.s₀.heap.FunFrames X.base l→s.heap.FunFrames X.base l:=by
 intro l;induction l with
 |nil=>intro _ _;trivial
 |cons env r ih=>intro hs hl;obtain⟨hk,⟨L,o,hf,hn,ho,hd⟩,hr⟩:=hl;have hL:L∈X.fs:=hs L (by unfold frs;rw[dU,hf];exact kM);obtain⟨sl,e⟩:=I.base.slot L o ho (I.ok.frf L hL) hL λz=>I.ok.exfs L z hL;exact⟨hk,⟨L,_,hf,hn,e,hd⟩,ih (λb hb=>hs b (by unfold frs;rw[dU,hf];exact h9 _ hb)) hr⟩
exact all X.outer (λ_ hb=>hb) I.ok.funs)
theorem Inv.stack(I:Inv X pins σ H s):s.heap.FunFrames X.base X.stack:=by(
rcases I.ok.stk with e|⟨e,hf⟩
·rw[e];exact I.funs
rw[e]
obtain⟨m,hn,_⟩:=I.loc
refine .cons (by rw[I.ok.kind];decide) hf hn ?_ I.funs
exact dM (kY I.ok.bsz I.ok.above))
theorem Inv.stkSub(I:Inv X pins σ H s):∀b∈frs X.stack,b∈X.env.locals::X.fs:=λb hb=>by(
rcases I.ok.stk with e|⟨e,hf⟩
·rw[e]at hb;exact h9 _ hb
rw[e]at hb
unfold frs at hb
rw[dU,hf]at hb
exact hb)
theorem Inv.stkFree(I:Inv X pins σ H s):∀b∈frs X.stack,H b=none:=λb hb=>by(
rcases kG.mp (I.stkSub b hb)with e|hb
·rw[e];exact I.free
obtain⟨_,o,ho,_⟩:=I.ok.funs.mem hb
exact I.base.free b o ho (I.ok.frf b hb) λz=>I.ok.exfs b z hb)
theorem Inv.step{g':Array GenState}{t':Nat}{d':Drawn}{ch:List Addr}(I:Inv X pins σ H s)
 (hch:∀b∈ch,(b∈X.ex∨X.s₀.heap.objs.size≤b)∧b≠X.env.locals∧(∀x c,X.env.cells.lookup x=some c→c≠b)∧∀p∈X.pn++pins,p.1≠b)
 (keep:∀b o,b≠X.env.locals→b∉X.fs→b∉ch→s.heap.get? b=some o→H b=none→h'.get? b=some o)
 (slot:∀b o,b≠X.env.locals→b∈X.fs→b∉ch→s.heap.get? b=some o→H b=none→∃sl,h'.get? b=some { o with slots:=sl }) (free:∀b o,b∉ch→s.heap.get? b=some o→H b=none→H' b=none)
 (there:∀b o,b∉ch→s.heap.get? b=some o→∃o',h'.get? b=some o')
 (tups:∀b xs,H b=some (.tup xs)→H' b=some (.tup xs)) (frzs:∀b o u,H b=some (.frz o u)→H' b=some (.frz o u)) (tbls:∀b ps,H b=some (.tbl ps)→∃more,H' b=some (.tbl (ps++more)))
 (ns:∀m,s.heap.Ns X.env.locals m→h'.Ns X.env.locals m) (hok:HOk X.prog X.w H' h') (hg:AllBare g'):
 Inv X pins σ H' { s with heap:=h',gens:=g',drawn:=d',toks:=t' }:=by(
have neL:∀b o,X.s₀.heap.get? b=some o→b≠X.env.locals:=λb o e=>kW (kQ (kF e) I.ok.above)
have neC:∀b o,X.s₀.heap.get? b=some o→b∉X.ex→b∉ch:=λb o e hx hb=>by
 rcases(hch b hb).1 with z|z
 ·exact hx z
 exact absurd (kQ (kF e) z) (g9 _)
have cellK:∀x c,X.env.cells.lookup x=some c→∀v,s.heap.IsCell c v→h'.IsCell c v:=λx c e v ⟨o,ho,hd⟩=>by
 have nch:c∉ch:=λz=>(hch c z).2.2.1 x c e rfl;by_cases hc:c∈X.fs
 ·obtain⟨sl,q⟩:=slot c o (I.cne x c e) hc nch ho (I.freeC x c e);exact⟨_,q,hd⟩
 exact⟨o,keep c o (I.cne x c e) hc nch ho (I.freeC x c e),hd⟩
refine⟨I.ok,I.os,hg,⟨λb o e n hb hx=>?_,λb o e n hb hx=>?_,λb o e n hx=>?_,λb o e hx=>?_,λb xs e=>tups b xs (I.base.tups b xs e),λb o xs e=>frzs b o xs (I.base.frzs b o xs e),λb ps e=>?_⟩,?_,λx c e=>?_,?_,λx c e=>?_,λp hp=>?_,hok,I.len⟩
·exact keep b o (neL b o e) hb (neC b o e hx) (I.base.keep b o e n hb hx) (I.base.free b o e n hx)
·obtain⟨sl,e1⟩:=I.base.slot b o e n hb hx;obtain⟨sl',e2⟩:=slot b _ (neL b o e) hb (neC b o e hx) e1 (I.base.free b o e n hx);exact⟨sl',e2⟩
·obtain⟨o',e1⟩:=I.base.there b o e hx;exact free b o' (neC b o e hx) e1 (I.base.free b o e n hx)
·obtain⟨o',e1⟩:=I.base.there b o e hx;exact there b o' (neC b o e hx) e1
·obtain⟨m1,e1⟩:=I.base.tbls b ps e;obtain⟨m2,e2⟩:=tbls b _ e1;exact⟨m1++m2,by rw[e2,sB]⟩
·obtain⟨m,hn,hl⟩:=I.loc;refine⟨m,ns m hn,λi x v e1 e2 e3=>?_⟩;obtain⟨u,r,l⟩:=hl i x v e1 e2 e3;refine⟨u,r,?_⟩;rcases l with l|⟨k,c,e,z⟩
 ·exact .inl l
 exact .inr ⟨k,c,e,cellK x c e _ z⟩
·obtain⟨v,z⟩:=I.cell x c e;exact⟨v,cellK x c e v z⟩
·obtain⟨m,⟨o,_,_,ho,_⟩,_⟩:=I.loc;exact free _ o (λz=>(hch _ z).2.1 rfl) ho I.free
·obtain⟨v,o,ho,hd⟩:=I.cell x c e;exact free c o (λz=>(hch c z).2.2.1 x c e rfl) ho (I.freeC x c e)
obtain⟨e,n,ne,nf,d⟩:=I.pin p hp
have nch:p.1∉ch:=λz=>(hch p.1 z).2.2.2 p hp rfl
exact⟨keep p.1 p.2 ne nf nch e n,free p.1 p.2 nch e n,ne,nf,d⟩)
theorem Inv.un{t':Nat}(I:Inv X pins σ H s)(u:Un X.fs [] H H' s.heap h')(hok:HOk X.prog X.w H' h'):Inv X pins σ H' { s with heap:=h',toks:=t' }:=by obtain⟨m,⟨o,es,ep,ho,r⟩,_⟩:=id I.loc;obtain⟨sl,hL⟩:=u.any ho I.free (by simp);exact I.step (g':=s.gens) (d':=s.drawn) (ch:=[]) (λ_ z=>nomatch z) (λb o _ hb _ e n=>u.keep b o e n hb (by simp)) (λb o _ hb _ e n=>u.slot b o e n hb (by simp)) (λb o _ e n=>u.free b o e n (by simp)) (λb o _ e=>u.there b o e (by simp)) u.tups u.frzs u.tbls (λm' hm=>by obtain⟨o',es',ep',ho',r'⟩:=hm;rw[ho]at ho';cases ho';exact⟨_,es',ep',hL,r'⟩) hok I.bare
theorem Inv.call{g':Array GenState}{t':Nat}{d':Drawn}{ch:List Addr}(I:Inv X pins σ H s)(u:Un (frs X.stack) ch H H' s.heap h')(hok:HOk X.prog X.w H' h')(hg:AllBare g')
 (hch:∀b∈ch,(b∈X.ex∨X.s₀.heap.objs.size≤b)∧b≠X.env.locals∧(∀x c,X.env.cells.lookup x=some c→c≠b)∧∀p∈X.pn++pins,p.1≠b):
 Inv X pins σ H' { s with heap:=h',gens:=g',drawn:=d',toks:=t' }:=by obtain⟨m,⟨o,es,ep,ho,r⟩,_⟩:=id I.loc;obtain⟨sl,hL⟩:=u.any ho I.free λz=>(hch _ z).2.1 rfl;exact I.step (ch:=ch) hch (λb o hL hb hc e n=>u.keep b o e n (λz=>(kG.mp (I.stkSub b z)).elim hL hb) hc) (λb o _ _ hc e n=>u.any e n hc) (λb o hc e n=>u.free b o e n hc) (λb o hc e=>u.there b o e hc) u.tups u.frzs u.tbls (λm' hm=>by obtain⟨o',es',ep',ho',r'⟩:=hm;rw[ho]at ho';cases ho';exact⟨_,es',ep',hL,r'⟩) hok hg
theorem Inv.turned{t':Nat}{it:Addr}(I:Inv X pins σ H s)(k:∀b o,b≠it→s.heap.get? b=some o→h'.get? b=some o)(hn:H it=none)(hL:it≠X.env.locals)
 (h1:it∈X.ex∨X.s₀.heap.objs.size≤it) (h2:∀x c,X.env.cells.lookup x=some c→c≠it) (h3:∀p∈X.pn++pins,p.1≠it):Inv X pins σ H { s with heap:=h',toks:=t' }:=by(
have nit:∀b u,H b=some u→b≠it:=λb u e z=>by rw[z,hn]at e;cases e
refine I.step (g':=s.gens) (d':=s.drawn) (ch:=[it]) (λb hb=>?_) (λb o _ _ hc e _=>k b o (λz=>hc (by simp[z])) e) (λb o _ _ hc e _=>⟨o.slots,k b o (λz=>hc (by simp[z])) e⟩) (λ_ _ _ _ n=>n)
 (λb o hc e=>⟨o,k b o (λz=>hc (by simp[z])) e⟩) (λ_ _ e=>e) (λ_ _ _ e=>e) (λb ps e=>⟨#[],by rw[e];simp⟩) (λm hm=>?_) (λb u e=>?_) I.bare
·have e:b=it:=by simpa using hb
 subst e;exact⟨h1,hL,h2,h3⟩
·obtain⟨o,es,ep,ho,r⟩:=hm;exact⟨o,es,ep,k _ o (rG hL) ho,r⟩
refine(I.hok b u e).stay (λc v hc q=>k c v ?_ q) (λ_ q=>q) λ_ _ q=>q
rcases hc with z|z
·rw[z];exact nit b u e
exact nit c _ z)
theorem Inv.tok(I:Inv X pins σ H s)(t:Nat):Inv X pins σ H { s with toks:=t }:=I.un (h':=s.heap) (t':=t) Un.refl I.hok
theorem Inv.kept{t':Nat}(I:Inv X pins σ H s)(k:∀b u,s.heap.get? b=some u→h'.get? b=some u):Inv X pins σ H { s with heap:=h',toks:=t' }:=I.un (Un.kept k) (I.hok.kept k)
theorem Inv.laid{a:Addr}{o:HO}{t':Nat}(I:Inv X pins σ H s)(k:∀b u,s.heap.get? b=some u→h'.get? b=some u)(hp:s.heap.objs.size≤a)(new:jF X.prog X.w (upd H a o) h' a o):
 Inv X pins σ (upd H a o) { s with heap:=h',toks:=t' }:=I.un (Un.laid k hp (I.hok.fresh hp)) (I.hok.laid k hp new)
theorem Inv.write{x e:Addr}{o:HO}{t':Nat}(I:Inv X pins σ H s)(mu:Mut (H x))(he:e=x∨H e=some (.own x))(k:∀b u,b≠e→s.heap.get? b=some u→h'.get? b=some u)(heo:∃u,h'.get? e=some u)
 (new:jF X.prog X.w (upd H x o) h' x o):Inv X pins σ (upd H x o) { s with heap:=h',toks:=t' }:=I.un (Un.write mu he k heo) (I.hok.write mu he k heo new)
theorem Inv.weak{σ':List (Option V)}(I:Inv X pins σ H s)(hl:σ'.length=σ.length)(w:∀(i:Nat) v,σ'[i]?=some (some v)→σ[i]?=some (some v)):Inv X pins σ' H s:=⟨I.ok,I.os,I.bare,I.base,let⟨m,hn,hl'⟩:=I.loc;⟨m,hn,λi x v e1 e2 e3=>hl' i x v e1 (w i v e2) e3⟩,I.cell,I.free,I.freeC,I.pin,I.hok,hl.trans I.len⟩
theorem Inv.pins_of{pins':List (Addr×Obj)}(I:Inv X pins σ H s)(h:∀p∈pins',s.heap.get? p.1=some p.2∧H p.1=none∧p.1≠X.env.locals∧p.1∉X.fs∧∀v,p.2.data≠ .cell v):Inv X pins' σ H s:=⟨I.ok,I.os,I.bare,I.base,I.loc,I.cell,I.free,I.freeC,λp hp=>(mS.mp hp).elim (λz=>I.pin p (mE _ z)) (h p),I.hok,I.len⟩
theorem q6V{N:List Str}(hN:N.Nodup){i j:Nat}{x:Str}(a:N[i]?=some x)(b:N[j]?=some x):i=j:=by obtain⟨h1,e1⟩:=kD.mp a;obtain⟨h2,e2⟩:=kD.mp b;exact(List.getElem_inj hN).mp (e1.trans e2.symm)
theorem q4X{M:Model}{A:Around}{E:Value→Shared→Prop}{i:Nat}{x:Str}{v:V}{u:Value}{Q:Unit→Shared→Prop}(I:Inv X pins σ H s)(hN:X.N.Nodup)(hi:X.N[i]?=some x)(hx:Loc X.env.scope x)(r:RelV v u)
 (h:∀s',Inv X pins (σ.set i (some v)) H s'→(∃a,Heap.SameBut a s.heap s'.heap∧(a=X.env.locals∨X.env.cells.lookup x=some a))→Q () s') (hf:X.fn x=true∨X.env.scope.names.lookup x=some .local:=by first|exact .inl rfl|exact .inr rfl|assumption):wpAny M A (storeName X.env x u) Q E s:=by(
obtain⟨m,hn,hl⟩:=id I.loc
have hcls:(X.env.scope.kind== .class||(X.env.scope.kind== .module&&X.env.locals !=X.env.globals))=false:=by rw[I.ok.kind];rfl
have hiσ:i<σ.length:=by rw[I.len];exact(kD.mp hi).1
have cne:=I.cne
have tracked:∀{a:Addr} {h':Heap},(∃o,s.heap.get? a=some o∧H a=none)→Heap.SameBut a s.heap h'→HOk X.prog X.w H h':=fun {a h'} ha hs b ob e=>by
 obtain⟨_,_,hfree⟩:=ha;refine(I.hok b ob e).stay (λc w' hc q=>(hs.2 c ?_).trans q) (λ_ q=>q) λ_ _ q=>q;rintro rfl
 rcases hc with rfl|hc
 ·rw[hfree]at e;cases e
 rw[hfree]at hc;cases hc
rcases hx with hk|hk
·refine wpAny_storeName_local hk hn (λh' hn' hs=>?_) hcls;obtain⟨oL,_,_,hoL,_⟩:=id hn;refine h _ ⟨I.ok,I.os,I.bare,⟨λb o e n hb hx=>?_,λb o e n hb hx=>?_,I.base.free,λb o e hx=>?_,I.base.tups,I.base.frzs,I.base.tbls⟩,⟨_,hn',λj y v' e1 e2 e3=>?_⟩,λy c e=>?_,I.free,I.freeC,λp hp=>?_,tracked ⟨oL,hoL,I.free⟩ hs,by simpa using I.len⟩ ⟨_,hs,.inl rfl⟩
 ·exact(hs.2 b (kW (kQ (kF e) I.ok.above))).trans (I.base.keep b o e n hb hx)
 ·obtain⟨sl,e1⟩:=I.base.slot b o e n hb hx;exact⟨sl,(hs.2 b (kW (kQ (kF e) I.ok.above))).trans e1⟩
 ·obtain⟨o',e1⟩:=I.base.there b o e hx;exact⟨o',(hs.2 b (kW (kQ (kF e) I.ok.above))).trans e1⟩
 ·by_cases hj:j=i
  ·subst hj;rw[hi]at e1;cases e1;rw[cY hiσ]at e2;cases e2;exact⟨u,r,.inl ⟨hk,by simp⟩⟩
  rw[wO (rG hj)]at e2;obtain⟨u',r',q⟩:=hl j y v' e1 e2 e3;refine⟨u',r',?_⟩;rcases q with⟨k,e⟩|⟨k,c,e,z⟩
  ·refine .inl ⟨k,?_⟩;have:y≠x:=λe=>hj (q6V hN e1 (e▸hi));simp[this,e]
  exact .inr ⟨k,c,e,z.sameBut hs (cne y c e)⟩
 ·obtain⟨w',z⟩:=I.cell y c e;exact⟨w',z.sameBut hs (cne y c e)⟩
 obtain⟨e,n,ne,nf,d⟩:=I.pin p hp;exact⟨(hs.2 p.1 ne).trans e,n,ne,nf,d⟩
have hfn:X.fn x=true:=by
 rcases hf with z|z
 ·exact z
 rw[z]at hk;cases hk
obtain⟨c,hc⟩:=I.ok.has x (.inl hk)
obtain⟨w',z⟩:=I.cell x c hc
refine wpAny_storeName_cell I.ok.kind hk hc z (λh' hc' hs=>?_)
obtain⟨oc,hoc,hocd⟩:=id z
refine h { s with heap:=h' } ⟨I.ok,I.os,I.bare,⟨λb o e n hb hx=>?_,λb o e n hb hx=>?_,I.base.free,λb o e hx=>?_,I.base.tups,I.base.frzs,I.base.tbls⟩,⟨m,hn.sameBut hs (rG (cne x c hc)),λj y v' e1 e2 e3=>?_⟩,λy c' e=>?_,I.free,I.freeC,λp hp=>?_,tracked ⟨oc,hoc,I.freeC x c hc⟩ hs,by simpa using I.len⟩ ⟨c,hs,.inr hc⟩
·exact(hs.2 b (kW (kQ (kF e) (I.ok.cab x c hfn hc)))).trans (I.base.keep b o e n hb hx)
·obtain⟨sl,e1⟩:=I.base.slot b o e n hb hx;exact⟨sl,(hs.2 b (kW (kQ (kF e) (I.ok.cab x c hfn hc)))).trans e1⟩
·obtain⟨o',e1⟩:=I.base.there b o e hx;exact⟨o',(hs.2 b (kW (kQ (kF e) (I.ok.cab x c hfn hc)))).trans e1⟩
·by_cases hj:j=i
 ·subst hj;rw[hi]at e1;cases e1;rw[cY hiσ]at e2;cases e2;exact⟨u,r,.inr ⟨.inl hk,c,hc,hc'⟩⟩
 rw[wO (rG hj)]at e2;obtain⟨u',r',q⟩:=hl j y v' e1 e2 e3;refine⟨u',r',?_⟩;rcases q with q|⟨k,c',e,z'⟩
 ·exact .inl q
 refine .inr ⟨k,c',e,z'.sameBut hs ?_⟩;rintro rfl
 exact hj (q6V hN e1 (I.ok.inj _ _ _ e hc▸hi))
·by_cases hcc:c'=c
 ·subst hcc;exact⟨_,hc'⟩
 obtain⟨w2,z2⟩:=I.cell y c' e;exact⟨w2,z2.sameBut hs hcc⟩
obtain⟨e,n,ne,nf,d⟩:=I.pin p hp
refine⟨(hs.2 p.1 ?_).trans e,n,ne,nf,d⟩
intro q
rw[q,hoc]at e
have q':oc=p.2:=kH e
exact d w' (by rw[←q'];exact hocd))
theorem q6W{M:Model}{A:Around}{E:Value→Shared→Prop}{i:Nat}{x:Str}{v:V}{u:Value}{Q:Unit→Shared→Prop}(I:Inv X pins σ H s)(hN:X.N.Nodup)(hi:X.N[i]?=some x)(hx:Loc X.env.scope x)(r:RelV v u)
 (h:∀s',Inv X pins (σ.set i (some v)) H s'→Q () s') (hf:X.fn x=true∨X.env.scope.names.lookup x=some .local:=by first|exact .inl rfl|exact .inr rfl|assumption):wpAny M A (storeName X.env x u) Q E s:=q4X I hN hi hx r (λs' I' _=>h s' I') hf
theorem Inv.call'{s':Shared}{ch:List Addr}(I:Inv X pins σ H s)(ho:s'.os=s.os)(u:Un (frs X.stack) ch H H' s.heap s'.heap)(hok:HOk X.prog X.w H' s'.heap)(hg:AllBare s'.gens)
 (hch:∀b∈ch,(b∈X.ex∨X.s₀.heap.objs.size≤b)∧b≠X.env.locals∧(∀x c,X.env.cells.lookup x=some c→c≠b)∧∀p∈X.pn++pins,p.1≠b):Inv X pins σ H' s':=by(
obtain⟨h',g',d',t',o'⟩:=s'
have e:o'=s.os:=ho
subst e
exact I.call (g':=g') (t':=t') (d':=d') u hok hg hch)
end
noncomputable abbrev XK:=Value→Option Addr→Hp→Prop
noncomputable abbrev St:=List (Option V)
noncomputable abbrev VK:=V→Hp→Prop
noncomputable abbrev TE:=St→Hp→VK→Prop
noncomputable abbrev TT:=St→Hp→(Bool→Hp→Prop)→Prop
noncomputable abbrev TA:=St→Hp→(List V→Hp→Prop)→Prop
structure Ends where
nx:St→Hp→Prop
rt:VK
bk:St→Hp→Prop:=λ_ _=>False
ct:St→Hp→Prop:=λ_ _=>False
noncomputable abbrev TS:=Ends→St→Hp→Prop
noncomputable def EP(X:Cx)(pins:List (Addr×Obj))(σ:St)(Q:VK)(u:Value)(s':Shared):Prop:=∃v H',Inv X pins σ H' s'∧RelV v u∧Q v H'
noncomputable def TP(X:Cx)(pins:List (Addr×Obj))(σ:St)(Q:Bool→Hp→Prop)(b:Bool)(s':Shared):Prop:=∃H',Inv X pins σ H' s'∧Q b H'
noncomputable def AP(X:Cx)(pins:List (Addr×Obj))(σ:St)(Q:List V→Hp→Prop)(us:List Value)(s':Shared):Prop:=∃vs H',Inv X pins σ H' s'∧Vals vs us∧Q vs H'
noncomputable def SP(X:Cx)(pins:List (Addr×Obj))(D:Ends)(f:Flow)(s':Shared):Prop:=match f with
| .next=>∃σ' H',Inv X pins σ' H' s'∧D.nx σ' H'
| .brk=>∃σ' H',Inv X pins σ' H' s'∧D.bk σ' H'
| .cont=>∃σ' H',Inv X pins σ' H' s'∧D.ct σ' H'
| .ret u=>∃v σ' H',Inv X pins σ' H' s'∧RelV v u∧D.rt v H'
noncomputable def PE(X:Cx)(e:Expr)(t:TE):Prop:=∀(pins:List (Addr×Obj)) (s:Shared) (σ:St) (H:Hp) (Q:VK),Inv X pins σ H s→t σ H Q→wpAny (model X.prog X.w) X.A (eval e X.env) (EP X pins σ Q) X.xe s
noncomputable def PT(X:Cx)(e:Expr)(t:TT):Prop:=∀(pins:List (Addr×Obj)) (s:Shared) (σ:St) (H:Hp) (Q:Bool→Hp→Prop),Inv X pins σ H s→t σ H Q→wpAny (model X.prog X.w) X.A (isTrue e X.env (eval e X.env)) (TP X pins σ Q) X.xe s
noncomputable def PW(X:Cx)(e:Expr)(t:TT):Prop:=∀(whole:Sem Value) (pins:List (Addr×Obj)) (s:Shared) (σ:St) (H:Hp) (Q:Bool→Hp→Prop),Inv X pins σ H s→t σ H Q→wpAny (model X.prog X.w) X.A (isTrue e X.env whole) (TP X pins σ Q) X.xe s
theorem PW.pt{X:Cx}{e:Expr}{t:TT}(h:PW X e t):PT X e t:=h _
noncomputable def PA(X:Cx)(es:List Expr)(t:TA):Prop:=∀(pos:Pos) (pins:List (Addr×Obj)) (s:Shared) (σ:St) (H:Hp) (Q:List V→Hp→Prop),Inv X pins σ H s→t σ H Q→wpAny (model X.prog X.w) X.A (spliced (backTo pos (starEach es X.env))) (AP X pins σ Q) X.xe s
noncomputable def PS(X:Cx)(st:Stmt)(t:TS):Prop:=∀(pins:List (Addr×Obj)) (s:Shared) (σ:St) (H:Hp) (D:Ends),Inv X pins σ H s→t D σ H→wpAny (model X.prog X.w) X.A (exec st X.env) (SP X pins D) X.xe s
noncomputable def PSs(X:Cx)(st:List Stmt)(t:TS):Prop:=∀(pins:List (Addr×Obj)) (s:Shared) (σ:St) (H:Hp) (D:Ends),Inv X pins σ H s→t D σ H→wpAny (model X.prog X.w) X.A (execs st X.env) (SP X pins D) X.xe s
theorem thn{α:Type}{t:Sem α}{Q Q':α→Shared→Prop}{M:Model}{A:Around}{E:Value→Shared→Prop}{s:Shared}(h:wpAny M A t Q E s)(hQ:∀a s,Q a s→Q' a s):wpAny M A t Q' E s:=gB h hQ λ_ _ x=>x
section
variable{X:Cx}
noncomputable def tVar(i:Nat):TE:=λσ H Q=>∃v,σ[i]?=some (some v)∧Q v H
noncomputable def tC(v:V):TE:=λ_ H Q=>Q v H
theorem qDX{i:Nat}{x:Str}{pos:Pos}(hN:X.N[i]?=some x)(hv:Vis X.env.scope x)(hd:(x==("__debug__":Str))=false:=by decide)(hcd:(x==("__classdict__":Str))=false:=by decide):PE X (.Name x pos) (tVar i):=by(
intro pins s σ H Q I h
obtain⟨v,e,h⟩:=h
obtain⟨m,hn,hl⟩:=I.loc
obtain⟨u,r,l⟩:=hl i x v hN e hv
have fin:EP X pins σ Q u s:=⟨v,H,I,r,h⟩
rcases l with⟨hk,hm⟩|⟨hk,c,hc,hcell⟩
·exact nX (wpAny_loadName_local I.ok.kind hk hn hm fin) hd
rcases hk with hk|hk
·exact nX (wpAny_loadName_cell I.ok.kind hk hc hcell fin) hd
exact nX (wpAny_loadName_free I.ok.kind hk hc hcell fin hcd) hd)
theorem qI{i j pos}:PE X (.Constant (.int i) j pos) (tC (.int i)):=λ_ _ _ H _ I h=>wpAny_Constant_int ⟨.int i,H,I.tok _,⟨_,rfl⟩,h⟩
theorem uD{b j pos}:PE X (.Constant (.bool b) j pos) (tC (.bl b)):=λ_ _ _ H _ I h=>Constant_bool ⟨.bl b,H,I,rfl,h⟩
theorem yN{j pos}:PE X (.Constant .none j pos) (tC .non):=λ_ _ _ H _ I h=>Constant_none ⟨.non,H,I,rfl,h⟩
theorem qL{x j pos}:PE X (.Constant (.str x) j pos) (tC (.str x)):=λ_ _ _ H _ I h=>Calls.Constant_str ⟨.str x,H,I.tok _,⟨_,rfl⟩,h⟩
noncomputable def Gl(X:Cx)(x:Str):Prop:=X.env.kindOf x=some .globalImplicit
theorem vK{E:Value→Shared→Prop}{pins:List (Addr×Obj)}{s:Shared}{σ:St}{H:Hp}{x:Str}{u:Value}{pos:Pos}{Q:Value→Shared→Prop}(I:Inv X pins σ H s)(hg:Gl X x)(hm:X.mg x=some u)(h:Q u s)
 (hd:(x==("__debug__":Str))=false:=by decide):wpAny (model X.prog X.w) X.A (eval (.Name x pos) X.env) Q E s:=cE I.ok.kind hg (Calls.loadGlobal_global (by rw[I.ok.glob];exact I.mod.glob.keeps I.bk) hm h) hd
theorem q2G{E:Value→Shared→Prop}{pins:List (Addr×Obj)}{s:Shared}{σ:St}{H:Hp}{x:Str}{u:Value}{pos:Pos}{Q:Value→Shared→Prop}(I:Inv X pins σ H s)(hg:Gl X x)(hm:X.mg x=none)(hv:bootBuiltins x=some u)(h:Q u s)
 (hn:x≠"__name__":=by decide) (hd:(x==("__debug__":Str))=false:=by decide):wpAny (model X.prog X.w) X.A (eval (.Name x pos) X.env) Q E s:=by obtain⟨mb,h1,h2⟩:=I.mod.blt;exact cE I.ok.kind hg (Calls.loadGlobal_builtin (by rw[I.ok.glob];exact I.mod.glob.keeps I.bk) hm (by rw[I.ok.blt];exact h1.keeps I.bk) ((h2 x hn).trans hv) h) hd
theorem yW{x:Str}{v:V}{u:Value}{pos:Pos}(hg:Gl X x)(hm:X.mg x=some u)(r:RelV v u)(hd:(x==("__debug__":Str))=false:=by decide):PE X (.Name x pos) (tC v):=λ_ _ _ H _ I h=>vK I hg hm ⟨v,H,I,r,h⟩ hd
theorem q1X{x:Str}{v:V}{u:Value}{pos:Pos}(hg:Gl X x)(hm:X.mg x=none)(hv:bootBuiltins x=some u)(r:RelV v u)(hn:x≠"__name__":=by decide)(hd:(x==("__debug__":Str))=false:=by decide):PE X (.Name x pos) (tC v):=λ_ _ _ H _ I h=>q2G I hg hm hv ⟨v,H,I,r,h⟩ hn hd
variable{a b:Expr}{ta tb:TE}{pos:Pos}
noncomputable def PC(X:Cx)(op:CmpOp)(a b:Expr)(t:TE):Prop:=∀(pins:List (Addr×Obj)) (s:Shared) (σ:St) (H:Hp) (Q:VK),Inv X pins σ H s→t σ H Q→wpAny (model X.prog X.w) X.A (eval a X.env) (λv s₁=>wpAny (model X.prog X.w) X.A (eval b X.env) (λu s₂=>wpAny (model X.prog X.w) X.A (compareOp op v u) (EP X pins σ Q) X.xe s₂) X.xe s₁) X.xe s
noncomputable def tB(t:TE):TT:=λσ H Q=>t σ H λx H1=>∃c,x=.bl c∧Q c H1
theorem qDY{op:CmpOp}{t:TE}(h:PC X op a b t)(h1:behindInMarks op b=false:=by first|exact nobehind _ (by decide) (by decide)|rfl):PE X (.Compare a [op] [b] pos) t:=λpins s σ H Q I hw=>wpAny_Compare1 (h pins s σ H Q I hw) h1
theorem q2H{op:CmpOp}{t:TE}(h:PC X op a b t)(h1:behindInMarks op b=false:=by first|exact nobehind _ (by decide) (by decide)|rfl):PT X (.Compare a [op] [b] pos) (tB t):=by(
intro pins s σ H Q I hw
refine pG (thn (h pins s σ H _ I hw) λv s1 h1=>thn h1 λu s2 h2=>thn h2 λc s3 hZ=>?_) h1
obtain⟨x,H1,I1,r1,q1⟩:=hZ
obtain⟨d,rfl,q⟩:=q1
cases r1
exact gH ⟨H1,I1,q⟩)
theorem jB{e:Expr}{t:TE}(h:PE X e t)(he:∀whole,isTrue e X.env whole=(do let v←whole;standAt e.pos;holding [v] (truthy v)):=by intro _;rfl):PT X e (tB t):=by(
intro pins s σ H Q I hw
refine isTrue_plain (thn (h pins s σ H _ I hw) λv s1 hZ=>?_) (he _)
obtain⟨x,H1,I1,r1,q1⟩:=hZ
obtain⟨d,rfl,q⟩:=q1
cases r1
exact gH ⟨H1,I1,q⟩)
variable{tA tB':TT}{rest:List Expr}
noncomputable def tAnd(t u:TT):TT:=λσ H Q=>t σ H λc H1=>if c=true then u σ H1 Q else Q false H1
noncomputable def tOr(t u:TT):TT:=λσ H Q=>t σ H λc H1=>if c=true then Q true H1 else u σ H1 Q
noncomputable def tNot(t:TT):TT:=λσ H Q=>t σ H λc H1=>Q (!c) H1
theorem q5N(ha:PT X a tA):PW X (.BoolOp .And [a] pos) tA:=by(
intro wh pins s σ H Q I h
refine isTrue_and (thn (ha pins s σ H Q I h) λc s1 e=>?_)
cases c with
|true=>exact isTrue_and_nil e
|false=>exact e)
theorem zK(ha:PT X a tA):PW X (.BoolOp .Or [a] pos) tA:=by(
intro wh pins s σ H Q I h
refine isTrue_or (thn (ha pins s σ H Q I h) λc s1 e=>?_)
cases c with
|false=>exact isTrue_or_nil e
|true=>exact e)
theorem q7Z(ha:PT X a tA)(hb:PW X (.BoolOp .And (b::rest) pos) tB'):PW X (.BoolOp .And (a::b::rest) pos) (tAnd tA tB'):=by(
intro wh pins s σ H Q I h
refine isTrue_and (thn (ha pins s σ H _ I h) λc s1 hZ=>?_)
obtain⟨H1,I1,q1⟩:=hZ
cases c with
|true=>exact hb wh pins s1 σ H1 Q I1 q1
|false=>exact⟨H1,I1,q1⟩)
theorem zZ(ha:PT X a tA)(hb:PW X (.BoolOp .Or (b::rest) pos) tB'):PW X (.BoolOp .Or (a::b::rest) pos) (tOr tA tB'):=by(
intro wh pins s σ H Q I h
refine isTrue_or (thn (ha pins s σ H _ I h) λc s1 hZ=>?_)
obtain⟨H1,I1,q1⟩:=hZ
cases c with
|true=>exact⟨H1,I1,q1⟩
|false=>exact hb wh pins s1 σ H1 Q I1 q1)
theorem jH(ha:PT X a tA):PT X (.UnaryOp .Not a pos) (tNot tA):=by intro pins s σ H Q I h;exact isTrue_not (ha pins s σ H (λc H1=>Q (!c) H1) I h)
noncomputable def qFQ(ta tb:TE):TE:=λσ H Q=>ta σ H λx H1=>∃c,x=.bl c∧if c=true then tb σ H1 Q else Q (.bl false) H1
noncomputable def tOrV(ta tb:TE):TE:=λσ H Q=>ta σ H λx H1=>∃c,x=.bl c∧if c=true then Q (.bl true) H1 else tb σ H1 Q
noncomputable def qFR(ta:TE):TE:=λσ H Q=>ta σ H λx H1=>∃c,x=.bl c∧Q (.bl (!c)) H1
theorem uO{op}{t:TE}(h:PE X a t):PE X (.BoolOp op [a] pos) t:=λpins s σ H Q I hw=>BoolOp_one (h pins s σ H Q I hw)
theorem vS(ha:PE X a ta)(hb:PE X (.BoolOp .And (b::rest) pos) tb):PE X (.BoolOp .And (a::b::rest) pos) (qFQ ta tb):=by(
intro pins s σ H Q I h
refine BoolOp_and (thn (ha pins s σ H _ I h) λv s1 hZ=>?_)
obtain⟨x,H1,I1,r1,q1⟩:=hZ
obtain⟨c,rfl,q1⟩:=q1
cases r1
refine gH ?_
cases c with
|true=>exact hb pins s1 σ H1 Q I1 q1
|false=>exact⟨.bl false,H1,I1,rfl,q1⟩)
theorem qDK(ha:PE X a ta)(hb:PE X (.BoolOp .Or (b::rest) pos) tb):PE X (.BoolOp .Or (a::b::rest) pos) (tOrV ta tb):=by(
intro pins s σ H Q I h
refine BoolOp_or (thn (ha pins s σ H _ I h) λv s1 hZ=>?_)
obtain⟨x,H1,I1,r1,q1⟩:=hZ
obtain⟨c,rfl,q1⟩:=q1
cases r1
refine gH ?_
cases c with
|false=>exact hb pins s1 σ H1 Q I1 q1
|true=>exact⟨.bl true,H1,I1,rfl,q1⟩)
theorem q80(ha:PE X a ta):PE X (.UnaryOp .Not a pos) (qFR ta):=by(
intro pins s σ H Q I h
refine UnaryOp_ (thn (ha pins s σ H _ I h) λv s1 hZ=>?_)
obtain⟨x,H1,I1,r1,q1⟩:=hZ
obtain⟨c,rfl,q1⟩:=q1
cases r1
exact not_of (gH ⟨.bl (!c),H1,I1,rfl,q1⟩))
noncomputable def tIf(t:TT)(ta tb:TE):TE:=λσ H Q=>t σ H λc H1=>if c=true then ta σ H1 Q else tb σ H1 Q
theorem qAD{c:Expr}(hc:PT X c tA)(ha:PE X a ta)(hb:PE X b tb):PE X (.IfExp c a b pos) (tIf tA ta tb):=by(
intro pins s σ H Q I h
refine wpAny_IfExp (thn (hc pins s σ H _ I h) λd s1 hZ=>?_)
obtain⟨H1,I1,q1⟩:=hZ
cases d with
|true=>exact ha pins s1 σ H1 Q I1 q1
|false=>exact hb pins s1 σ H1 Q I1 q1)
end
noncomputable def SqL(K:PySem.W.Frag)(H:Hp)(a:Addr)(xs:List V):Prop:=Rd H a (.lst xs)∨∃(o:Obj) (its:Array Value) (n:Nat),K.lookup a=some o∧o.cls=.type "list"∧o.dict=none∧o.data=.seq its n∧its.size≤sizeLine∧Vals xs its.toList
noncomputable def SqT(K:PySem.W.Frag)(H:Hp)(a:Addr)(xs:List V):Prop:=Rd H a (.tup xs)∨∃(o:Obj) (its:Array Value) (n:Nat),K.lookup a=some o∧o.cls=.type "tuple"∧o.data=.seq its n∧its.size≤sizeLine∧Vals xs its.toList
noncomputable def absV:Value→Option V
| .none=>some .non
| .bool b=>some (.bl b)
| .int i _=>some (.int i)
| .str x _=>some (.str x)
| .bytes b _=>some (.byt b)
| .float b _=>some (.flt b)
| .ref a=>some (.ref a)
| .type n=>some (.ty n)
|_=>none
theorem RelV.abs{x:V}{u:Value}(r:RelV x u):absV u=some x:=by(
cases x with
|non=>cases r;rfl
|bl _=>cases r;rfl
|int _=>obtain⟨t,rfl⟩:=r;rfl
|str _=>obtain⟨t,rfl⟩:=r;rfl
|byt _=>obtain⟨t,rfl⟩:=r;rfl
|flt _=>obtain⟨t,rfl⟩:=r;rfl
|ref _=>cases r;rfl
|ty _=>cases r;rfl)
theorem RelV.inj{x y:V}{u:Value}(r:RelV x u)(q:RelV y u):x=y:=kH (r.abs.symm.trans q.abs)
theorem Vals.inj{xs ys:List V}{us:List Value}(h:Vals xs us):Vals ys us→xs=ys:=by(
induction h generalizing ys with
|nil=>exact λg=>by cases g;rfl
|cons r t ih=>
 intro g;cases g with
 |cons r' t'=>rw[r.inj r',ih t'])
section
variable{X:Cx}{pins:List (Addr×Obj)}{σ:St}{H:Hp}{s:Shared}{a:Addr}{xs ys:List V}
theorem SqL.of{K:PySem.W.Frag}(h:H a=some (.lst xs)):SqL K H a xs:=.inl (.inl h)
theorem SqT.of{K:PySem.W.Frag}(h:H a=some (.tup xs)):SqT K H a xs:=.inl (.inl h)
theorem Inv.list(I:Inv X pins σ H s)(h:SqL X.K H a xs):∃its:List Value,Vals xs its∧PlainL s.heap a its.toArray∧xs.length≤sizeLine:=by(
rcases h with h|⟨o,its,n,hk,hc,hd,hs,hz,r⟩
·obtain⟨z,its,n,r,e⟩:=h.ok I.hok;exact⟨its,r,⟨_,n,e,rfl,rfl,rfl⟩,z⟩
refine⟨its.toList,r,⟨o,n,I.kIn a o hk,hc,hd,by simpa using hs⟩,?_⟩
have e:=r.length
simp only[mU]at e
omega)
theorem Inv.tuple(I:Inv X pins σ H s)(h:SqT X.K H a xs):∃its:List Value,Vals xs its∧IsTup s.heap a its.toArray∧xs.length≤sizeLine:=by(
rcases h with h|⟨o,its,n,hk,hc,hs,hz,r⟩
·obtain⟨z,its,r,p⟩:=h.ok I.hok;exact⟨its,r,p,z⟩
refine⟨its.toList,r,⟨o,I.kIn a o hk,hc,n,by simpa using hs⟩,?_⟩
have e:=r.length
simp only[mU]at e
omega)
theorem Inv.list_inj(I:Inv X pins σ H s)(h:SqL X.K H a xs)(h':SqL X.K H a ys):xs=ys:=by(
obtain⟨its,r,⟨o,n,e,_,_,d⟩,_⟩:=I.list h
obtain⟨its',r',⟨o',n',e',_,_,d'⟩,_⟩:=I.list h'
rw[e]at e';cases e'
rw[d]at d'
injection d' with d1 _
have:its=its':=by simpa using rD Array.toList d1
subst this
exact r.inj r')
end
noncomputable abbrev Cx.wish(X:Cx)(E:Value→Shared→Prop):Cx:={ X with xe:=E }
noncomputable abbrev Cx.nox(X:Cx):Cx:=X.wish λ_ _=>False
theorem Cx.Ok.wish{X:Cx}(ok:X.Ok)(E:Value→Shared→Prop):(X.wish E).Ok:=⟨ok.mod,ok.kind,ok.glob,ok.blt,ok.above,ok.inj,ok.has,ok.cab,ok.hd,ok.frames,ok.stk,ok.exf,ok.bs,ok.bsz,ok.noex,ok.exfs,ok.funs,ok.frf⟩
theorem Cx.Ok.unwish{X:Cx}{E:Value→Shared→Prop}(ok:(X.wish E).Ok):X.Ok:=⟨ok.mod,ok.kind,ok.glob,ok.blt,ok.above,ok.inj,ok.has,ok.cab,ok.hd,ok.frames,ok.stk,ok.exf,ok.bs,ok.bsz,ok.noex,ok.exfs,ok.funs,ok.frf⟩
section
variable{X:Cx}{pins:List (Addr×Obj)}{σ:St}{H:Hp}{s:Shared}{E:Value→Shared→Prop}
theorem Inv.wish(I:Inv X pins σ H s)(E:Value→Shared→Prop):Inv (X.wish E) pins σ H s:=⟨I.ok.wish E,I.os,I.bare,I.base,I.loc,I.cell,I.free,I.freeC,I.pin,I.hok,I.len⟩
theorem Inv.unwish(I:Inv (X.wish E) pins σ H s):Inv X pins σ H s:=⟨I.ok.unwish,I.os,I.bare,I.base,I.loc,I.cell,I.free,I.freeC,I.pin,I.hok,I.len⟩
theorem SP.unwish{D:Ends}{f:Flow}{s':Shared}(h:SP (X.wish E) pins D f s'):SP X pins D f s':=by(
cases f with
|next=>obtain⟨σ',H',I,q⟩:=h;exact⟨σ',H',I.unwish,q⟩
|brk=>obtain⟨σ',H',I,q⟩:=h;exact⟨σ',H',I.unwish,q⟩
|cont=>obtain⟨σ',H',I,q⟩:=h;exact⟨σ',H',I.unwish,q⟩
|ret u=>obtain⟨v,σ',H',I,r,q⟩:=h;exact⟨v,σ',H',I.unwish,r,q⟩)
theorem PSs.nox{st:List Stmt}{t:TS}(h:PSs X.nox st t):PSs X st t:=λpins s σ H D I hw=>gB (h pins s σ H D (I.wish _) hw) (λ_ _ q=>q.unwish) λ_ _ z=>False.elim z
end
section
variable{X:Cx}{st:Stmt}{rest:List Stmt}{t u:TS}{e:Expr}{te:TE}{pos:Pos}
noncomputable def qFS:TS:=λD σ H=>D.nx σ H
noncomputable def tSeq(t u:TS):TS:=λD σ H=>t { D with nx:=u D } σ H
theorem qR:PSs X [] qFS:=λ_ _ σ H _ I h=>wQ ⟨σ,H,I,h⟩
theorem qC(h1:PS X st t)(h2:PSs X rest u):PSs X (st::rest) (tSeq t u):=by(
intro pins s σ H D I h
refine wpAny_execs_cons (thn (h1 pins s σ H { D with nx:=u D } I h) λf s1 q=>?_)
cases f with
|next=>obtain⟨σ',H',I',q⟩:=q;exact h2 pins s1 σ' H' D I' q
|ret v=>exact q
|brk=>exact q
|cont=>exact q)
theorem qE(h1:PS X st t):PSs X [st] t:=by(
intro pins s σ H D I h
refine wpAny_execs_cons (thn (h1 pins s σ H D I h) λf s1 q=>?_)
cases f with
|next=>exact wQ q
|ret v=>exact q
|brk=>exact q
|cont=>exact q)
theorem Inv.quiet{pins:List (Addr×Obj)}{σ:St}{H:Hp}{s:Shared}(I:Inv X pins σ H s):interactive X.env=false:=by simp[interactive,I.ok.kind]
noncomputable def qFT(te:TE):TS:=λD σ H=>te σ H λ_ H1=>D.nx σ H1
theorem qY(he:PE X e te)(hs:swapsWith e none pos.line X.env=pure false:=by rfl):PS X (.Expr e pos) (qFT te):=by intro pins s σ H D I h;exact wpAny_Expr_any (thn (he pins s σ H _ I h) λv s1 ⟨x,H1,I1,r1,q1⟩=>⟨σ,H1,I1,q1⟩) I.quiet hs
noncomputable def tRet(te:TE):TS:=λD σ H=>te σ H D.rt
theorem qS(he:PE X e te):PS X (.Return (some e) pos) (tRet te):=by intro pins s σ H D I h;exact wpAny_Return_some (thn (he pins s σ H _ I h) λv s1 ⟨x,H1,I1,r1,q1⟩=>⟨x,σ,H1,I1,r1,q1⟩)
noncomputable def tIfS(c:TT)(t u:TS):TS:=λD σ H=>c σ H λb H1=>if b=true then t D σ H1 else u D σ H1
theorem jA{c:Expr}{a b:List Stmt}{tc:TT}(hc:PT X c tc)(ha:PSs X a t)(hb:PSs X b u):PS X (.If c a b pos) (tIfS tc t u):=by(
intro pins s σ H D I h
refine wpAny_If (thn (hc pins s σ H _ I h) λd s1 hZ=>?_)
obtain⟨H1,I1,q1⟩:=hZ
cases d with
|true=>exact ha pins s1 σ H1 D I1 q1
|false=>exact hb pins s1 σ H1 D I1 q1)
noncomputable def qDZ:TS:=λ_ _ _=>False
theorem j9:PS X st qDZ:=λ_ _ _ _ _ _ h=>h.elim
end
noncomputable abbrev TG:=V→St→Hp→(St→Hp→Prop)→Prop
noncomputable abbrev TGs:=List V→St→Hp→(St→Hp→Prop)→Prop
noncomputable def PG(X:Cx)(target:Expr)(t:TG):Prop:=∀(pins:List (Addr×Obj)) (s:Shared) (σ:St) (H:Hp) (v:V) (u:Value) (Q:St→Hp→Prop),Inv X pins σ H s→RelV v u→t v σ H Q→wpAny (model X.prog X.w) X.A (assign target X.env u) (λ_ s'=>∃σ' H',Inv X pins σ' H' s'∧Q σ' H') X.xe s
noncomputable def PGs(X:Cx)(ts:List Expr)(t:TGs):Prop:=∀(pins:List (Addr×Obj)) (s:Shared) (σ:St) (H:Hp) (vs:List V) (us:List Value) (Q:St→Hp→Prop),Inv X pins σ H s→Vals vs us→t vs σ H Q→wpAny (model X.prog X.w) X.A (assignInOrder ((assignEach ts X.env).map (·.2)) us) (λ_ s'=>∃σ' H',Inv X pins σ' H' s'∧Q σ' H') X.xe s
noncomputable abbrev TSet:=V→V→V→Hp→(Hp→Prop)→Prop
noncomputable def PSet(X:Cx)(t:TSet):Prop:=∀(pins:List (Addr×Obj)) (s:Shared) (σ:St) (H:Hp) (o i v:V) (ov iv u:Value) (Q:Hp→Prop),Inv X pins σ H s→RelV o ov→RelV i iv→RelV v u→t o i v H Q→wpAny (model X.prog X.w) X.A (setItem ov iv u) (λ_ s'=>∃H',Inv X pins σ H' s'∧Q H') X.xe s
noncomputable abbrev TIp:=V→V→Hp→VK→Prop
noncomputable def PIp(X:Cx)(op:Operator)(t:TIp):Prop:=∀(pins:List (Addr×Obj)) (s:Shared) (σ:St) (H:Hp) (x y:V) (v u:Value) (Q:VK),Inv X pins σ H s→RelV x v→RelV y u→t x y H Q→wpAny (model X.prog X.w) X.A (inplaceOp op v u) (EP X pins σ Q) X.xe s
section
variable{X:Cx}{pos:Pos}
noncomputable def q6X(i:Nat):TG:=λv σ H Q=>Q (σ.set i (some v)) H
theorem jQ{i:Nat}{x:Str}(hN:X.N.Nodup)(hi:X.N[i]?=some x)(hx:Loc X.env.scope x)(hf:X.fn x=true∨X.env.scope.names.lookup x=some .local:=by first|exact .inl rfl|exact .inr rfl|assumption):PG X (.Name x pos) (q6X i):=by intro pins s σ H v u Q I r h;exact sQ (q6W I hN hi hx r (λs' I'=>⟨_,H,I',h⟩) hf)
noncomputable def gNil:TGs:=λvs σ H Q=>vs=[]∧Q σ H
noncomputable def qFU(t:TG)(u:TGs):TGs:=λvs σ H Q=>∃v r,vs=v::r∧t v σ H λσ' H'=>u r σ' H' Q
theorem q8T:PGs X [] gNil:=by(
intro pins s σ H vs us Q I r h
obtain⟨e,h⟩:=h
subst e
cases r
exact assignInOrder_nil ⟨σ,H,I,h⟩)
theorem q02{e:Expr}{es:List Expr}{t:TG}{u:TGs}(h1:PG X e t)(h2:PGs X es u)
 (hs:(assignEach (e::es) X.env).map (·.2)=assign e X.env::(assignEach es X.env).map (·.2):=by rfl):PGs X (e::es) (qFU t u):=by(
intro pins s σ H vs us Q I r h
obtain⟨v,vr,e1,h⟩:=h
subst e1
cases r with
|cons r rr=>rw[hs];refine assignInOrder_cons (thn (h1 pins s σ H _ _ _ I r h) λ_ s1 hZ=>?_);obtain⟨σ1,H1,I1,q1⟩:=hZ;exact h2 pins s1 σ1 H1 _ _ Q I1 rr q1)
noncomputable def gTup(K:PySem.W.Frag)(n:Nat)(t:TGs):TG:=λv σ H Q=>∃a xs,v=.ref a∧SqT K H a xs∧xs.length=n∧t xs σ H Q
theorem qAE{es:List Expr}{k:Nat}{t:TGs}{n:Nat}(hc:X.calm=true)(h:PGs X es t)
 (hn:(assignEach es X.env).length=n:=by rfl) (hst:(assignEach es X.env).findIdx? (·.1)=none:=by rfl):PG X (.Tuple es k pos) (gTup X.K n t):=by(
intro pins s σ H v u Q I r hw
obtain⟨a,xs,e1,hq,hl,hw⟩:=hw
subst e1
cases r
obtain⟨its,rv,ht,hz⟩:=I.tuple hq
refine assign_Tuple_tuple (I.ok.hd hc) ht (by simp[hn,←hl,rv.length]) hst λh' hx=>?_
have I1:Inv X pins σ H { s with heap:=h' }:=I.kept (t':=s.toks) λb o e=>hx b o (kW (kF e)) e
exact h pins _ σ H xs _ Q I1 (by simpa using rv) hw)
noncomputable def gSub(to ti:TE)(t:TSet):TG:=λv σ H Q=>to σ H λo H1=>ti σ H1 λi H2=>t o i v H2 λH3=>Q σ H3
theorem q5O{o i:Expr}{to ti:TE}{t:TSet}(ho:PE X o to)(hi:PE X i ti)(hs:PSet X t)
 (ha:∀v,assign (.Subscript o i pos) X.env v=(do
  let ov←holding [v] (eval o X.env)
  let iv←holding [v,ov] (eval i X.env)
  standAt pos
  holding [v,ov,iv] (setItem ov iv v)
  release [v,ov,iv] []):=by intro _;rfl):PG X (.Subscript o i pos) (gSub to ti t):=by(
intro pins s σ H v u Q I r h
rw[ha]
refine hI (gO (thn (ho pins s σ H _ I h) λov s1 hZ=>?_))
obtain⟨x,H1,I1,r1,q1⟩:=hZ
refine hI (gO (thn (hi pins s1 σ H1 _ I1 q1) λiv s2 hZ=>?_))
obtain⟨y,H2,I2,r2,q2⟩:=hZ
refine hI (rX (hI (gO (thn (hs pins s2 σ H2 x y v ov iv u _ I2 r1 r2 r q2) λ_ s3 hZ=>?_))))
obtain⟨H3,I3,q3⟩:=hZ
exact wpAny_release ⟨σ,H3,I3,q3⟩)
noncomputable def tAsg(te:TE)(g:TG):TS:=λD σ H=>te σ H λx H1=>g x σ H1 D.nx
theorem q3J{tg e:Expr}{te:TE}{g:TG}(he:PE X e te)(hg:PG X tg g)(hs:swapsWithSole [tg] e pos.line X.env=pure false:=by rfl)(hw:swappedStores [tg] e X.env=pure none:=by rfl)
 (h1:(assignEach [tg] X.env).map (·.2)=[assign tg X.env]:=by rfl):PS X (.Assign [tg] e pos) (tAsg te g):=by(
intro pins s σ H D I h
refine wpAny_Assign_stores (thn (he pins s σ H _ I h) λv s1 hZ=>?_) hs hw
obtain⟨x,H1,I1,r1,q1⟩:=hZ
rw[h1]
exact thn (hg pins s1 σ H1 x v _ I1 r1 q1) λ_ s2 q=>q)
theorem qX{i:Nat}{x:Str}{e:Expr}{te:TE}{pos':Pos}(hN:X.N.Nodup)(hi:X.N[i]?=some x)(hx:Loc X.env.scope x)(he:PE X e te)(hs:swapsWith e (some (.Name x pos')) pos.line X.env=pure false:=by rfl)(hf:X.fn x=true∨X.env.scope.names.lookup x=some .local:=by first|exact .inl rfl|exact .inr rfl|assumption):
 PS X (.Assign [.Name x pos'] e pos) (tAsg te (q6X i)):=by(
intro pins s σ H D I h
refine wpAny_Assign_Name (thn (he pins s σ H _ I h) λv s1 hZ=>?_) hs
obtain⟨y,H1,I1,r1,q1⟩:=hZ
exact q6W I1 hN hi hx r1 (λs2 I2=>⟨_,H1,I2,q1⟩) hf)
noncomputable def qFV(to ti te:TE)(tget:V→V→Hp→VK→Prop)(tip:TIp)(tset:TSet):TS:=λD σ H=>to σ H λo H1=>ti σ H1 λi H2=>tget o i H2 λx H3=>te σ H3 λy H4=>tip x y H4 λz H5=>tset o i z H5 λH6=>D.nx σ H6
noncomputable def PGet(X:Cx)(t:V→V→Hp→VK→Prop):Prop:=∀(pins:List (Addr×Obj)) (s:Shared) (σ:St) (H:Hp) (o i:V) (ov iv:Value) (Q:VK),Inv X pins σ H s→RelV o ov→RelV i iv→t o i H Q→wpAny (model X.prog X.w) X.A (getItem ov iv) (EP X pins σ Q) X.xe s
theorem q3A{o i e:Expr}{to ti te:TE}{tget:V→V→Hp→VK→Prop}{tip:TIp}{tset:TSet}{op:Operator}{tpos:Pos}(ho:PE X o to)(hi:PE X i ti)(hg:PGet X tget)(he:PE X e te)(hp:PIp X op tip)(hs:PSet X tset)
 (ha:∀ov iv new,augStore i ov iv new=(do holding [new,ov,iv] (setItem ov iv new);release [new,ov,iv] [];pure .next):=by intros;rfl):PS X (.AugAssign (.Subscript o i tpos) op e pos) (qFV to ti te tget tip tset):=by(
intro pins s σ H D I h
refine wpAny_AugAssign_SubscriptAny (thn (ho pins s σ H _ I h) λov s1 hZ=>?_) ha
obtain⟨x1,H1,I1,r1,q1⟩:=hZ
refine thn (hi pins s1 σ H1 _ I1 q1) λiv s2 hZ=>?_
obtain⟨x2,H2,I2,r2,q2⟩:=hZ
refine thn (hg pins s2 σ H2 x1 x2 ov iv _ I2 r1 r2 q2) λold s3 hZ=>?_
obtain⟨x3,H3,I3,r3,q3⟩:=hZ
refine thn (he pins s3 σ H3 _ I3 q3) λv s4 hZ=>?_
obtain⟨x4,H4,I4,r4,q4⟩:=hZ
refine thn (hp pins s4 σ H4 x3 x4 old v _ I4 r3 r4 q4) λnew s5 hZ=>?_
obtain⟨x5,H5,I5,r5,q5⟩:=hZ
exact thn (hs pins s5 σ H5 x1 x2 x5 ov iv new _ I5 r1 r2 r5 q5) λ_ s6 ⟨H6,I6,q6⟩=>⟨σ,H6,I6,q6⟩)
noncomputable def ipI(f:Int→Int→Int):TIp:=λx y H Q=>∃i j,x=.int i∧y=.int j∧Q (.int (f i j)) H
theorem q81:PIp X .Add (ipI λi j=>i+j):=by(
intro pins s σ H x y v u Q I r1 r2 h
obtain⟨i,j,e1,e2,q⟩:=h
subst e1;subst e2
obtain⟨t,rfl⟩:=r1
obtain⟨t',rfl⟩:=r2
exact iadd_int ⟨.int _,H,I.tok _,⟨_,rfl⟩,q⟩)
theorem qE0:PIp X .Sub (ipI λi j=>i-j):=by(
intro pins s σ H x y v u Q I r1 r2 h
obtain⟨i,j,e1,e2,q⟩:=h
subst e1;subst e2
obtain⟨t,rfl⟩:=r1
obtain⟨t',rfl⟩:=r2
exact isub_int ⟨.int _,H,I.tok _,⟨_,rfl⟩,q⟩)
end
section
variable{X:Cx}{pos:Pos}
noncomputable def qE1(c:TT)(tb:TS):TS:=λD σ H=>∃W:Nat→St→Hp→Prop,(∃m,W m σ H)∧∀m σ H,W m σ H→c σ H λb H1=>if b=true then ∃N:St→Hp→Prop,(∀σ' H',N σ' H'→∃m',m'<m∧W m' σ' H')∧tb { D with nx:=N,ct:=N,bk:=D.nx } σ H1 else D.nx σ H1
theorem q3K{c:Expr}{body:List Stmt}{tc:TT}{tb:TS}(hp:PassesOwn (model X.prog X.w) X.A X.env X.xe)(hc:PT X c tc)(hb:PSs X body tb):PS X (.While c body [] pos) (qE1 tc tb):=by(
intro pins s σ H D I h
obtain⟨W,⟨m0,w0⟩,turn⟩:=h
refine wpAny_While (codeAny_whileLoop (λn s'=>∃σ' H',Inv X pins σ' H' s'∧W n σ' H') ?_ m0 ⟨σ,H,I,w0⟩)
rintro n s1 ⟨σ1,H1,I1,w1⟩
refine dL hp (thn (hc pins s1 σ1 H1 _ I1 (turn n σ1 H1 w1)) λb s2 hZ=>?_)
obtain⟨H2,I2,q2⟩:=hZ
cases b with
|true=>
 obtain⟨N,hN,q2⟩:=q2;rw[hU rfl];refine dL hp (thn (hb pins s2 σ1 H2 _ I2 q2) λf s3 q3=>?_);cases f with
 |next=>obtain⟨σ3,H3,I3,n3⟩:=q3;obtain⟨m',hm,w3⟩:=hN σ3 H3 n3;exact⟨m',hm,σ3,H3,I3,w3⟩
 |cont=>obtain⟨σ3,H3,I3,n3⟩:=q3;obtain⟨m',hm,w3⟩:=hN σ3 H3 n3;exact⟨m',hm,σ3,H3,I3,w3⟩
 |brk=>exact q3
 |ret v=>exact q3
|false=>rw[hV kC];exact wQ ⟨σ1,H2,I2,q2⟩)
end
structure It where
go:Nat→Hp→Prop
yld:Nat→Hp→V→Hp→Prop
stop:Nat→Hp→Prop
noncomputable def FpOk(X:Cx)(pins:List (Addr×Obj))(H:Hp)(b:Addr):Prop:=H b=none∧b≠X.env.locals∧b∉X.fs∧(b∈X.ex∨X.s₀.heap.objs.size≤b)∧(∀x c,X.env.cells.lookup x=some c→c≠b)∧∀p∈X.pn++pins,p.1≠b
theorem Inv.fpOk{X:Cx}{pins:List (Addr×Obj)}{σ:St}{H H':Hp}{s:Shared}{b:Addr}(I:Inv X pins σ H s)(hb:s.heap.objs.size≤b)(hn:H' b=none):FpOk X pins H' b:=by(
refine⟨hn,dN (kQ I.lt hb),I.nofs hb,.inr (kY I.sz hb),λx c e z=>?_,λp hp z=>?_⟩
·obtain⟨v,q⟩:=I.cell x c e;exact absurd (kQ q.lt (by rw[z];exact hb)) (g9 _)
exact absurd (kQ (kF (I.pin p hp).1) (by rw[z];exact hb)) (g9 _))
structure Turn(P:Program)(w:World)(K:PySem.W.Frag)(tg:Expr)(J:It)(fp:List Addr)(it:Addr)(tn:Nat→Heap→Prop):Prop where
mem:it∈fp
obj:∀i h,tn i h→∀b∈fp,∃o,h.get? b=some o∧∀v,o.data≠ .cell v
keep:∀i h h',tn i h→(∀b∈fp,∀o,h.get? b=some o→h'.get? b=some o)→tn i h'
item:∀(X:Cx),X.prog=P→X.w=w→X.K=K→X.calm=true→∀(i:Nat) (pins:List (Addr×Obj)) (s:Shared) (σ:St) (H:Hp) (E:Value→Shared→Prop),Inv X pins σ H s→(∀b∈fp,FpOk X pins H b)→tn i s.heap→J.go i H→wpAny (model P w) X.A (pyNext (.ref it)) (λr s1=>∃u,r=some u∧wpAny (model P w) X.A (letOwnedTupleGo tg (.ref it) u) (λ_ s2=>∃x H',Inv X pins σ H' s2∧RelV x u∧J.yld i H x H'∧tn (i+1) s2.heap∧∀b∈fp,H' b=none) E s1) E s
done:∀(X:Cx),X.prog=P→X.w=w→X.K=K→X.calm=true→∀(i:Nat) (pins:List (Addr×Obj)) (s:Shared) (σ:St) (H:Hp) (E:Value→Shared→Prop),Inv X pins σ H s→(∀b∈fp,FpOk X pins H b)→tn i s.heap→J.stop i H→wpAny (model P w) X.A (pyNext (.ref it)) (λr s1=>r=none∧Inv X pins σ H s1) E s
self:∀(A:Around) (i:Nat) (s:Shared) (Q:Value→Shared→Prop) (E:Value→Shared→Prop),tn i s.heap→Q (.ref it) s→wpAny (model P w) A (pyIter (.ref it)) Q E s
noncomputable abbrev TI:=St→Hp→(It→Hp→Prop)→Prop
noncomputable def PIE(X:Cx)(pins:List (Addr×Obj))(σ:St)(tg:Expr)(R:It→Hp→Prop)(itv:Value)(s2:Shared):Prop:=∃(it:Addr) (fp:List Addr) (tn:Nat→Heap→Prop) (J:It) (H':Hp),itv=.ref it∧Inv X pins σ H' s2∧Turn X.prog X.w X.K tg J fp it tn∧tn 0 s2.heap∧(∀b∈fp,FpOk X pins H' b)∧R J H'
noncomputable def PI(X:Cx)(tg iter:Expr)(wi:TI):Prop:=∀(pins:List (Addr×Obj)) (s:Shared) (σ:St) (H:Hp) (R:It→Hp→Prop),Inv X pins σ H s→wi σ H R→wpAny (model X.prog X.w) X.A (eval iter X.env) (λv s1=>wpAny (model X.prog X.w) X.A (pyIter v) (PIE X pins σ tg R) X.xe s1) X.xe s
theorem q8U{M:Model}{A:Around}{E:Value→Shared→Prop}{s:Shared}{tg:Expr}{it:Addr}{u:Value}{o:Obj}{n:String}{vs:Array Value}{Q:Unit→Shared→Prop}(ho:s.heap.get? it=some o)(hc:o.cls=.type n)(hd:o.data=.fields vs)
 (hn:["enumerate","zip","dict_itemiterator","dict_reverseitemiterator","odict_iterator","itertools.zip_longest","itertools.pairwise"].contains n=false) (hQ:Q () s):wpAny M A (letOwnedTupleGo tg (.ref it) u) Q E s:=by(
unfold letOwnedTupleGo
cases tg<;>first
 |exact kJ hQ
 |(cases u<;>first
  |exact kJ hQ
  |(refine hI (wpAny_load ho ?_)
    rw[hc,hd];show wpAny M A (if(["enumerate","zip","dict_itemiterator","dict_reverseitemiterator","odict_iterator","itertools.zip_longest","itertools.pairwise"].contains n&&vs[0]?==some (rawInt _))=true then _ else _) Q E s;rw[hV (by intro h;rw[hn,Bool.false_and]at h;cases h)];exact kJ hQ)))
noncomputable def Itl(K:PySem.W.Frag)(a:Addr):It:=⟨λi H=>∃xs x,SqL K H a xs∧xs[i]?=some x,λi H x H'=>H'=H∧∀xs,SqL K H a xs→xs[i]?=some x,λi H=>∃xs,SqL K H a xs∧xs.length≤i⟩
noncomputable def Itr(lo:Int)(n:Nat):It:=⟨λi _=>i<n,λi H x H'=>H'=H∧x=.int (lo+i),λi _=>n≤i⟩
theorem q9G{P:Program}{w:World}{K:PySem.W.Frag}{tg:Expr}(a it:Addr):Turn P w K tg (Itl K a) [it] it (λi h=>h.IsListIter it a i) where
mem:=by simp
obj:=λi h st b hb=>by
 have e:b=it:=by simpa using hb
 subst e;obtain⟨o,e,c,d⟩:=st;exact⟨o,e,λv z=>by rw[d]at z;cases z⟩
keep:=λi h h' st k=>st.at λo e=>k it (by simp) o e
item:=by intro X hP hw hK hc i pins s σ H E I hf st hg;subst hP hw hK;obtain⟨xs,x,hq,hx⟩:=hg;obtain⟨its,rv,p,hz⟩:=I.list hq;obtain⟨u,hu,ru⟩:=rv.get hx;obtain⟨f0,f1,f2,f3,f4,f5⟩:=hf it (by simp);refine wpAny_pyNext_list_item st p.isList (x:=u) (by simpa using hu) λh' st' sb=>?_;have I1:Inv X pins σ H { s with heap:=h' }:=I.turned (t':=s.toks) (λb o hb e=>(sb.2 b hb).trans e) f0 f1 f3 f4 f5;obtain⟨o,e,c,d⟩:=id st';exact⟨u,rfl,q8U (s:={ s with heap:=h' }) e c d (by decide) ⟨x,H,I1,ru,⟨rfl,λys hy=>by rw[I.list_inj hy hq];exact hx⟩,st',λb hb=>(hf b hb).1⟩⟩
done:=by intro X hP hw hK hc i pins s σ H E I hf st hg;subst hP hw hK;obtain⟨xs,hq,hx⟩:=hg;obtain⟨its,rv,p,hz⟩:=I.list hq;obtain⟨f0,f1,f2,f3,f4,f5⟩:=hf it (by simp);have hl:=rv.length;exact wpAny_pyNext_list_end (I.ok.hd hc) st p.isList (by simp;omega) λh' eb=>⟨rfl,I.turned (t':=s.toks) (λb o hb e=>eb b o hb e) f0 f1 f3 f4 f5⟩
self:=λ_ _ _ _ _ st h=>wpAny_pyIter_listiter st h
theorem q3L{P:Program}{w:World}{K:PySem.W.Frag}{tg:Expr}(it:Addr)(lo:Int)(n:Nat):Turn P w K tg (Itr lo n) [it] it (λi h=>IsRangeIter h it (lo+(i:Nat)*1) ((n:Int)-(i:Nat)) 1) where
mem:=by simp
obj:=λi h st b hb=>by
 have e:b=it:=by simpa using hb
 subst e;exact⟨_,st,λv z=>by have z':Data.fields _=Data.cell v:=z;cases z'⟩
keep:=λi h h' st k=>k it (by simp) _ st
item:=by intro X hP hw hK hc i pins s σ H E I hf st hg;subst hP hw hK;obtain⟨f0,f1,f2,f3,f4,f5⟩:=hf it (by simp);have W:=Walks.range (prog:=X.prog) (w:=X.w) (I.ok.hd hc) it lo 1 n;refine W.item i s _ _ hg st λv h' tk hv st' kk=>?_;obtain⟨t,rfl⟩:=hv;have I1:Inv X pins σ H { s with heap:=h',toks:=tk }:=I.turned (λb o hb e=>kk b o (by simpa using hb) e) f0 f1 f3 f4 f5;refine⟨_,rfl,q8U (s:={ s with heap:=h',toks:=tk }) (n:="range_iterator") st' rfl rfl (by decide) ⟨.int (lo+i),H,I1,⟨t,?_⟩,⟨rfl,rfl⟩,st',λb hb=>(hf b hb).1⟩⟩;rw[Int.mul_one]
done:=by intro X hP hw hK hc i pins s σ H E I hf st hg;subst hP hw hK;obtain⟨f0,f1,f2,f3,f4,f5⟩:=hf it (by simp);exact cZ (I.ok.hd hc) st (by have:n≤i:=hg;omega) λh' eb=>⟨rfl,I.turned (t':=s.toks) (λb o hb e=>eb b o hb e) f0 f1 f3 f4 f5⟩
self:=λ_ _ _ _ _ st h=>wpAny_pyIter_rangeiter st h
section
variable{X:Cx}{tg:Expr}
noncomputable def qFW(K:PySem.W.Frag)(tl:TE):TI:=λσ H R=>tl σ H λx H1=>∃a,x=.ref a∧(∃xs,SqL K H1 a xs)∧R (Itl K a) H1
theorem uZ{l:Expr}{tl:TE}(hl:PE X l tl):PI X tg l (qFW X.K tl):=by(
intro pins s σ H R I h
refine thn (hl pins s σ H _ I h) λv s1 hZ=>?_
obtain⟨x,H1,I1,r1,q1⟩:=hZ
obtain⟨a,e,⟨xs,hq⟩,q⟩:=q1
subst e
cases r1
obtain⟨its,rv,p,hz⟩:=I1.list hq
refine wpAny_pyIter_list p.isList ?_
refine⟨s1.heap.objs.size,[s1.heap.objs.size],_,_,H1,rfl,I1.kept (t':=s1.toks) λb o e=>hR _ e,q9G a _,⟨_,kU _ rfl,rfl,rfl⟩,λb hb=>?_,q⟩
have e:b=s1.heap.objs.size:=by simpa using hb
subst e
exact I1.fpOk (kB _) (I1.hok.fresh (kB _)))
theorem qAF{pins:List (Addr×Obj)}{σ:St}{H:Hp}{s:Shared}{R:It→Hp→Prop}{E:Value→Shared→Prop}{lo hi:Int}{t u v:Tok}{tk:Nat}(I:Inv X pins σ H s)(h1:-(2 ^ 62)≤lo)(h2:lo<2 ^ 62)(h3:-(2 ^ 62)≤hi)(h4:hi<2 ^ 62)
 (q:R (Itr lo (hi-lo).toNat) H):wpAny (model X.prog X.w) X.A (pyIter (.ref s.heap.objs.size)) (PIE X pins σ tg R) E { s with heap:=s.heap.push { cls:=.type "range",data:=.fields #[.int lo t,.int hi u,.int 1 v] },toks:=tk }:=by(
refine sD (lP ..) (small_one h1 h2 h3 h4) ?_
have I1:Inv X pins σ H { s with heap:=s.heap.push { cls:=.type "range",data:=.fields #[.int lo t,.int hi u,.int 1 v] },toks:=tk }:=I.kept λb o e=>hR _ e
refine⟨(s.heap.push { cls:=.type "range",data:=.fields #[.int lo t,.int hi u,.int 1 v] }).objs.size,[(s.heap.push { cls:=.type "range",data:=.fields #[.int lo t,.int hi u,.int 1 v] }).objs.size],_,_,H,rfl,I1.kept (t':=tk) λb o e=>hR _ e,q3L _ lo (hi-lo).toNat,?_,λb hb=>?_,q⟩
·have e1:lo+((0:Nat):Int)*1=lo:=by simp
 have e2:(((hi-lo).toNat:Nat):Int)-((0:Nat):Int)=Builtin.Range.rangeSize lo hi 1:=by rw[rangeSize_one];split<;>omega
 show IsRangeIter _ _ (lo+((0:Nat):Int)*1) ((((hi-lo).toNat:Nat):Int)-((0:Nat):Int)) 1;rw[e1,e2];exact kU _ rfl
have e:b=(s.heap.push { cls:=.type "range",data:=.fields #[.int lo t,.int hi u,.int 1 v] }).objs.size:=by simpa using hb
subst e
exact I1.fpOk (kB _) (I1.hok.fresh (kB _)))
noncomputable def qDL(ta:TA):TI:=λσ H R=>ta σ H λvs H1=>∃j:Int,vs=[.int j]∧-(2 ^ 62)≤j∧j<2 ^ 62∧R (Itr 0 j.toNat) H1
theorem q0U{a:Expr}{ta:TA}{p pos:Pos}(hg:Gl X "range")(hm:X.mg "range"=none)(ha:PA X [a] ta)(hs:starEach [a] X.env=[(false,eval a X.env)]:=by rfl):PI X tg (.Call (.Name "range" p) [a] [] pos) (qDL ta):=by(
intro pins s σ H R I h
refine Call_ (q2G I hg hm boot_range (rH (thn (ha pos pins s σ H _ I h) λus s1 hZ=>?_) hs rfl))
obtain⟨vs,H1,I1,r1,q1⟩:=hZ
obtain⟨j,e,q1,q2,q⟩:=q1
subst e
cases r1 with
|cons r rr=>cases rr;obtain⟨t,rfl⟩:=r;exact call_range_1 (qAF I1 (by omega) (by omega) q1 q2 (by simpa using q)))
noncomputable def tFor(wi:TI)(g:TG)(tb:TS):TS:=λD σ H=>wi σ H λJ H1=>∃W:Nat→Nat→St→Hp→Prop,(∃m,W 0 m σ H1)∧∀i m σ H,W i m σ H→(J.stop i H∧D.nx σ H)∨(J.go i H∧∃N:St→Hp→Prop,(∀σ' H',N σ' H'→∃m',m'<m∧W (i+1) m' σ' H')∧∀x H',J.yld i H x H'→g x σ H' λσ2 H2=>tb { D with nx:=N,ct:=N,bk:=D.nx } σ2 H2)
noncomputable def q3M(fp:List Addr)(h:Heap):List (Addr×Obj):=fp.filterMap λb=>(h.get? b).map λo=>(b,o)
theorem uE{fp:List Addr}{h:Heap}{b:Addr}{o:Obj}(hb:b∈fp)(e:h.get? b=some o):(b,o)∈q3M fp h:=r9.mpr ⟨b,hb,by rw[e];rfl⟩
theorem q9H{fp:List Addr}{h:Heap}{p:Addr×Obj}(hp:p∈q3M fp h):p.1∈fp∧h.get? p.1=some p.2:=by(
obtain⟨b,hb,e⟩:=r9.mp hp
cases q:h.get? b with
|none=>rw[q]at e;cases e
|some o=>rw[q]at e;have e':(b,o)=p:=kH e;subst e';exact⟨hb,q⟩)
theorem Inv.pinned{pins:List (Addr×Obj)}{σ:St}{H:Hp}{s:Shared}{fp:List Addr}(I:Inv X pins σ H s)(hf:∀b∈fp,FpOk X pins H b)(ho:∀b∈fp,∃o,s.heap.get? b=some o∧∀v,o.data≠ .cell v):Inv X (pins++q3M fp s.heap) σ H s:=I.pins_of λp hp=>(mS.mp hp).elim (λz=>I.pin p (kP _ z)) λz=>by  obtain⟨hb,e⟩:=q9H z;obtain⟨f0,f1,f2,_⟩:=hf p.1 hb;obtain⟨o,e',d⟩:=ho p.1 hb;rw[e]at e';cases e';exact⟨e,f0,f1,f2,d⟩
theorem Inv.unpinned{pins pl:List (Addr×Obj)}{σ:St}{H:Hp}{s:Shared}(I:Inv X (pins++pl) σ H s):Inv X pins σ H s:=I.pins_of λp hp=>I.pin p (kP _ (mE _ hp))
theorem vT{iter:Expr}{body:List Stmt}{wi:TI}{g:TG}{tb:TS}{pos:Pos}(hp:PassesOwn (model X.prog X.w) X.A X.env X.xe)(hc:X.calm=true)(hi:PI X tg iter wi)(hg:PG X tg g)(hb:PSs X body tb)
 (hs:∀x,foldedSetIterable iter X.env x=pure x:=by intro _;rfl):PS X (.For tg iter body [] pos) (tFor wi g tb):=by(
intro pins s σ H D I h
refine wpAny_For (thn (hi pins s σ H _ I h) λv s1 h1=>thn h1 λitv s2 h2=>?_) hs
obtain⟨it,fp,tn,J,H2,e,I2,T,st2,f2,W,⟨m0,w0⟩,turn⟩:=h2
subst e
have stat:∀{H':Hp},(∀b∈fp,H' b=none)→∀b∈fp,FpOk X pins H' b:=λhn b hb=>⟨hn b hb,(f2 b hb).2⟩
refine codeAny_forLoop_any (λn s'=>∃i σ' H',Inv X pins σ' H' s'∧tn i s'.heap∧(∀b∈fp,H' b=none)∧W i n σ' H') ?_ m0 ⟨0,σ,H2,I2,st2,λb hb=>(f2 b hb).1,w0⟩
rintro n s3 ⟨i,σ3,H3,I3,st3,fr3,w3⟩
rcases turn i n σ3 H3 w3 with⟨stop,qn⟩|⟨go,N,hN,step⟩
·refine dL hp (thn (T.done X rfl rfl rfl hc i pins s3 σ3 H3 X.xe I3 (stat fr3) st3 stop) λr s4 hZ=>?_);obtain⟨hr,I4⟩:=hZ;subst hr;exact wQ ⟨σ3,H3,I4,qn⟩
refine dL hp (thn (T.item X rfl rfl rfl hc i pins s3 σ3 H3 X.xe I3 (stat fr3) st3 go) λr s4 hZ=>?_)
obtain⟨u,hr,h4⟩:=hZ
subst hr
refine dL hp (thn h4 λ_ s5 hZ=>?_)
obtain⟨x,H5,I5,r5,y5,st5,fr5⟩:=hZ
have I5':=I5.pinned (stat fr5) (T.obj _ _ st5)
refine dL hp (thn (hg _ s5 σ3 H5 x u _ I5' r5 (step x H5 y5)) λ_ s6 hZ=>?_)
obtain⟨σ6,H6,I6,q6⟩:=hZ
refine dL hp (thn (hb _ s6 σ6 H6 _ I6 q6) λf s7 q7=>?_)
have again:∀{σ7:St} {H7:Hp},Inv X (pins++q3M fp s5.heap) σ7 H7 s7→N σ7 H7→∃m,m<n∧∃i σ' H',Inv X pins σ' H' s7∧tn i s7.heap∧(∀b∈fp,H' b=none)∧W i m σ' H':=fun {σ7 H7} I7 n7=>by obtain⟨m',hm,w7⟩:=hN σ7 H7 n7;refine⟨m',hm,i+1,σ7,H7,I7.unpinned,T.keep _ _ _ st5 λb hb o e=>(I7.pin (b,o) (kP _ (kP _ (uE hb e)))).1,λb hb=>?_,w7⟩;obtain⟨o,e,d⟩:=T.obj _ _ st5 b hb;exact(I7.pin (b,o) (kP _ (kP _ (uE hb e)))).2.1
cases f with
|next=>obtain⟨σ7,H7,I7,n7⟩:=q7;exact again I7 n7
|cont=>obtain⟨σ7,H7,I7,n7⟩:=q7;exact again I7 n7
|brk=>obtain⟨σ7,H7,I7,q7⟩:=q7;exact⟨σ7,H7,I7.unpinned,q7⟩
|ret v=>obtain⟨x7,σ7,H7,I7,r7,q7⟩:=q7;exact⟨x7,σ7,H7,I7.unpinned,r7,q7⟩)
end
theorem zF{K:PySem.W.Frag}{a:Addr}{xs:List V}{g:TG}{tb:TS}{D:Ends}{σ:St}{H:Hp}(Pv:Nat→St→Hp→Prop)(h0:Pv 0 σ H)(hl:∀i σ H,i≤xs.length→Pv i σ H→SqL K H a xs)
 (hs:∀i x σ H,xs[i]?=some x→Pv i σ H→g x σ H λσ2 H2=>tb { D with nx:=Pv (i+1),ct:=Pv (i+1),bk:=D.nx } σ2 H2) (hd:∀σ H,Pv xs.length σ H→D.nx σ H):
 ∃W:Nat→Nat→St→Hp→Prop,(∃m,W 0 m σ H)∧∀i m σ H,W i m σ H→((Itl K a).stop i H∧D.nx σ H)∨((Itl K a).go i H∧∃N:St→Hp→Prop,(∀σ' H',N σ' H'→∃m',m'<m∧W (i+1) m' σ' H')∧∀x H',(Itl K a).yld i H x H'→g x σ H' λσ2 H2=>tb { D with nx:=N,ct:=N,bk:=D.nx } σ2 H2):=by(
refine⟨λi m σ H=>m=xs.length-i∧i≤xs.length∧Pv i σ H,⟨xs.length,by simp,mO _,h0⟩,?_⟩
rintro i m σ H ⟨rfl,hi,p⟩
have q:=hl i σ H hi p
by_cases hlt:i<xs.length
·refine .inr ⟨⟨xs,xs[i],q,by simp[hlt]⟩,Pv (i+1),λσ' H' p'=>⟨xs.length-(i+1),by omega,rfl,hlt,p'⟩,λx H' y=>?_⟩;obtain⟨e,y⟩:=y;subst e;exact hs i x σ _ (y xs q) p
have e:i=xs.length:=by omega
subst e
exact .inl ⟨⟨xs,q,kB _⟩,hd σ H p⟩)
theorem q4Y{lo:Int}{n:Nat}{g:TG}{tb:TS}{D:Ends}{σ:St}{H:Hp}(Pv:Nat→St→Hp→Prop)(h0:Pv 0 σ H)
 (hs:∀i σ H,i<n→Pv i σ H→g (.int (lo+i)) σ H λσ2 H2=>tb { D with nx:=Pv (i+1),ct:=Pv (i+1),bk:=D.nx } σ2 H2) (hd:∀σ H,Pv n σ H→D.nx σ H):
 ∃W:Nat→Nat→St→Hp→Prop,(∃m,W 0 m σ H)∧∀i m σ H,W i m σ H→((Itr lo n).stop i H∧D.nx σ H)∨((Itr lo n).go i H∧∃N:St→Hp→Prop,(∀σ' H',N σ' H'→∃m',m'<m∧W (i+1) m' σ' H')∧∀x H',(Itr lo n).yld i H x H'→g x σ H' λσ2 H2=>tb { D with nx:=N,ct:=N,bk:=D.nx } σ2 H2):=by(
refine⟨λi m σ H=>m=n-i∧i≤n∧Pv i σ H,⟨n,by simp,mO _,h0⟩,?_⟩
rintro i m σ H ⟨rfl,hi,p⟩
by_cases hlt:i<n
·refine .inr ⟨hlt,Pv (i+1),λσ' H' p'=>⟨n-(i+1),by omega,rfl,hlt,p'⟩,λx H' y=>?_⟩;obtain⟨e,y⟩:=y;subst e y;exact hs i σ _ hlt p
have e:i=n:=by omega
subst e
exact .inl ⟨kB _,hd σ H p⟩)
noncomputable abbrev R2:=V→V→Hp→VK→Prop
noncomputable def OpR(X:Cx)(f:Value→Value→Sem Value)(r:R2):Prop:=∀(pins:List (Addr×Obj)) (s:Shared) (σ:St) (H:Hp) (x y:V) (v u:Value) (Q:VK),Inv X pins σ H s→RelV x v→RelV y u→r x y H Q→wpAny (model X.prog X.w) X.A (f v u) (EP X pins σ Q) X.xe s
noncomputable def UnR(X:Cx)(f:Value→Sem Value)(r:V→Hp→VK→Prop):Prop:=∀(pins:List (Addr×Obj)) (s:Shared) (σ:St) (H:Hp) (x:V) (v:Value) (Q:VK),Inv X pins σ H s→RelV x v→r x H Q→wpAny (model X.prog X.w) X.A (f v) (EP X pins σ Q) X.xe s
noncomputable def q1Y(X:Cx)(f:Value)(r:List V→Hp→VK→Prop):Prop:=∀(pins:List (Addr×Obj)) (s:Shared) (σ:St) (H:Hp) (xs:List V) (us:List Value) (Q:VK),Inv X pins σ H s→Vals xs us→r xs H Q→wpAny (model X.prog X.w) X.A (call f us) (EP X pins σ Q) X.xe s
noncomputable def tOp(r:R2)(ta tb:TE):TE:=λσ H Q=>ta σ H λx H1=>tb σ H1 λy H2=>r x y H2 Q
noncomputable def tUn(r:V→Hp→VK→Prop)(ta:TE):TE:=λσ H Q=>ta σ H λx H1=>r x H1 Q
noncomputable def rI(C:Int→Int→Prop)(g:Int→Int→V):R2:=λx y H Q=>∃i j,x=.int i∧y=.int j∧C i j∧Q (g i j) H
noncomputable def rI0(g:Int→Int→V):R2:=λx y H Q=>∃i j,x=.int i∧y=.int j∧Q (g i j) H
noncomputable def rU(g:Int→V):V→Hp→VK→Prop:=λx H Q=>∃i,x=.int i∧Q (g i) H
section
variable{X:Cx}{a b c:Expr}{ta tb tc:TE}{pos:Pos}
theorem binT(ha:PE X a ta)(hb:PE X b tb){pins:List (Addr×Obj)}{s:Shared}{σ:St}{H:Hp}{R:V→V→Hp→Prop}(I:Inv X pins σ H s)
 (h:ta σ H λx H1=>tb σ H1 λy H2=>R x y H2) {Q:Value→Shared→Prop} {f:Value→Value→Sem Value}
 (hf:∀v u s2 x y H2,Inv X pins σ H2 s2→RelV x v→RelV y u→R x y H2→wpAny (model X.prog X.w) X.A (f v u) Q X.xe s2):
 wpAny (model X.prog X.w) X.A (eval a X.env) (λv s₁=>wpAny (model X.prog X.w) X.A (eval b X.env) (λu s₂=>wpAny (model X.prog X.w) X.A (f v u) Q X.xe s₂) X.xe s₁) X.xe s:=by(
refine thn (ha pins s σ H _ I h) λv s1 hZ=>?_
obtain⟨x,H1,I1,r1,q1⟩:=hZ
refine thn (hb pins s1 σ H1 _ I1 q1) λu s2 hZ=>?_
obtain⟨y,H2,I2,r2,q2⟩:=hZ
exact hf v u s2 x y H2 I2 r1 r2 q2)
theorem qN{op:Operator}{r:R2}(ho:OpR X (binaryOp op) r)(ha:PE X a ta)(hb:PE X b tb):PE X (.BinOp a op b pos) (tOp r ta tb):=by intro pins s σ H Q I h;exact wpAny_BinOp (binT ha hb I h λv u s2 x y H2 I2 rx ry q=>ho pins s2 σ H2 x y v u Q I2 rx ry q)
theorem qDM{op:UnaryOp}{r:V→Hp→VK→Prop}(ho:UnR X (unaryOp op) r)(ha:PE X a ta):PE X (.UnaryOp op a pos) (tUn r ta):=by intro pins s σ H Q I h;exact UnaryOp_ (thn (ha pins s σ H _ I h) λv s1 ⟨x,H1,I1,r1,q1⟩=>ho pins s1 σ H1 x v Q I1 r1 q1)
theorem opI{f:Value→Value→Sem Value}{C:Int→Int→Prop}{g:Int→Int→Int}
 (rule:∀(i j:Int) (t u:Tok) (s:Shared) (Q:Value→Shared→Prop) (E:Value→Shared→Prop),C i j→Q (.int (g i j) s.toks) { s with toks:=s.toks+1 }→wpAny (model X.prog X.w) X.A (f (.int i t) (.int j u)) Q E s):
 OpR X f (rI C λi j=>.int (g i j)):=by(
intro pins s σ H x y v u Q I rx ry h
obtain⟨i,j,rfl,rfl,hc,q⟩:=h
obtain⟨t,rfl⟩:=rx
obtain⟨t',rfl⟩:=ry
exact rule i j t t' s _ _ hc ⟨.int (g i j),H,I.tok _,⟨_,rfl⟩,q⟩)
theorem opI0{f:Value→Value→Sem Value}{g:Int→Int→Int}
 (rule:∀(i j:Int) (t u:Tok) (s:Shared) (Q:Value→Shared→Prop) (E:Value→Shared→Prop),Q (.int (g i j) s.toks) { s with toks:=s.toks+1 }→wpAny (model X.prog X.w) X.A (f (.int i t) (.int j u)) Q E s):
 OpR X f (rI0 λi j=>.int (g i j)):=by(
intro pins s σ H x y v u Q I rx ry h
obtain⟨i,j,rfl,rfl,q⟩:=h
obtain⟨t,rfl⟩:=rx
obtain⟨t',rfl⟩:=ry
exact rule i j t t' s _ _ ⟨.int (g i j),H,I.tok _,⟨_,rfl⟩,q⟩)
theorem opB0{f:Value→Value→Sem Value}{g:Int→Int→Bool}
 (rule:∀(i j:Int) (t u:Tok) (s:Shared) (Q:Value→Shared→Prop) (E:Value→Shared→Prop),Q (.bool (g i j)) s→wpAny (model X.prog X.w) X.A (f (.int i t) (.int j u)) Q E s):
 OpR X f (rI0 λi j=>.bl (g i j)):=by(
intro pins s σ H x y v u Q I rx ry h
obtain⟨i,j,rfl,rfl,q⟩:=h
obtain⟨t,rfl⟩:=rx
obtain⟨t',rfl⟩:=ry
exact rule i j t t' s _ _ ⟨.bl (g i j),H,I,rfl,q⟩)
noncomputable def CDiv(i j:Int):Prop:=0<j∧j<1073741824
noncomputable def CPow(i j:Int):Prop:=0≤j∧j≤1000000∧i.natAbs<2 ^ 64
noncomputable def CMul(i j:Int):Prop:=(-(2 ^ 64)<i∧i<2 ^ 64)∨(-(2 ^ 64)<j∧j<2 ^ 64)
theorem CMul.ok{i j:Int}(h:CMul i j):IntMulOk i j:=by(
rcases h with⟨h1,h2⟩|⟨h1,h2⟩
·exact .of_left (intBits_le_64 h1 h2)
exact .of_right (intBits_le_64 h1 h2))
theorem jM:OpR X (binaryOp .Add) (rI0 λi j=>.int (i+j)):=opI0 λ_ _ _ _ _ _ _ q=>add_int q
theorem y9:OpR X (binaryOp .Sub) (rI0 λi j=>.int (i-j)):=opI0 λ_ _ _ _ _ _ _ q=>sub_int q
theorem yD:OpR X (binaryOp .Mult) (rI CMul λi j=>.int (i*j)):=opI λ_ _ _ _ _ _ _ hc q=>mul_int q hc.ok
theorem yX:OpR X (binaryOp .FloorDiv) (rI CDiv λi j=>.int (i / j)):=opI λi j _ _ _ _ _ hc q=>by have h1:(0:Int)<j:=hc.1;have h2:j<1073741824:=hc.2;exact floordiv_int (by omega) (by rw[Int.fdiv_eq_ediv_of_nonneg i (by omega)];exact q) (.inl (PyProof.noPylong_small (by omega)))
theorem yI:OpR X (binaryOp .Mod) (rI (λ_ j=>0<j) λi j=>.int (i%j)):=opI λi j _ _ _ _ _ hc q=>by have h1:(0:Int)<j:=hc;exact mod_int' (by omega) (by rw[Int.fmod_eq_emod_of_nonneg i (by omega)];exact q)
theorem qAG:OpR X (binaryOp .Pow) (rI CPow λi j=>.int (i ^ j.toNat)):=opI λ_ _ _ _ _ _ _ hc q=>pow_int_small hc.1 hc.2.1 hc.2.2 q
theorem qE2:OpR X (binaryOp .LShift) (rI CPow λi j=>.int (i*2 ^ j.toNat)):=opI λ_ _ _ _ _ _ _ hc q=>lshift_int_small hc.1 hc.2.1 hc.2.2 q
theorem qFX:OpR X (binaryOp .BitOr) (rI0 λi j=>.int (Builtin.bitOr i j)):=opI0 λ_ _ _ _ _ _ _ q=>or_int q
theorem unI{f:Value→Sem Value}{g:Int→Int}
 (rule:∀(i:Int) (t:Tok) (s:Shared) (Q:Value→Shared→Prop) (E:Value→Shared→Prop),Q (.int (g i) s.toks) { s with toks:=s.toks+1 }→wpAny (model X.prog X.w) X.A (f (.int i t)) Q E s):
 UnR X f (rU λi=>.int (g i)):=by(
intro pins s σ H x v Q I rx h
obtain⟨i,rfl,q⟩:=h
obtain⟨t,rfl⟩:=rx
exact rule i t s _ _ ⟨.int (g i),H,I.tok _,⟨_,rfl⟩,q⟩)
theorem qAH:UnR X (unaryOp .USub) (rU λi=>.int (-i)):=unI λ_ _ _ _ _ q=>neg_int q
end
noncomputable def scal:V→V→Bool
| .non,.non=>true| .non,.int _=>true| .int _,.non=>true| .non,.bl _=>true| .bl _,.non=>true| .non,.str _=>true| .str _,.non=>true
| .int _,.int _=>true| .bl _,.bl _=>true| .str _,.str _=>true| .byt _,.byt _=>true
| .int _,.str _=>true| .str _,.int _=>true| .bl _,.str _=>true| .str _,.bl _=>true
|_,_=>false
noncomputable def rEq:R2:=λx y H Q=>scal x y=true∧Q (.bl (decide (x=y))) H
noncomputable def rNe:R2:=λx y H Q=>scal x y=true∧Q (.bl (!decide (x=y))) H
theorem q8V{i j:Int}:decide (V.int i=V.int j)=(i==j):=by rw[rZ];simp
theorem qAI{i j:Bool}:decide (V.bl i=V.bl j)=(i==j):=by rw[rZ];simp
theorem q8W{i j:Str}:decide (V.str i=V.str j)=(i==j):=by rw[rZ];simp
theorem q8X{i j:Array UInt8}:decide (V.byt i=V.byt j)=(i.toList==j.toList):=by(
rw[rZ]
cases i
cases j
simp)
section
variable{X:Cx}{a b c:Expr}{ta tb tc:TE}{pos:Pos}
theorem jC{pins:List (Addr×Obj)}{σ:St}{H:Hp}{s:Shared}{Q:VK}{k k':Bool}(I:Inv X pins σ H s)(q:Q (.bl k) H)(e:k=k'):EP X pins σ Q (.bool k') s:=by subst e;exact⟨.bl k,H,I,rfl,q⟩
theorem q00:OpR X (compareOp .Eq) rEq:=by(
intro pins s σ H x y v u Q I rx ry h
obtain⟨hs,q⟩:=h
cases x with
|non=>
 cases rx;cases y with
 |non=>cases ry;exact PySem.EqNone.eq_none_none (jC I q (by simp))
 |bl j=>cases ry;exact PySem.EqNone.eq_none_bool (jC I q (by simp))
 |int j=>obtain⟨t',rfl⟩:=ry;exact PySem.EqNone.eq_none_int (jC I q (by simp))
 |str j=>obtain⟨t',rfl⟩:=ry;exact PySem.EqNone.eq_none_str (jC I q (by simp))
 |_=>exact absurd (show false=true from hs) kC
|bl i=>
 cases rx;cases y with
 |non=>cases ry;exact PySem.EqNone.eq_bool_none (jC I q (by simp))
 |bl j=>cases ry;exact eq_bool (jC I q qAI)
 |str j=>obtain⟨t',rfl⟩:=ry;exact lB (jC I q (by simp))
 |_=>exact absurd (show false=true from hs) kC
|int i=>
 obtain⟨t,rfl⟩:=rx;cases y with
 |non=>cases ry;exact PySem.EqNone.eq_int_none (jC I q (by simp))
 |int j=>obtain⟨t',rfl⟩:=ry;exact eq_int (jC I q q8V)
 |str j=>obtain⟨t',rfl⟩:=ry;exact lG (jC I q (by simp))
 |_=>exact absurd (show false=true from hs) kC
|str i=>
 obtain⟨t,rfl⟩:=rx;cases y with
 |non=>cases ry;exact PySem.EqNone.eq_str_none (jC I q (by simp))
 |bl j=>cases ry;exact lC (jC I q (by simp))
 |int j=>obtain⟨t',rfl⟩:=ry;exact lI (jC I q (by simp))
 |str j=>obtain⟨t',rfl⟩:=ry;exact eq_str (jC I q q8W)
 |_=>exact absurd (show false=true from hs) kC
|byt i=>
 obtain⟨t,rfl⟩:=rx;cases y with
 |byt j=>obtain⟨t',rfl⟩:=ry;exact PySem.W.eq_bytes (jC I q q8X)
 |_=>exact absurd (show false=true from hs) kC
|_=>cases y<;>exact absurd (show false=true from hs) kC)
theorem q1Z:OpR X (compareOp .NotEq) rNe:=by(
intro pins s σ H x y v u Q I rx ry h
obtain⟨hs,q⟩:=h
cases x with
|non=>
 cases rx;cases y with
 |non=>cases ry;exact PySem.EqNone.ne_none_none (jC I q (by simp))
 |bl j=>cases ry;exact PySem.EqNone.ne_none_bool (jC I q (by simp))
 |int j=>obtain⟨t',rfl⟩:=ry;exact PySem.EqNone.ne_none_int (jC I q (by simp))
 |str j=>obtain⟨t',rfl⟩:=ry;exact PySem.EqNone.ne_none_str (jC I q (by simp))
 |_=>exact absurd (show false=true from hs) kC
|bl i=>
 cases rx;cases y with
 |non=>cases ry;exact PySem.EqNone.ne_bool_none (jC I q (by simp))
 |bl j=>cases ry;exact ne_bool (jC I q (rD not qAI))
 |str j=>obtain⟨t',rfl⟩:=ry;exact lD (jC I q (by simp))
 |_=>exact absurd (show false=true from hs) kC
|int i=>
 obtain⟨t,rfl⟩:=rx;cases y with
 |non=>cases ry;exact PySem.EqNone.ne_int_none (jC I q (by simp))
 |int j=>obtain⟨t',rfl⟩:=ry;exact ne_int (jC I q (rD not q8V))
 |str j=>obtain⟨t',rfl⟩:=ry;exact lJ (jC I q (by simp))
 |_=>exact absurd (show false=true from hs) kC
|str i=>
 obtain⟨t,rfl⟩:=rx;cases y with
 |non=>cases ry;exact PySem.EqNone.ne_str_none (jC I q (by simp))
 |bl j=>cases ry;exact lE (jC I q (by simp))
 |int j=>obtain⟨t',rfl⟩:=ry;exact lK (jC I q (by simp))
 |str j=>obtain⟨t',rfl⟩:=ry;exact ne_str (jC I q (rD not q8W))
 |_=>exact absurd (show false=true from hs) kC
|byt i=>
 obtain⟨t,rfl⟩:=rx;cases y with
 |byt j=>obtain⟨t',rfl⟩:=ry;exact PySem.W.ne_bytes (jC I q (rD not q8X))
 |_=>exact absurd (show false=true from hs) kC
|_=>cases y<;>exact absurd (show false=true from hs) kC)
theorem q8Y:OpR X (compareOp .Lt) (rI0 λi j=>.bl (decide (i<j))):=opB0 λ_ _ _ _ _ _ _ q=>lt_int q
theorem qDN:OpR X (compareOp .LtE) (rI0 λi j=>.bl (decide (i≤j))):=opB0 λ_ _ _ _ _ _ _ q=>le_int q
theorem qDO:OpR X (compareOp .Gt) (rI0 λi j=>.bl (decide (j<i))):=opB0 λ_ _ _ _ _ _ _ q=>gt_int q
theorem qAJ:OpR X (compareOp .GtE) (rI0 λi j=>.bl (decide (j≤i))):=opB0 λ_ _ _ _ _ _ _ q=>ge_int q
theorem q82:OpR X (compareOp .Is) (λx y H Q=>y=.non∧Q (.bl (decide (x=.non))) H):=by(
intro pins s σ H x y v u Q I rx ry h
obtain⟨rfl,q⟩:=h
cases ry
refine is_none_gen (jC I q ?_)
cases x<;>first
 |(cases rx;rfl)
 |(obtain⟨t,rfl⟩:=rx;rfl))
theorem q20:OpR X (compareOp .IsNot) (λx y H Q=>y=.non∧Q (.bl (!decide (x=.non))) H):=by(
intro pins s σ H x y v u Q I rx ry h
obtain⟨rfl,q⟩:=h
cases ry
refine isnot_none_gen (jC I q ?_)
cases x<;>first
 |(cases rx;rfl)
 |(obtain⟨t,rfl⟩:=rx;rfl))
theorem j8(b:Expr){op:CmpOp}(h:op≠ .In:=by decide)(h2:op≠ .NotIn:=by decide):behindInMarks op b=false:=by(
have e1:(op==CmpOp.In)=false:=by cases op<;>first|rfl|exact absurd rfl h
have e2:(op==CmpOp.NotIn)=false:=by cases op<;>first|rfl|exact absurd rfl h2
cases b<;>simp[behindInMarks,e1,e2])
theorem yM{op:CmpOp}{r:R2}(ho:OpR X (compareOp op) r)(ha:PE X a ta)(hb:PE X b tb)(hm:behindInMarks op b=false):PE X (.Compare a [op] [b] pos) (tOp r ta tb):=by intro pins s σ H Q I h;exact wpAny_Compare1 (binT ha hb I h λv u s2 x y H2 I2 rx ry q=>ho pins s2 σ H2 x y v u Q I2 rx ry q) hm
noncomputable def qDP(t:TE):TT:=λσ H Q=>t σ H λx H'=>∃k,x=.bl k∧Q k H'
theorem qZ{op:CmpOp}{r:R2}(ho:OpR X (compareOp op) r)(ha:PE X a ta)(hb:PE X b tb)(hm:behindInMarks op b=false):PT X (.Compare a [op] [b] pos) (qDP (tOp r ta tb)):=by(
intro pins s σ H Q I h
refine pG (thn (ha pins s σ H _ I h) λv s1 ⟨x,H1,I1,r1,q1⟩=>thn (hb pins s1 σ H1 _ I1 q1) λu s2 ⟨y,H2,I2,r2,q2⟩=>thn (ho pins s2 σ H2 x y v u _ I2 r1 r2 q2) λc s3 ⟨z,H3,I3,r3,k,e,q3⟩=>?_) hm
subst e
cases r3
exact gH ⟨H3,I3,q3⟩)
noncomputable def qAK(r r':R2)(ta tb tc:TE):TE:=λσ H Q=>ta σ H λx H1=>tb σ H1 λy H2=>r x y H2 λz H3=>∃k,z=.bl k∧(if k=true then tc σ H3 λw' H4=>r' y w' H4 Q else Q (.bl false) H3)
theorem qAL{op op':CmpOp}{r r':R2}(ho:OpR X (compareOp op) r)(ho':OpR X (compareOp op') r')(ha:PE X a ta)(hb:PE X b tb)(hc:PE X c tc)
 (hm:lastMarks [op,op'] [b,c]=false:=by with_unfolding_all rfl):PE X (.Compare a [op,op'] [b,c] pos) (qAK r r' ta tb tc):=by(
intro pins s σ H Q I h
refine Compare_chain (thn (ha pins s σ H _ I h) λv s1 ⟨x,H1,I1,r1,q1⟩=>chain_link (thn (hb pins s1 σ H1 _ I1 q1) λu s2 ⟨y,H2,I2,r2,q2⟩=>thn (ho pins s2 σ H2 x y v u _ I2 r1 r2 q2) λd s3 ⟨z,H3,I3,r3,k,e,q3⟩=>?_)) hm
subst e
cases r3
refine gH ?_
cases k with
|false=>exact ite_ff ⟨.bl false,H3,I3,rfl,q3⟩
|true=>exact ite_tt (chain_last (thn (hc pins s3 σ H3 _ I3 q3) λw' s4 ⟨z',H4,I4,r4,q4⟩=>ho' pins s4 σ H4 y z' u w' Q I4 r2 r4 q4)))
theorem qAM{op op':CmpOp}{r r':R2}(ho:OpR X (compareOp op) r)(ho':OpR X (compareOp op') r')(ha:PE X a ta)(hb:PE X b tb)(hc:PE X c tc)
 (hm:lastMarks [op,op'] [b,c]=false:=by with_unfolding_all rfl):PT X (.Compare a [op,op'] [b,c] pos) (qDP (qAK r r' ta tb tc)):=by(
intro pins s σ H Q I h
refine isTrue_chain (thn (ha pins s σ H _ I h) λv s1 ⟨x,H1,I1,r1,q1⟩=>test_link (thn (hb pins s1 σ H1 _ I1 q1) λu s2 ⟨y,H2,I2,r2,q2⟩=>thn (ho pins s2 σ H2 x y v u _ I2 r1 r2 q2) λd s3 ⟨z,H3,I3,r3,k,e,q3⟩=>?_)) hm
subst e
cases r3
refine gH ?_
cases k with
|false=>obtain⟨k',e',q'⟩:=q3;cases e';exact ite_ff ⟨H3,I3,q'⟩
|true=>refine ite_tt (test_last (thn (hc pins s3 σ H3 _ I3 q3) λw' s4 ⟨z',H4,I4,r4,q4⟩=>thn (ho' pins s4 σ H4 y z' u w' _ I4 r2 r4 q4) λd' s5 hZ=>?_));obtain⟨z2,H5,I5,r5,k2,e2,q5⟩:=hZ;subst e2;cases r5;exact gH ⟨H5,I5,q5⟩)
theorem q3N:(sizeLine:Nat)<2 ^ 63:=by rw[mT];decide
theorem q3O{x:V}{us:List Value}(r:Vals [x] us):∃u,us=[u]∧RelV x u:=by
 cases r with
 |cons r1 r2=>cases r2;exact⟨_,rfl,r1⟩
theorem qAN{x y:V}{us:List Value}(r:Vals [x,y] us):∃u w',us=[u,w']∧RelV x u∧RelV y w':=by(
cases r with
|cons r1 r2=>
 cases r2 with
 |cons r3 r4=>cases r4;exact⟨_,_,rfl,r1,r3⟩)
theorem q9I(hc:X.calm=true):q1Y X (.builtin "min") (λxs H Q=>∃i j,xs=[.int i,.int j]∧Q (.int (if j<i then j else i)) H):=by(
intro pins s σ H xs us Q I r h
obtain⟨i,j,rfl,q⟩:=h
obtain⟨u,w',rfl,⟨t,rfl⟩,⟨t',rfl⟩⟩:=qAN r
refine min_two_ints (I.ok.hd hc) λh' tk k=>⟨_,H,I.kept k,?_,q⟩
by_cases hj:j<i
·rw[hU hj,hU hj];exact⟨_,rfl⟩
rw[hV hj,hV hj];exact⟨_,rfl⟩)
end
structure ObjM(h:Heap)(x dx C:Addr)(mA:Str→Option Value):Prop where
obj:h.get? x=some (PySem.W.instObj C dx)
ns:h.Ns1 dx mA
ne:dx≠x
theorem q4Z{h:Heap}{dx:Addr}{mA:Str→Option Value}(n:h.Ns1 dx mA):∃od,h.get? dx=some od∧∀name,PySem.W.lookIn name od=some (mA name):=by(
obtain⟨o,es,ep,ho,hd,hk,_,hm⟩:=n
refine⟨o,ho,λname=>?_⟩
have e:=hm name
unfold nsFind findBy at e
rw[←sE]at e
unfold PySem.W.lookIn
rw[hd]
dsimp only
split
·rename_i y q;rw[q]at e;exact rD some e
rename_i q
rw[q]at e
have a:es.toList.any (·.refKey)=false:=by rw[List.any_eq_false];intro y hy;obtain⟨z,t,hkey⟩:=hk y (Array.mem_toList_iff.mp hy);simp[DictEntry.refKey,hkey]
have a':¬es.toList.any (·.refKey)=true:=by rw[a];exact kC
rw[hV a']
exact rD some e)
theorem ObjM.look{h:Heap}{x dx C:Addr}{mA:Str→Option Value}(I:ObjM h x dx C mA):∃od,PySem.W.InstAt h x (PySem.W.instObj C dx) C (some od)∧∀name,PySem.W.lookIn name od=some (mA name):=let⟨od,ho,hl⟩:=q4Z I.ns
 ⟨od,⟨I.obj,rfl,rfl,ho⟩,hl⟩
section
variable{prog:Program}{w:World}{A:Around}{E:Value→Shared→Prop}{s:Shared}{K:PySem.W.Frag}{x dx C f:Addr}{mA:Str→Option Value}{name:Str}{v:Value}
theorem qC2{expr:Bool}{Q:Value→Shared→Prop}(X:K.In s.heap)(I:ObjM s.heap x dx C mA)(hg:PySem.W.plainGet K C name=true)(hh:PySem.W.hasDictIn K C=true)
 (ha:PySem.W.findIn K (.ref C) name=some none) (hv:mA name=some v) (hv':PySem.W.handedIn v=true) (h:Q v { s with toks:=s.toks+1 }):
 wpAny (model prog w) A (getAttr (.ref x) name expr) Q E s:=by obtain⟨od,J,hl⟩:=I.look;exact PySem.W.get_value X J (wU hg).1 (PySem.W.findObj_own hh ha rfl (by rw[hl,hv])) hv' h
theorem qAO{pl:Sem Bool}{Q:Value×List Value→Shared→Prop}(X:K.In s.heap)(I:ObjM s.heap x dx C mA)(hg:PySem.W.plainGet K C name=true)
 (hf:PySem.W.findIn K (.ref C) name=some (some (.ref f))) (ht:PySem.W.isFn K (.ref f)=true) (hv:mA name=none) (h:Q (.ref f,[.ref x]) s):
 wpAny (model prog w) A (getMethod (.ref x) name pl) Q E s:=by obtain⟨od,J,hl⟩:=I.look;exact PySem.W.method_fn X J (wU hg).1 (wU hg).2 hf (mF.mp ht) (by show(PySem.W.lookIn name od).map (·.isSome)=some false;rw[hl,hv];rfl) h
theorem qC3{ns:List Str}{Q:Unit→Shared→Prop}(X:K.In s.heap)(I:ObjM s.heap x dx C mA)
 (hs:PySem.W.findIn K (.ref C) "__setattr__"=some (some (.builtin "object.__setattr__"))) (hp:PySem.W.plainOver K C=true) (ht:PySem.W.takerIn K C name=some none) (hh:PySem.W.hasDictIn K C=true)
 (hw:PySem.Within mA ns) (hsz:ns.length≤sizeLine)
 (h:∀h',ObjM h' x dx C (λy=>if y=name then some v else mA y)→Heap.SameBut dx s.heap h'→Q () { s with heap:=h',toks:=s.toks+2 }):
 wpAny (model prog w) A (setAttr (.ref x) name v) Q E s:=by(
obtain⟨od,J,hl⟩:=I.look
refine sR X J hs (PySem.W.osa_open (s:={ s with toks:=s.toks+1 }) (r:=none) X J hp ht λb=>?_)
obtain⟨cd,hc,hd'⟩:=dW hh
have hx:s.heap.get? x=some ⟨.ref C,some dx,.plain,#[]⟩:=I.obj
refine hI (kJ (hI (hI (pM hx (hI (sF (s:={ s with toks:=s.toks+1 }) (wV X hc) ?_))))))
rw[hd']
refine kJ (a:=some dx) (hI (kJ (hI ?_)))
refine wpAny_nsSet1 (s:={ s with toks:=s.toks+1 }) I.ns λh' hn2 hs2=>?_
obtain⟨oD,esD,epD,hoD,hdD,hcD⟩:=hn2.count (PySem.Within.cons name v hw)
refine hI (wpAny_lookBehind hoD (by rw[hdD];exact pastItsLine_dict (kY hcD (by rw[kX];omega))) ?_)
exact kJ (h _ ⟨(hs2.2 _ (rG I.ne)).trans I.obj,hn2,I.ne⟩ hs2))
theorem qAP{R:Result→Shared→Prop}{vs:List Value}{kw:List (Str×Value)}(X:K.In s.heap)(hm:PySem.W.makesIn K C=true)
 (hi:PySem.W.findIn K (.ref C) "__init__"=some (some (.ref f))) (hf:PySem.W.typeIn K (.ref f)=some (.type "function"))
 (h:codeAny (model prog w) (A.under (.builtin "type.__call__" ⟨.ref C::vs,kw⟩)) (.call (.ref f) ⟨.ref (s.heap.objs.size+1)::vs,kw⟩) (PySem.W.InitBack (s.heap.objs.size+1) R)
  { s with heap:=(s.heap.push PySem.W.emptyDict).push (PySem.W.instObj C s.heap.objs.size) }):
 codeAny (model prog w) A (.call (.ref C) ⟨vs,kw⟩) R s:=by obtain⟨hh,g,d,t,os⟩:=s;exact sS (nJ X hm) (dO X hi) (λself=>PySem.W.bind_fn X self hf) (.inl rfl) h
end
noncomputable def putF(f:Str)(v:V):List (Str×V)→List (Str×V)
| []=>[(f,v)]
|(g,x)::r=>if g=f then(g,v)::r else(g,x)::putF f v r
theorem q2R(f g:Str)(v:V):∀fs:List (Str×V),(putF f v fs).lookup g=if g=f then some v else fs.lookup g
| []=>by
 show List.lookup g [(f,v)]=_;by_cases h:g=f
 ·have hb:(g==f)=true:=mF.mpr h;simp only[List.lookup,hb,hU h]
 have hb:(g==f)=false:=g0.mpr h;simp only[List.lookup,hb,hV h]
|(k,x)::r=>by
 have ih:=q2R f g v r;rw[show putF f v ((k,x)::r)=(if k=f then(k,v)::r else(k,x)::putF f v r)from rfl];by_cases hk:k=f
 ·rw[hU hk];by_cases h:g=k
  ·have hb:(g==k)=true:=mF.mpr h;simp only[List.lookup,hb,hU (h.trans hk)]
  have hb:(g==k)=false:=g0.mpr h;simp only[List.lookup,hb,hV (λe:g=f=>h (e.trans hk.symm))]
 rw[hV hk];by_cases h:g=k
 ·have hb:(g==k)=true:=mF.mpr h;simp only[List.lookup,hb,hV (λe:g=f=>hk (h.symm.trans e))]
 have hb:(g==k)=false:=g0.mpr h;simp only[List.lookup,hb];exact ih
theorem q2I(f:Str)(v:V):∀fs:List (Str×V),f∈(putF f v fs).map (·.1)∧∀g,g∈fs.map (·.1)→g∈(putF f v fs).map (·.1)
| []=>⟨by simp[putF],λg h=>by simp at h⟩
|(k,x)::r=>by
 obtain⟨i1,i2⟩:=q2I f v r;rw[show putF f v ((k,x)::r)=(if k=f then(k,v)::r else(k,x)::putF f v r)from rfl];by_cases hk:k=f
 ·rw[hU hk];subst hk;exact⟨by simp,λg h=>by simpa using h⟩
 rw[hV hk];refine⟨?_,λg h=>?_⟩
 ·rw[k7];exact h9 _ i1
 rw[k7]at h ⊢;rcases kG.mp h with e|e
 ·exact kG.mpr (.inl e)
 exact h9 _ (i2 g e)
theorem q2S(f:Str)(v:V):∀fs:List (Str×V),(putF f v fs).length≤fs.length+1
| []=>by simp[putF]
|(k,x)::r=>by
 have ih:=q2S f v r;rw[show putF f v ((k,x)::r)=(if k=f then(k,v)::r else(k,x)::putF f v r)from rfl];by_cases hk:k=f
 ·rw[hU hk,kX,kX];omega
 rw[hV hk,kX,kX];omega
theorem RelO.some_of{v:V}{o:Option Value}(r:RelO (some v) o):∃u,o=some u∧RelV v u:=by(
cases o with
|none=>exact(show False from r).elim
|some u=>exact⟨u,rfl,r⟩)
theorem RelO.none_of{o:Option Value}(r:RelO none o):o=none:=by(
cases o with
|none=>rfl
|some u=>exact(show False from r).elim)
theorem q9J{v:V}{u:Value}(r:RelV v u):PySem.W.handedIn u=true:=by(
cases v with
|non=>cases(show u=Value.none from r);rfl
|bl b=>cases(show u=Value.bool b from r);rfl
|int i=>obtain⟨t,e⟩:=(show ∃t,u=Value.int i t from r);cases e;rfl
|str x=>obtain⟨t,e⟩:=(show ∃t,u=Value.str x t from r);cases e;rfl
|byt b=>obtain⟨t,e⟩:=(show ∃t,u=Value.bytes b t from r);cases e;rfl
|flt b=>obtain⟨t,e⟩:=(show ∃t,u=Value.float b t from r);cases e;rfl
|ref a=>cases(show u=Value.ref a from r);rfl
|ty n=>cases(show u=Value.type n from r);rfl)
section
variable{P:Program}{w:World}{H H':Hp}{h h':Heap}{a C dx:Addr}{fs fs':List (Str×V)}
theorem q3B(hok:HOk P w H h)(e:H a=some (.ins C dx fs)):∃mA,ObjM h a dx C mA∧(∀f,RelO (fs.lookup f) (mA f))∧PySem.Within mA (fs.map (·.1))∧fs.length≤1000∧H dx=some (.own a):=by obtain⟨d,z,ne,ob,mA,n,r,q⟩:=(show jF P w H h a (.ins C dx fs)from hok a _ e);exact⟨mA,⟨ob,n,ne⟩,r,q,z,d⟩
end
structure Cls(K:PySem.W.Frag)(C:Addr):Prop where
pg:PySem.W.plainGet K C Str.empty=true
hd:PySem.W.hasDictIn K C=true
po:PySem.W.plainOver K C=true
sa:PySem.W.findIn K (.ref C) "__setattr__"=some (some (.builtin "object.__setattr__"))
theorem Cls.get{K:PySem.W.Frag}{C:Addr}(c:Cls K C)(f:Str):PySem.W.plainGet K C f=true:=c.pg
noncomputable def qO(K:PySem.W.Frag)(C:Addr)(f:Str):Prop:=PySem.W.findIn K (.ref C) f=some none
theorem qO.taker{K:PySem.W.Frag}{C:Addr}{f:Str}(n:qO K C f):PySem.W.takerIn K C f=some none:=by unfold PySem.W.takerIn;rw[show PySem.W.findIn K (.ref C) f=some none from n];rfl
structure Meth(K:PySem.W.Frag)(C:Addr)(m:Str)(f:Addr):Prop where
at_:PySem.W.findIn K (.ref C) m=some (some (.ref f))
fn:PySem.W.isFn K (.ref f)=true
kp:PySem.W.keepIn K (.ref f)=true
section
variable{X:Cx}{pins:List (Addr×Obj)}{σ:St}{H:Hp}{s:Shared}{a C dx:Addr}{fs:List (Str×V)}{f:Str}{v:V}{A:Around}{E:Value→Shared→Prop}
theorem q3P{b:Bool}{Q:Value→Shared→Prop}(I:Inv X pins σ H s)(e:H a=some (.ins C dx fs))(c:Cls X.K C)(n:qO X.K C f)(l:fs.lookup f=some v)
 (h:∀u s',Inv X pins σ H s'→RelV v u→Q u s'):wpAny (model X.prog X.w) A (getAttr (.ref a) f b) Q E s:=by obtain⟨mA,O,r,_,_,_⟩:=q3B I.hok e;obtain⟨u,hu,ru⟩:=RelO.some_of (v:=v) (o:=mA f) (by rw[←l];exact r f);exact qC2 I.kIn O (c.get f) c.hd n hu (q9J ru) (h u _ (I.tok _) ru)
theorem v8{m:Str}{g:Addr}{pl:Sem Bool}{Q:Value×List Value→Shared→Prop}(I:Inv X pins σ H s)(e:H a=some (.ins C dx fs))(c:Cls X.K C)(k:Meth X.K C m g)(l:fs.lookup m=none)
 (h:Q (.ref g,[.ref a]) s):wpAny (model X.prog X.w) A (getMethod (.ref a) m pl) Q E s:=by obtain⟨mA,O,r,_,_,_⟩:=q3B I.hok e;have hn:mA m=none:=RelO.none_of (by rw[←l];exact r m);exact qAO I.kIn O (c.get m) k.at_ k.fn hn h
theorem q3Q{y:V}{u:Value}{Q:Unit→Shared→Prop}(I:Inv X pins σ H s)(e:H a=some (.ins C dx fs))(c:Cls X.K C)(n:qO X.K C f)(hl:fs.length<1000)(ry:RelV y u)
 (h:∀s',Inv X pins σ (upd H a (.ins C dx (putF f y fs))) s'→Q () s'):wpAny (model X.prog X.w) A (setAttr (.ref a) f u) Q E s:=by(
obtain⟨mA,O,r,wi,_,ho⟩:=q3B I.hok e
have hz:(fs.map (·.1)).length≤sizeLine:=by rw[h8,mT];omega
refine qC3 I.kIn O c.sa c.po n.taker c.hd wi hz λh' O' sb=>h _ ?_
have hd:∃o,h'.get? dx=some o:=let⟨o,_,_,e',_⟩:=O'.ns;⟨o,e'⟩
refine I.write (x:=a) (e:=dx) (by rw[e];exact True.intro) (.inr ho) (λb q hb z=>(sb.2 b hb).trans z) hd ?_
refine⟨by rw[qD O.ne];exact ho,?_,O.ne,O'.obj,_,O'.ns,λg=>?_,λg hg=>?_⟩
·have:=q2S f y fs;omega
·show RelO ((putF f y fs).lookup g) (if g=f then some u else mA g);rw[q2R];by_cases q:g=f
 ·rw[hU q,hU q];exact ry
 rw[hV q,hV q];exact r g
by_cases q:g=f
·rw[q];exact(q2I f y fs).1
refine(q2I f y fs).2 g (wi g λz=>hg ?_)
show(if g=f then some u else mA g)=none
rw[hV q];exact z)
theorem Inv.made(I:Inv X pins σ H s):Inv X pins σ (upd (upd H s.heap.objs.size (.own (s.heap.objs.size+1))) (s.heap.objs.size+1) (.ins C s.heap.objs.size []))
 { s with heap:=(s.heap.push PySem.W.emptyDict).push (PySem.W.instObj C s.heap.objs.size) }:=by(
have e1:(s.heap.push PySem.W.emptyDict).get? s.heap.objs.size=some PySem.W.emptyDict:=kU s.heap rfl
have e2:((s.heap.push PySem.W.emptyDict).push (PySem.W.instObj C s.heap.objs.size)).get? (s.heap.objs.size+1)=some (PySem.W.instObj C s.heap.objs.size):=by have:=kU (s.heap.push PySem.W.emptyDict) (o:=PySem.W.instObj C s.heap.objs.size) rfl;rwa [rM]at this
have e3:(s.heap.push PySem.W.emptyDict).Ns s.heap.objs.size (λ_=>none):=⟨PySem.W.emptyDict,#[],_,e1,rfl,(λe he=>absurd he (by simp)),λ_=>rfl⟩
have I1:=I.laid (a:=s.heap.objs.size) (o:=.own (s.heap.objs.size+1)) (h':=s.heap.push PySem.W.emptyDict) (t':=s.toks) (λb u q=>hR _ q) (kB _) ⟨_,e1⟩
refine I1.laid (a:=s.heap.objs.size+1) (o:=.ins C s.heap.objs.size []) (t':=s.toks) (λb u q=>hR _ q) (wE (rM _ _)) ?_
have ne:s.heap.objs.size≠s.heap.objs.size+1:=kW (rR _)
refine⟨by rw[qD ne,qJ],mO _,ne,e2,λ_=>none,(sT e3).at λo q=>hR _ q,λ_=>True.intro,λy hy=>absurd rfl hy⟩)
theorem qC4{prog:Program}{w:World}{env:Env}{e:Expr}{f:Str}{pos:Pos}{s:Shared}{Q:Value→Shared→Prop}(hb:attributeBase e f env (eval e env)=eval e env)
 (h:wpAny (model prog w) A (eval e env) (λo s₁=>wpAny (model prog w) A (getAttr o f true) Q E s₁) E s):wpAny (model prog w) A (eval (.Attribute e f pos) env) Q E s:=Attribute_any_ h (by rw[arm_eval_Attribute,hb])
end
noncomputable def tFld(K:PySem.W.Frag)(ta:TE)(f:Str):TE:=λσ H Q=>ta σ H λx H1=>∃a C dx fs v,x=.ref a∧H1 a=some (.ins C dx fs)∧Cls K C∧qO K C f∧fs.lookup f=some v∧Q v H1
noncomputable def sFld(K:PySem.W.Frag)(ta tv:TE)(f:Str):TS:=λD σ H=>tv σ H λy H1=>ta σ H1 λx H2=>∃a C dx fs,x=.ref a∧H2 a=some (.ins C dx fs)∧Cls K C∧qO K C f∧fs.length<1000∧D.nx σ (upd H2 a (.ins C dx (putF f y fs)))
noncomputable def InOp(X:Cx)(op:Operator)(rd:V→V→Hp→VK→Prop):Prop:=∀(pins:List (Addr×Obj)) (s:Shared) (σ:St) (H:Hp) (x y:V) (u v:Value) (Q:VK),Inv X pins σ H s→RelV x u→RelV y v→rd x y H Q→wpAny (model X.prog X.w) X.A (inplaceOp op u v) (EP X pins σ Q) X.xe s
noncomputable def qC5(K:PySem.W.Frag)(ta tv:TE)(rd:V→V→Hp→VK→Prop)(f:Str):TS:=λD σ H=>ta σ H λx H1=>∃a C dx fs v,x=.ref a∧H1 a=some (.ins C dx fs)∧Cls K C∧qO K C f∧fs.lookup f=some v∧tv σ H1 λy H2=>rd v y H2 λz H3=>∃dx' fs',H3 a=some (.ins C dx' fs')∧fs'.length<1000∧D.nx σ (upd H3 a (.ins C dx' (putF f z fs')))
section
variable{X:Cx}{o e value:Expr}{f:Str}{pos pos' tpos:Pos}{ta tv:TE}
theorem qM(he:PE X e ta)(hb:attributeBase e f X.env (eval e X.env)=eval e X.env):PE X (.Attribute e f pos) (tFld X.K ta f):=by(
intro pins s σ H Q I h
refine qC4 hb (thn (he pins s σ H _ I h) λu s1 hZ=>?_)
obtain⟨x,H1,I1,rx,a,C,dx,fs,v,ex,ea,c,n,l,q⟩:=hZ
subst ex
obtain rfl:u=Value.ref a:=rx
exact q3P I1 ea c n l λu' s2 I2 ru=>⟨v,H1,I2,ru,q⟩)
theorem jI(ha:PE X o ta)(hv:PE X value tv)(hs:swapsWith value (some (.Attribute o f pos')) pos.line X.env=pure false):PS X (.Assign [.Attribute o f pos'] value pos) (sFld X.K ta tv f):=by(
intro pins s σ H D I h
refine wJ (thn (hv pins s σ H _ I h) λu s1 ⟨y,H1,I1,ry,q⟩=>thn (ha pins s1 σ H1 _ I1 q) λov s2 hZ=>?_) hs
obtain⟨x,H2,I2,rx,a,C,dx,fs,ex,ea,c,n,l,q2⟩:=hZ
subst ex
obtain rfl:ov=Value.ref a:=rx
exact q3Q I2 ea c n l ry λs3 I3=>⟨σ,_,I3,q2⟩)
theorem q9K{op:Operator}{rd:V→V→Hp→VK→Prop}(ha:PE X o ta)(hv:PE X value tv)(hop:InOp X op rd):PS X (.AugAssign (.Attribute o f tpos) op value pos) (qC5 X.K ta tv rd f):=by(
intro pins s σ H D I h
refine wpAny_AugAssign_AttributeAny (thn (ha pins s σ H _ I h) λov s1 hZ=>?_)
obtain⟨x,H1,I1,rx,a,C,dx,fs,v,ex,ea,c,n,l,q⟩:=hZ
subst ex
obtain rfl:ov=Value.ref a:=rx
refine q3P I1 ea c n l λu s2 I2 ru=>thn (hv pins s2 σ H1 _ I2 q) λw3 s3 ⟨y,H2,I3,ry,q3⟩=>thn (hop pins s3 σ H2 v y u w3 _ I3 ru ry q3) λw4 s4 hZ=>?_
obtain⟨z,H3,I4,rz,dx',fs',ea',l',q4⟩:=hZ
exact q3Q I4 ea' c n l' rz λs5 I5=>⟨σ,_,I5,q4⟩)
noncomputable def rAdd:V→V→Hp→VK→Prop:=λx y H Q=>∃i j,x=.int i∧y=.int j∧Q (.int (i+j)) H
theorem qE3:InOp X .Add rAdd:=by(
rintro pins s σ H x y u v Q I rx ry ⟨i,j,rfl,rfl,q⟩
obtain⟨t,rfl⟩:=(show ∃t,u=Value.int i t from rx)
obtain⟨t',rfl⟩:=(show ∃t',v=Value.int j t' from ry)
exact PyProof.Rows.iadd_int ⟨.int (i+j),H,I.tok _,⟨_,rfl⟩,q⟩)
end
section
variable{X:Cx}{pins:List (Addr×Obj)}{σ:St}{H:Hp}{s:Shared}{A:Around}{E:Value→Shared→Prop}{Q:Value→Shared→Prop}{c:Value}{b:Bool}
inductive TyOf(K:PySem.W.Frag)(H:Hp):V→Value→Prop where
|non:TyOf K H .non (.type "NoneType")
|bl (x:Bool):TyOf K H (.bl x) (.type "bool")
|int (i:Int):TyOf K H (.int i) (.type "int")
|str (x:Str):TyOf K H (.str x) (.type "str")
|flt (x:UInt64):TyOf K H (.flt x) (.type "float")
|lst {a:Addr} {xs:List V} (e:H a=some (.lst xs)):TyOf K H (.ref a) (.type "list")
|frz {a:Addr} {o:Obj} {xs:List V} (e:H a=some (.frz o (.lst xs))):TyOf K H (.ref a) (.type "list")
|tup {a:Addr} {xs:List V} (e:H a=some (.tup xs)):TyOf K H (.ref a) (.type "tuple")
|dK {a:Addr} {kvs:List (Key×V)} (e:H a=some (.dK kvs)):TyOf K H (.ref a) (.type "dict")
|dT {a:Addr} {kvs:List (List Key×V)} (e:H a=some (.dT kvs)):TyOf K H (.ref a) (.type "dict")
|ins {a C dx:Addr} {fs:List (Str×V)} (e:H a=some (.ins C dx fs)) (cl:Cls K C) (ha:PySem.W.findIn K (.ref C) "__class__"=some (some (.builtin "object.__class__")))
 (hn:PySem.W.specialIn K (.builtin "object.__class__") "__get__"=some (some (.builtin "getset_descriptor.__get__"))) (htk:PySem.W.takesIn K (.builtin "object.__class__")=some true)
 (hm:PySem.W.mroIn K C (.type "object")=some true):TyOf K H (.ref a) (.ref C)
theorem q9L{x:V}{u t:Value}(I:Inv X pins σ H s)(rx:RelV x u)(ty:TyOf X.K H x t)(e:PySem.W.kitOne X.K t c=some b)(h:∀tk,Q (.bool b) { s with toks:=tk }):
 wpAny (model X.prog X.w) A (call (.builtin "isinstance") [u,c]) Q E s:=by(
cases ty with
|non=>cases(show u=Value.none from rx);exact m6 PySem.W.kitx_none I.kIn True.intro e (λz=>nomatch z) h
|bl y=>cases(show u=Value.bool y from rx);exact m6 PySem.W.kitx_bool I.kIn True.intro e (λz=>nomatch z) h
|int i=>obtain⟨t,q⟩:=(show ∃t,u=Value.int i t from rx);cases q;exact m6 PySem.W.kitx_int I.kIn True.intro e (λz=>nomatch z) h
|str y=>obtain⟨t,q⟩:=(show ∃t,u=Value.str y t from rx);cases q;exact m6 PySem.W.kitx_str I.kIn True.intro e (λz=>nomatch z) h
|flt y=>obtain⟨t,q⟩:=(show ∃t,u=Value.float y t from rx);cases q;exact m6 PySem.W.kitx_float I.kIn True.intro e (λz=>nomatch z) h
|@lst a xs ea=>cases(show u=Value.ref a from rx);obtain⟨_,_,n,_,h1⟩:=(show jF X.prog X.w H s.heap a (.lst xs)from I.hok a _ ea);exact m6 sU I.kIn ⟨_,h1,rfl⟩ e (λz=>nomatch z) h
|@frz a ob xs ea=>cases(show u=Value.ref a from rx);obtain⟨_,_,_,n,_,h1⟩:=(show jF X.prog X.w H s.heap a (.frz ob (.lst xs))from I.hok a _ ea);exact m6 sU I.kIn ⟨_,h1,rfl⟩ e (λz=>nomatch z) h
|@tup a xs ea=>cases(show u=Value.ref a from rx);obtain⟨_,_,_,p⟩:=(show jF X.prog X.w H s.heap a (.tup xs)from I.hok a _ ea);obtain⟨o,h1,h2,_⟩:=p;exact m6 PySem.W.kitx_tuple I.kIn ⟨o,h1,h2⟩ e (λz=>nomatch z) h
|@dK a kvs ea=>cases(show u=Value.ref a from rx);obtain⟨_,_,vs,_,p⟩:=(show jF X.prog X.w H s.heap a (.dK kvs)from I.hok a _ ea);obtain⟨o,es,ep,h1,h2,_⟩:=p;exact m6 sV I.kIn ⟨o,h1,h2.1⟩ e (λz=>nomatch z) h
|@dT a kvs ea=>cases(show u=Value.ref a from rx);obtain⟨_,_,xs,_,o,es,ep,h1,h2,_⟩:=(show jF X.prog X.w H s.heap a (.dT kvs)from I.hok a _ ea);exact m6 sV I.kIn ⟨o,h1,h2.1⟩ e (λz=>nomatch z) h
|@ins a C dx fs ea cl ha hn htk hm=>cases(show u=Value.ref a from rx);obtain⟨mA,O,_⟩:=q3B I.hok ea;obtain⟨od,J,_⟩:=O.look;exact m6 (PySem.W.kitx_own (cl.get _) cl.hd ha hn htk hm) I.kIn J e (λz=>nomatch z) h)
end
structure Room(k:Nat)(A:Around):Prop where
hd:A.handled=none
dp:A.depth+3*k+5<recursionLimit
un:A.units+16*k+200<cLine
theorem Room.mono{j k:Nat}{A:Around}(r:Room k A)(h:j≤k):Room j A:=⟨r.hd,by have:=r.dp;omega,by have:=r.un;omega⟩
theorem Room.deeper{k:Nat}{A:Around}(r:Room (k+1) A)(env:Env):Room k (A.deeper env):=⟨r.hd,by have:=r.dp;show A.depth+1+3*k+5< _;omega,by have:=r.un;show A.units+3+16*k+200< _;omega⟩
theorem Room.in1{k:Nat}{A:Around}(r:Room (k+1) A):Room k A.in1:=⟨r.hd,by have:=r.dp;show A.depth+3*k+5< _;omega,by have:=r.un;show A.units+1+16*k+200< _;omega⟩
theorem q83{A:Around}{C:Addr}{us:List Value}{kw:List (Str×Value)}:(A.under (.builtin "type.__call__" ⟨.ref C::us,kw⟩)).depth=A.depth+1:=by first|rfl|simp[Around.under,Code.weight,Code.isCreation,Code.isGuard,Code.isCaller,Code.frames,Code.isFrame,guardIds]
theorem q84{A:Around}{C:Addr}{us:List Value}{kw:List (Str×Value)}:(A.under (.builtin "type.__call__" ⟨.ref C::us,kw⟩)).units=A.units+1:=by first|rfl|simp[Around.under,Code.cUnits,Code.frames,Code.isFrame]
theorem Room.make{k:Nat}{A:Around}(r:Room (k+1) A)(C:Addr)(us:List Value)(kw:List (Str×Value)):Room k (A.under (.builtin "type.__call__" ⟨.ref C::us,kw⟩)):=⟨r.hd,by have:=r.dp;rw[q83];omega,by have:=r.un;rw[q84];omega⟩
theorem Room.depth{k:Nat}{A:Around}(r:Room k A):A.depth<recursionLimit:=by have:=r.dp;omega
theorem Room.units{k:Nat}{A:Around}(r:Room k A):A.units+64<cLine:=by have:=r.un;omega
noncomputable def tNil:TA:=λ_ H Q=>Q [] H
noncomputable def qAQ(ta:TE)(tr:TA):TA:=λσ H Q=>ta σ H λx H1=>tr σ H1 λxs H2=>Q (x::xs) H2
section
variable{X:Cx}{e:Expr}{es:List Expr}{te:TE}{t:TA}{pos:Pos}
theorem qG:PA X [] tNil:=λ_ _ _ _ H Q I h=>sW ⟨[],H,I,.nil,h⟩
theorem qA(ha:PE X e te)(hr:PA X es t)(hs:starEach (e::es) X.env=(false,eval e X.env)::starEach es X.env:=by rfl):PA X (e::es) (qAQ te t):=by(
intro pos pins s σ H Q I h
rw[hs]
show wpAny _ _ (spliced ((false,eval e X.env)::backTo pos (starEach es X.env))) _ _ s
refine sG (thn (ha pins s σ H _ I h) λu s1 hZ=>?_)
obtain⟨x,H1,I1,r1,q1⟩:=hZ
exact thn (hr pos pins s1 σ H1 _ I1 q1) λus s2 ⟨xs,H2,I2,r2,q2⟩=>⟨x::xs,H2,I2,.cons r1 r2,q2⟩)
end
noncomputable abbrev Sp:=List V→Hp→VK→XK→Prop
noncomputable abbrev CXT:=List Env→Hp→Shared→XK→Value→Shared→Prop
structure Env0(P:Program)(w:World)(K:PySem.W.Frag)(mg:Str→Option Value)(base:Heap)(A:Around)(outer:List Env)(s:Shared)(H:Hp):Prop where
frames:A.frames=some outer
mod:Mod K mg base
bs:∀b o,base.get? b=some o→s.heap.get? b=some o∧H b=none
bsz:base.objs.size≤s.heap.objs.size
funs:s.heap.FunFrames base outer
frf:∀b∈frs outer,H b=none
hok:HOk P w H s.heap
bare:AllBare s.gens
noncomputable def CE(outer:List Env)(P:Program)(w:World)(H:Hp)(s:Shared)(Q:VK)(u:Value)(s':Shared):Prop:=∃v H',s'.os=s.os∧AllBare s'.gens∧Un (frs outer) [] H H' s.heap s'.heap∧HOk P w H' s'.heap∧RelV v u∧Q v H'
noncomputable def CR(CX:CXT)(outer:List Env)(P:Program)(w:World)(H:Hp)(s:Shared)(Q:VK)(E:XK)(r:Result)(s':Shared):Prop:=match r with
| .ok (.ret u)=>CE outer P w H s Q u s'
| .ok _=>False
| .error e=>CX outer H s E e s'
structure FnOk(P:Program)(w:World)(K:PySem.W.Frag)(mg:Str→Option Value)(base:Heap)(CX:CXT)(k:Nat)(f:Addr)(fd:FuncData)(ps:List Str)(sp:Sp):Prop where
len:∀vs H Q E,sp vs H Q E→vs.length=ps.length
run:∀(A:Around) (outer:List Env) (s:Shared) (H:Hp) (args:Args) (us:List Value) (vs:List V) (Q:VK) (E:XK),Room k A→Env0 P w K mg base A outer s H→BindsTo s fd args (ps.zip us)→Vals vs us→sp vs H Q E→codeAny (model P w) A (.call (.ref f) args) (CR CX outer P w H s Q E) s
theorem FnOk.mono{P:Program}{w:World}{K:PySem.W.Frag}{mg:Str→Option Value}{base:Heap}{CX:CXT}{j k:Nat}{f:Addr}{fd:FuncData}{ps:List Str}{sp:Sp}(F:FnOk P w K mg base CX j f fd ps sp)(h:j≤k:=by decide):
 FnOk P w K mg base CX k f fd ps sp:=⟨F.len,λA outer s H args us vs Q E hr=>F.run A outer s H args us vs Q E (hr.mono h)⟩
theorem Env0.make{P:Program}{w:World}{K:PySem.W.Frag}{mg:Str→Option Value}{base:Heap}{A:Around}{outer:List Env}{s:Shared}{H:Hp}(e:Env0 P w K mg base A outer s H)(C:Addr)(us:List Value)(kw:List (Str×Value)):
 Env0 P w K mg base (A.under (.builtin "type.__call__" ⟨.ref C::us,kw⟩)) outer s H:=⟨by first|exact e.frames|(simpa[Around.under,Code.envs,Code.isFrame,pushEnvs]using e.frames),e.mod,e.bs,e.bsz,e.funs,e.frf,e.hok,e.bare⟩
section
variable{X:Cx}{pins:List (Addr×Obj)}{σ:St}{H:Hp}{s s':Shared}
theorem Inv.env0(I:Inv X pins σ H s):Env0 X.prog X.w X.K X.mg X.base X.A X.stack s H:=⟨I.ok.frames,I.ok.mod,I.bs,kY I.ok.bsz I.sz,I.stack,I.stkFree,I.hok,I.bare⟩
theorem Inv.after{Q:VK}{u:Value}(I:Inv X pins σ H s)(h:CE X.stack X.prog X.w H s Q u s'):EP X pins σ Q u s':=by(
obtain⟨v,H',os,bare,un,hok,r,q⟩:=h
obtain⟨hh,g,d,t,os'⟩:=s'
obtain rfl:os'=s.os:=os
exact⟨v,H',I.call (h':=hh) (g':=g) (d':=d) (t':=t) (ch:=[]) un hok bare (λb z=>absurd z (by simp)),r,q⟩)
end
noncomputable def qAR(sp:Sp)(dvs:List V)(E:XK)(t:TA):TE:=λσ H Q=>t σ H λvs H1=>sp (vs++dvs) H1 Q E
noncomputable def q8Z(C:Addr)(m:Str)(sp:Sp)(dvs:List V)(E:XK)(ta:TE)(t:TA):TE:=λσ H Q=>ta σ H λx H1=>∃a dx fs,x=.ref a∧H1 a=some (.ins C dx fs)∧fs.lookup m=none∧t σ H1 λvs H2=>sp (x::(vs++dvs)) H2 Q E
noncomputable def qFY(C:Addr)(sp:Sp)(dvs:List V)(E:XK)(t:TA):TE:=λσ H Q=>t σ H λvs H1=>∀x dx,H1 x=none→H1 dx=none→dx≠x→sp (.ref x::(vs++dvs)) (upd (upd H1 dx (.own x)) x (.ins C dx [])) (λv H2=>v=.non∧Q (.ref x) H2) E
noncomputable def jO(K:PySem.W.Frag)(fd:FuncData)(ps:List Str)(ds:List Value):Prop:=∀(s:Shared) (us:List Value),K.In s.heap→(us++ds).length=ps.length→BindsTo s fd ⟨us,[]⟩ (ps.zip (us++ds))
theorem jO.all{K:PySem.W.Frag}{fd:FuncData}{ps:List Str}(h:∀us:List Value,us.length=ps.length→bindArgs fd ⟨us,[]⟩=pure (ps.zip us)):jO K fd ps []:=λs us _ hl=>by rw[wR]at hl ⊢;exact .of_eq (h us hl)
noncomputable def uF(CX:CXT)(X:Cx)(E:XK):Prop:=∀(pins:List (Addr×Obj)) (σ:St) (H:Hp) (s:Shared) (e:Value) (s':Shared),Inv X pins σ H s→CX X.stack H s E e s'→X.xe e s'
section
variable{X:Cx}{CX:CXT}{k:Nat}{f C:Addr}{fd:FuncData}{ps:List Str}{sp:Sp}{dvs:List V}{ds:List Value}{E:XK}{x m:Str}{p pos apos:Pos}{e o:Expr}{es:List Expr}{ta:TE}{t:TA}
theorem q5P{pins:List (Addr×Obj)}{σ:St}{H:Hp}{s:Shared}{Q:VK}{us:List Value}{vs:List V}(F:FnOk X.prog X.w X.K X.mg X.base CX k f fd ps sp)(hr:Room k X.A)(hb:jO X.K fd ps ds)(hd:Vals dvs ds)(hx:uF CX X E)
 (I:Inv X pins σ H s) (r:Vals vs us) (h:sp (vs++dvs) H Q E):wpAny (model X.prog X.w) X.A (call (.ref f) us) (EP X pins σ Q) X.xe s:=by(
have r2:Vals (vs++dvs) (us++ds):=r.append hd
have hl:(us++ds).length=ps.length:=by rw[←r2.length];exact F.len _ _ _ _ h
refine dQ (rA (F.run X.A X.stack s H ⟨us,[]⟩ (us++ds) (vs++dvs) Q E hr I.env0 (hb s us I.kIn hl) r2 h) λr s' hq=>?_)
cases r with
|error e=>exact hx pins σ H s e s' I hq
|ok fl=>
 cases fl with
 |ret u=>exact I.after hq
 |next=>exact False.elim hq
 |brk=>exact False.elim hq
 |cont=>exact False.elim hq)
theorem qV(F:FnOk X.prog X.w X.K X.mg X.base CX k f fd ps sp)(hr:Room k X.A)(hg:Gl X x)(hm:X.mg x=some (.ref f))(hk:PySem.W.keepIn X.K (.ref f)=true)(hb:jO X.K fd ps ds)(hd:Vals dvs ds)(hx:uF CX X E)
 (ha:PA X (e::es) t) (hdb:(x==("__debug__":Str))=false:=by decide) (he:starEach (e::es) X.env=(false,eval e X.env)::starEach es X.env:=by rfl) (hpl:(backTo pos (starEach es X.env)).any (·.1)=false:=by rfl):
 PE X (.Call (.Name x p) (e::es) [] pos) (qAR sp dvs E t):=by(
intro pins s σ H Q I h
refine gM (vK I hg hm ?_ hdb)
refine gN (h₀:=X.base) I.ok.mod.kin hk (thn (ha pos pins s σ H _ I h) λus s1 ⟨vs,H1,I1,r,q⟩=>⟨I1.kIn,?_⟩) he hpl
exact q5P F hr hb hd hx I1 r q)
theorem jD{pl:Sem Bool}(he:PE X o ta)(c:Cls X.K C)(hm:Meth X.K C m f)(F:FnOk X.prog X.w X.K X.mg X.base CX k f fd ps sp)(hr:Room k X.A)(hb:jO X.K fd ps ds)(hd:Vals dvs ds)(hx:uF CX X E)(ha:PA X (e::es) t)
 (hst:starEach (e::es) X.env=(false,eval e X.env)::starEach es X.env:=by rfl) (hpl:(backTo pos (starEach es X.env)).any (·.1)=false:=by rfl)
 (ht:eval (.Call (.Attribute o m apos) (e::es) [] pos) X.env=(do
  let ov←eval o X.env
  standAt apos.atName
  let(f,first)←holding [ov] (getMethod ov m pl)
  callWith pos f first (backTo pos (starEach (e::es) X.env)) (backToKw pos (keywordEach [] X.env))):=by rfl):
 PE X (.Call (.Attribute o m apos) (e::es) [] pos) (q8Z C m sp dvs E ta t):=by(
intro pins s σ H Q I h
refine gJ (pl:=pl) (thn (he pins s σ H _ I h) λu s1 hZ=>?_) ht
obtain⟨x,H1,I1,rx,a,dx,fs,ex,ea,l,q⟩:=hZ
subst ex
obtain rfl:u=Value.ref a:=rx
refine v8 I1 ea c hm l ?_
refine gN (first:=[.ref a]) (h₀:=X.base) I.ok.mod.kin hm.kp (thn (ha pos pins s1 σ H1 _ I1 q) λus s2 ⟨vs,H2,I2,r,q2⟩=>⟨I2.kIn,?_⟩) hst hpl
exact q5P (us:=.ref a::us) (vs:=.ref a::vs) F hr hb hd hx I2 (.cons rfl r) q2)
theorem j7{pl:Sem Bool}(he:PE X o ta)(c:Cls X.K C)(hm:Meth X.K C m f)(F:FnOk X.prog X.w X.K X.mg X.base CX k f fd ps sp)(hr:Room k X.A)(hb:jO X.K fd ps ds)(hd:Vals dvs ds)(hx:uF CX X E)
 (ht:eval (.Call (.Attribute o m apos) [] [] pos) X.env=(do
  let ov←eval o X.env
  standAt apos.atName
  let(f,first)←holding [ov] (getMethod ov m pl)
  callWith pos f first (backTo pos (starEach [] X.env)) (backToKw pos (keywordEach [] X.env))):=by rfl):
 PE X (.Call (.Attribute o m apos) [] [] pos) (q8Z C m sp dvs E ta tNil):=by(
intro pins s σ H Q I h
refine gJ (pl:=pl) (thn (he pins s σ H _ I h) λu s1 hZ=>?_) ht
obtain⟨x,H1,I1,rx,a,dx,fs,ex,ea,l,q⟩:=hZ
subst ex
obtain rfl:u=Value.ref a:=rx
refine v8 I1 ea c hm l ?_
exact wW (first:=[.ref a]) I1.kIn hm.kp (q5P (us:=[.ref a]) (vs:=[.ref a]) F hr hb hd hx I1 (.cons rfl .nil) q))
structure Mk(K:PySem.W.Frag)(C f:Addr):Prop where
makes:PySem.W.makesIn K C=true
init:PySem.W.findIn K (.ref C) "__init__"=some (some (.ref f))
fn:PySem.W.isFn K (.ref f)=true
kp:PySem.W.keepIn K (.ref C)=true
theorem qAS{pins:List (Addr×Obj)}{σ:St}{H:Hp}{s:Shared}{Q:VK}{us:List Value}{vs:List V}(M:Mk X.K C f)(F:FnOk X.prog X.w X.K X.mg X.base CX k f fd ps sp)(hr:Room (k+1) X.A)(hb:jO X.K fd ps ds)(hd:Vals dvs ds)
 (hx:uF CX X E) (I:Inv X pins σ H s) (r:Vals vs us)
 (h:∀x dx,H x=none→H dx=none→dx≠x→sp (.ref x::(vs++dvs)) (upd (upd H dx (.own x)) x (.ins C dx [])) (λv H2=>v=.non∧Q (.ref x) H2) E):
 wpAny (model X.prog X.w) X.A (call (.ref C) us) (EP X pins σ Q) X.xe s:=by(
have hq:=h (s.heap.objs.size+1) s.heap.objs.size (I.hok.fresh (dA _)) (I.hok.fresh (kB _)) (kW (rR _))
have I2:=Inv.made (C:=C) I
have r2:Vals (V.ref (s.heap.objs.size+1)::(vs++dvs)) (Value.ref (s.heap.objs.size+1)::(us++ds)):=.cons rfl (r.append hd)
have hl:(Value.ref (s.heap.objs.size+1)::us++ds).length=ps.length:=by have e:=r2.length;rw[F.len _ _ _ _ hq]at e;exact e.symm
refine dQ (qAP (f:=f) I.kIn M.makes M.init (mF.mp M.fn) (rA (F.run _ X.stack _ _ ⟨Value.ref (s.heap.objs.size+1)::us,[]⟩ (Value.ref (s.heap.objs.size+1)::(us++ds)) _ _ E (hr.make C us [])
 (I2.env0.make C us []) (hb _ (Value.ref (s.heap.objs.size+1)::us) I2.kIn hl) r2 hq) λr s' hq'=>?_))
cases r with
|error e=>exact hx pins σ _ _ e s' I2 hq'
|ok fl=>
 cases fl with
 |ret u=>obtain⟨v,H',I3,rv,ev,q3⟩:=I2.after hq';subst ev;exact⟨rv,⟨V.ref (s.heap.objs.size+1),H',I3,rfl,q3⟩⟩
 |next=>exact False.elim hq'
 |brk=>exact False.elim hq'
 |cont=>exact False.elim hq')
theorem q3C(M:Mk X.K C f)(F:FnOk X.prog X.w X.K X.mg X.base CX k f fd ps sp)(hr:Room (k+1) X.A)(hg:Gl X x)(hm:X.mg x=some (.ref C))(hb:jO X.K fd ps ds)(hd:Vals dvs ds)(hx:uF CX X E)
 (ha:PA X (e::es) t) (hdb:(x==("__debug__":Str))=false:=by decide) (he:starEach (e::es) X.env=(false,eval e X.env)::starEach es X.env:=by rfl) (hpl:(backTo pos (starEach es X.env)).any (·.1)=false:=by rfl):
 PE X (.Call (.Name x p) (e::es) [] pos) (qFY C sp dvs E t):=by(
intro pins s σ H Q I h
refine gM (vK I hg hm ?_ hdb)
refine gN (h₀:=X.base) I.ok.mod.kin M.kp (thn (ha pos pins s σ H _ I h) λus s1 ⟨vs,H1,I1,r,q⟩=>⟨I1.kIn,?_⟩) he hpl
exact qAS M F hr hb hd hx I1 r q)
end
noncomputable def PK(X:Cx)(kws:List Keyword)(t:TA):Prop:=∀(pos:Pos) (pins:List (Addr×Obj)) (s:Shared) (σ:St) (H:Hp) (Q:List V→Hp→Prop),Inv X pins σ H s→t σ H Q→wpAny (model X.prog X.w) X.A (evalAll ((backToKw pos (keywordEach kws X.env)).map (·.2))) (AP X pins σ Q) X.xe s
section
variable{X:Cx}{CX:CXT}{k:Nat}{f C:Addr}{fd:FuncData}{ps ks:List Str}{sp:Sp}{E:XK}{x m:Str}{p pos apos kpos:Pos}{e o:Expr}{es:List Expr}{kws:List Keyword}{te ta:TE}{t tk:TA}{nm:Option Str}
theorem qE4:PK X [] tNil:=λ_ _ _ _ H Q I h=>wpAny_evalAll_nil ⟨[],H,I,.nil,h⟩
theorem qC6(ha:PE X e te)(hr:PK X kws t):PK X (⟨nm,e,kpos⟩::kws) (qAQ te t):=by(
intro pos pins s σ H Q I h
show wpAny _ _ (evalAll ((do let v←eval e X.env;standAt pos;pure v)::(backToKw pos (keywordEach kws X.env)).map (·.2))) _ _ s
refine wpAny_evalAll_cons (hI (thn (ha pins s σ H _ I h) λu s1 ⟨x,H1,I1,r1,q1⟩=>hI (rX (kJ ?_))))
exact thn (hr pos pins s1 σ H1 _ I1 q1) λus s2 ⟨xs,H2,I2,r2,q2⟩=>⟨x::xs,H2,I2,.cons r1 r2,q2⟩)
variable{g:List Value→List Value→List Value}{gV:List V→List V→List V}
end
structure FnScope(N P:List Str)(sc:Scope):Prop where
kind:sc.kind=.function
co:sc.isCoroutine=false
gen:sc.isGenerator=false
nd:N.Nodup
pre:N.take P.length=P
par:∀x∈P,sc.names.lookup x=some .local∨sc.names.lookup x=some .cell
nofree:∀y∈sc.names,y.2≠ .free
theorem q50{kindOf:Str→Option NameKind}{x:Str}:∀{binds:List (Str×Value)} {m:Str→Option Value},(∀v,(x,v)∉binds)→bindL kindOf binds m x=m x
| [],_,_=>rfl
|(n,v)::r,m,h=>by
 unfold bindL;rw[q50 λw hw=>h w (h9 _ hw)];split
 ·have:x≠n:=by rintro rfl;exact h v kM
  simp[this]
 rfl
theorem q51{kindOf:Str→Option NameKind}{x:Str}:∀{binds:List (Str×Value)} {m:Str→Option Value},(∀v,(x,v)∉binds)→bindC kindOf binds m x=m x
| [],_,_=>rfl
|(n,v)::r,m,h=>by
 unfold bindC;rw[q51 λw hw=>h w (h9 _ hw)];split
 ·rfl
 have:x≠n:=by rintro rfl;exact h v kM
 simp[this]
theorem q52{kindOf:Str→Option NameKind}{x:Str}{v:Value}:∀{P:List Str} {vs:List Value} {i:Nat} {m:Str→Option Value},P.Nodup→P[i]?=some x→vs[i]?=some v→kindOf x=some .local→bindL kindOf (P.zip vs) m x=some v
| [],_,_,_,_,h,_,_=>by simp at h
|_::_,[],_,_,_,_,h,_=>by simp at h
|p::P,w::vs,0,m,nd,h1,h2,hk=>by simp at h1 h2;subst h1;subst h2;show bindL kindOf ((p,w)::P.zip vs) m p=_;unfold bindL;rw[q50 λv hv=>(mM.mp nd).1 (wS hv).1,hU hk];simp
|p::P,w::vs,i+1,m,nd,h1,h2,hk=>by show bindL kindOf ((p,w)::P.zip vs) m x=_;unfold bindL;exact q52 (i:=i) (mM.mp nd).2 (by simpa using h1) (by simpa using h2) hk
theorem q53{kindOf:Str→Option NameKind}{x:Str}{v:Value}:∀{P:List Str} {vs:List Value} {i:Nat} {m:Str→Option Value},P.Nodup→P[i]?=some x→vs[i]?=some v→kindOf x≠some .local→bindC kindOf (P.zip vs) m x=some v
| [],_,_,_,_,h,_,_=>by simp at h
|_::_,[],_,_,_,_,h,_=>by simp at h
|p::P,w::vs,0,m,nd,h1,h2,hk=>by simp at h1 h2;subst h1;subst h2;show bindC kindOf ((p,w)::P.zip vs) m p=_;unfold bindC;rw[q51 λv hv=>(mM.mp nd).1 (wS hv).1,hV hk];simp
|p::P,w::vs,i+1,m,nd,h1,h2,hk=>by show bindC kindOf ((p,w)::P.zip vs) m x=_;unfold bindC;exact q53 (i:=i) (mM.mp nd).2 (by simpa using h1) (by simpa using h2) hk
noncomputable def start(N:List Str)(vs:List V):St:=vs.map some++List.replicate (N.length-vs.length) none
noncomputable def cxOf(CX:CXT)(P:Program)(w:World)(K:PySem.W.Frag)(mg:Str→Option Value)(base:Heap)(N:List Str)(qual:Str)(scope:Scope)(f:Addr)(cd:Value)(A:Around)(outer:List Env)(s:Shared)(H:Hp)(E:XK):Cx where
prog:=P
w:=w
K:=K
mg:=mg
base:=base
A:=A.deeper (envOfC qual scope s.heap.objs.size f cd)
N:=N
s₀:=s
H₀:=H
env:=envOfC qual scope s.heap.objs.size f cd
outer:=outer
stack:=envOfC qual scope s.heap.objs.size f cd::outer
ex:=[]
calm:=true
fn:=λ_=>true
pn:=[]
xe:=λe s'=>wpAny (model P w) (A.deeper (envOfC qual scope s.heap.objs.size f cd)) (leaving (envOfC qual scope s.heap.objs.size f cd) e) (λ_ s''=>CX outer H s E e s'') (λe' s''=>CX outer H s E e' s'') s'
theorem q6Y{sc:Scope}{n:Nat}{x:Str}(h:sc.names.lookup x=some .cell):∃c,(cellsFrom n sc.names []).lookup x=some c:=by have q:=wF sc.names n [] (.inl h);exact dR.mp q
theorem q54{CX:CXT}{P:Program}{w:World}{K:PySem.W.Frag}{mg:Str→Option Value}{base:Heap}{N ps:List Str}{qual:Str}{scope:Scope}{f:Addr}{cd:Value}{A:Around}{outer:List Env}{s s1:Shared}{H:Hp}{E:XK}{us:List Value}{vs:List V}
 (S:FnScope N ps scope) (hd:A.handled=none) (e0:Env0 P w K mg base A outer s H) (hl:vs.length=ps.length) (r:Vals vs us)
 (x:InCallC s s.heap.objs.size (bindL (envOfC qual scope s.heap.objs.size f cd).kindOf (ps.zip us) λ_=>none) (cellsFrom (s.heap.objs.size+1) scope.names []) (bindC (envOfC qual scope s.heap.objs.size f cd).kindOf (ps.zip us) λ_=>none) s1):
 Inv (cxOf CX P w K mg base N qual scope f cd A outer s H E) [] (start N vs) H s1:=by(
have hpl:ps.length≤N.length:=by have:=rD List.length S.pre;rw[dC]at this;omega
obtain⟨h1,tk,rfl,hk⟩:=x.done
have noA:∀b:Addr,b∉(cxOf CX P w K mg base N qual scope f cd A outer s H E).ex:=λb z=>absurd (show b∈([]:List Addr)from z) (by simp)
refine⟨⟨e0.mod,S.kind,rfl,rfl,kB _,λy z c h1 h2=>?_,λy hy=>?_,λy c _ h=>?_,λ_=>hd,pN e0.frames,.inr ⟨rfl,rfl⟩,λb z=>absurd z (noA b),e0.bs,e0.bsz,λb _ _=>noA b,λb z=>absurd z (noA b),e0.funs,e0.frf⟩,rfl,e0.bare,Un.kept hk,⟨_,x.toInCall.ns,λi y v h1 h2 h3=>?_⟩,λy c h=>⟨_,x.cell y c h⟩,e0.hok.fresh (kB _),λy c h=>?_,λp hp=>absurd (show p∈([]:List (Addr×Obj))from hp) (by simp),e0.hok.kept hk,?_⟩
·exact name_of_addr x.apart (mV h1) (mV h2)
·have hy:scope.names.lookup y=some .cell∨scope.names.lookup y=some .free:=hy;rcases hy with hy|hy
 ·exact q6Y hy
 exact absurd rfl (S.nofree _ (mV hy))
·exact wZ (x.above y c (mV h))
·have hi:i<vs.length:=by
  unfold start at h2;by_cases hi:i<vs.length
  ·exact hi
  rw[rN (by simpa using hi)]at h2;rw[gW]at h2;split at h2<;>cases h2
 have ha:vs[i]?=some v:=by
  unfold start at h2;rw[cN (by simpa using hi),mG]at h2;cases e:vs[i]? with
  |none=>rw[e]at h2;cases h2
  |some a=>rw[e]at h2;cases h2;rfl
 obtain⟨u,hu,rv⟩:=r.get ha;have hp:ps[i]?=some y:=by rw[←S.pre,List.getElem?_take_of_lt (by omega)];exact h1
 have ndP:ps.Nodup:=by rw[←S.pre];exact S.nd.sublist (List.take_sublist _ _)
 refine⟨u,rv,?_⟩;rcases S.par y (mY hp)with k|k
 ·exact .inl ⟨k,q52 ndP hp hu k⟩
 obtain⟨c,e⟩:=q6Y (n:=s.heap.objs.size+1) k;refine .inr ⟨.inl k,c,e,?_⟩;have q:=x.cell y c e;rw[q53 ndP hp hu (by show scope.names.lookup y≠_;rw[k];decide)]at q;exact q
·exact e0.hok.fresh (wZ (x.above y c (mV h)))
unfold start
show _=N.length
rw[kZ,h8,mR]
omega)
theorem qAT{CX:CXT}{P:Program}{w:World}{K:PySem.W.Frag}{mg:Str→Option Value}{base:Heap}{k:Nat}{f:Addr}{name qual:Str}{params:Arguments}{body:List Stmt}{scope:Scope}{dV kV doc pm cdv ct oc:Value}{an od:Option Addr}
 {osl:Array (Option Value)} {N ps:List Str} {sp:Sp} (lk:K.lookup f=some ⟨oc,od,.func (PySem.W.fnOf name qual params body scope dV kV doc pm an cdv ct),osl⟩) (hcd:PySem.W.codeIn K cdv qual=true) (S:FnScope N ps scope)
 (len:∀vs H Q E,sp vs H Q E→vs.length=ps.length)
 (hbody:∀(A:Around) (outer:List Env) (s:Shared) (H:Hp) (vs:List V) (Q:VK) (E:XK),Room k (A.deeper (envOfC qual scope s.heap.objs.size f cdv))→sp vs H Q E→∃t,PSs (cxOf CX P w K mg base N qual scope f cdv A outer s H E) body t∧t { nx:=λ_ H'=>Q .non H',rt:=Q } (start N vs) H):
 FnOk P w K mg base CX (k+1) f (PySem.W.fnOf name qual params body scope dV kV doc pm an cdv ct) ps sp:=by(
refine⟨len,λA outer s H args us vs Q E hr e0 hb r hsp=>?_⟩
have hl:=len _ _ _ _ hsp
have KX:K.In s.heap:=e0.mod.kin.keeps λb o e=>(e0.bs b o e).1
have lim:s.heap.NoLimit:=e0.mod.nolimit.keeps λb o e=>(e0.bs b o e).1
have hkind:∀y∈ps.zip us,scope.names.lookup y.1=some .local∨(scope.names.lookup y.1=some .cell∧((cellsFrom (s.heap.objs.size+1) scope.names []).lookup y.1).isSome=true):=λ⟨n,v⟩ hy=>by
 rcases S.par n (wS hy).1 with q|q
 ·exact .inl q
 exact .inr ⟨q,wF _ _ _ (.inl q)⟩
refine pH hr.depth (KX _ _ lk) rfl S.co S.gen rfl (sI KX hcd) (hb _ _ _ _ ?_)
refine cF S.kind hkind λenv he s1 x=>?_
subst he
refine⟨lim.keeps x.toInCall.keep,codeAny_func ?_⟩
obtain⟨t,ht,hq⟩:=hbody A outer s H vs Q E (hr.deeper _) hsp
have I:Inv (cxOf CX P w K mg base N qual scope f cdv A outer s H E) [] (start N vs) H s1:=q54 S hr.hd e0 hl r x
refine gB (ht [] s1 (start N vs) H _ I hq) (λfl s' hs=>?_) λe s' hs=>hs
have fin:∀{σ':St} {H':Hp} {v:V} {u:Value},Inv (cxOf CX P w K mg base N qual scope f cdv A outer s H E) [] σ' H' s'→RelV v u→Q v H'→CE outer P w H s Q u s':=fun {σ' H' v u} J rv q=>⟨v,H',J.os,J.bare,J.base,J.hok,rv,q⟩
cases fl with
|ret u=>obtain⟨v,σ',H',J,rv,q⟩:=hs;exact fin J rv q
|next=>obtain⟨σ',H',J,q⟩:=hs;exact fin (v:=V.non) (u:=Value.none) J rfl q
|brk=>obtain⟨_,_,_,q⟩:=hs;exact False.elim q
|cont=>obtain⟨_,_,_,q⟩:=hs;exact False.elim q)
section
variable{X:Cx}{x:Str}{p pos:Pos}{e:Expr}{es:List Expr}{t:TA}{id T:String}{r:List V→Hp→VK→Prop}
noncomputable def tCB(r:List V→Hp→VK→Prop)(t:TA):TE:=λσ H Q=>t σ H λvs H1=>r vs H1 Q
theorem jJ(hc:q1Y X (.builtin id) r)(hg:Gl X x)(hm:X.mg x=none)(hv:bootBuiltins x=some (.builtin id))(ha:PA X (e::es) t)(hn:x≠"__name__":=by decide)(hdb:(x==("__debug__":Str))=false:=by decide)
 (he:starEach (e::es) X.env=(false,eval e X.env)::starEach es X.env:=by rfl) (hpl:(backTo pos (starEach es X.env)).any (·.1)=false:=by rfl):PE X (.Call (.Name x p) (e::es) [] pos) (tCB r t):=by intro pins s σ H Q I h;refine gM (q2G I hg hm hv ?_ hn hdb);exact wL (thn (ha pos pins s σ H _ I h) λus s1 ⟨vs,H1,I1,r1,q1⟩=>hc pins s1 σ H1 vs us Q I1 r1 q1) he hpl
theorem q9M(hc:q1Y X (.type T) r)(hg:Gl X x)(hm:X.mg x=none)(hv:bootBuiltins x=some (.type T))(ha:PA X (e::es) t)(hn:x≠"__name__":=by decide)(hdb:(x==("__debug__":Str))=false:=by decide)
 (he:starEach (e::es) X.env=(false,eval e X.env)::starEach es X.env:=by rfl) (hpl:(backTo pos (starEach es X.env)).any (·.1)=false:=by rfl):PE X (.Call (.Name x p) (e::es) [] pos) (tCB r t):=by intro pins s σ H Q I h;refine gM (q2G I hg hm hv ?_ hn hdb);exact rH (thn (ha pos pins s σ H _ I h) λus s1 ⟨vs,H1,I1,r1,q1⟩=>hc pins s1 σ H1 vs us Q I1 r1 q1) he hpl
end
end L2
namespace HT
open PySem PyProof.Rows
section
variable{prog:Program}{w:World}{A:Around}{E:Value→Shared→Prop}{s:Shared}
noncomputable def sIx(n d:Nat):Option Int→Nat
|none=>d
|some v=>if v<0 then(v+(n:Int)).toNat else min v.toNat n
end
end HT
namespace L2
open PySem PySem.Spec PyProof.Rows
noncomputable abbrev TO:=St→Hp→(Option Int→Hp→Prop)→Prop
noncomputable def PO(X:Cx)(e:Option Expr)(t:TO):Prop:=∀(pins:List (Addr×Obj)) (s:Shared) (σ:St) (H:Hp) (Q:Option Int→Hp→Prop),Inv X pins σ H s→t σ H Q→wpAny (model X.prog X.w) X.A (evalPart e X.env) (λu s'=>∃o H',Inv X pins σ H' s'∧IsPart u o∧Q o H') X.xe s
noncomputable def qFZ(t:TE):TO:=λσ H Q=>t σ H λx H1=>∃i,x=.int i∧Q (some i) H1
section
variable{X:Cx}{e:Expr}{te:TE}{lo hi:Option Expr}{tl th:TO}{pos p2:Pos}
theorem q90(h:PE X e te):PO X (some e) (qFZ te):=by(
intro pins s σ H Q I hw
rw[evalPart_some]
refine thn (h pins s σ H _ I hw) λu s1 hZ=>?_
obtain⟨x,H1,I1,r1,q1⟩:=hZ
obtain⟨i,rfl,q⟩:=q1
obtain⟨t,rfl⟩:=r1
exact⟨some i,H1,I1,.int i t,q⟩)
noncomputable def SlR(X:Cx)(r:V→Option Int→Option Int→Hp→VK→Prop):Prop:=∀(pins:List (Addr×Obj)) (s:Shared) (σ:St) (H:Hp) (x:V) (v vl vu:Value) (lo hi:Option Int) (sl:Addr) (Q:VK),Inv X pins σ H s→RelV x v→s.heap.IsSliceOf sl vl vu .none→IsPart vl lo→IsPart vu hi→r x lo hi H Q→∃T id,typeLookup (.type T) "__getitem__"=pure (some (.builtin id))∧s.TypeIs v T∧wpAny (model X.prog X.w) X.A (getItem v (.ref sl)) (EP X pins σ Q) X.xe s
noncomputable def tSl(r:V→Option Int→Option Int→Hp→VK→Prop)(te:TE)(tl th:TO):TE:=λσ H Q=>te σ H λx H1=>tl σ H1 λl H2=>th σ H2 λu H3=>r x l u H3 Q
theorem qAU{r:V→Option Int→Option Int→Hp→VK→Prop}(hr:SlR X r)(he:PE X e te)(hl:PO X lo tl)(hu:PO X hi th):PE X (.Subscript e (.Slice lo hi none p2) pos) (tSl r te tl th):=by(
intro pins s σ H Q I h
refine nY (thn (he pins s σ H _ I h) λv s1 hZ=>?_)
obtain⟨x,H1,I1,r1,q1⟩:=hZ
refine wpAny_Slice (thn (hl pins s1 σ H1 _ I1 q1) λvl s2 ⟨l,H2,I2,pl,q2⟩=>thn (hu pins s2 σ H2 _ I2 q2) λvu s3 hZ=>?_)
obtain⟨u,H3,I3,pu,q3⟩:=hZ
rw[evalPart_none]
refine kJ ?_
have I4:Inv X pins σ H3 { s3 with heap:=s3.heap.push { cls:=.type "slice",data:=.fields #[vl,vu,.none] } }:=I3.kept (t':=s3.toks) λb ob q=>hR _ q
obtain⟨T,id,hT,ht,hg⟩:=hr pins { s3 with heap:=s3.heap.push { cls:=.type "slice",data:=.fields #[vl,vu,.none] } } σ H3 x v vl vu l u s3.heap.objs.size Q I4 r1 (lR ..) pl pu q3
show wpAny (model X.prog X.w) X.A (subscriptTail e (.Slice lo hi none p2) v (.ref s3.heap.objs.size)) (EP X pins σ Q) X.xe { s3 with heap:=s3.heap.push { cls:=.type "slice",data:=.fields #[vl,vu,.none] } }
exact tail_any (ops:=[.ref s3.heap.objs.size,v]) ht hT hg (by with_unfolding_all rfl))
noncomputable def cutV(xs:List V)(lo hi:Option Int):List V:=(xs.drop (HT.sIx xs.length 0 lo)).take (HT.sIx xs.length xs.length hi-HT.sIx xs.length 0 lo)
theorem q6Z(xs:List V)(lo hi:Option Int):(cutV xs lo hi).length≤xs.length:=by unfold cutV;rw[dC,nK];omega
end
noncomputable def ixN(n:Nat)(i:Int):Option Nat:=if 0≤i then(if i<n then some i.toNat else none)else if-(n:Int)≤i then some (i+n).toNat else none
noncomputable def atI{α:Type}(xs:List α)(i:Int):Option α:=(ixN xs.length i).bind λj=>xs[j]?
theorem q91{n:Nat}{i:Int}{j:Nat}(h:ixN n i=some j):seqIndex? i n=some j∧j<n∧-(n:Int)≤i∧i<n:=by(
unfold ixN at h
by_cases h0:0≤i
·rw[hU h0]at h;by_cases h1:i<n
 ·rw[hU h1]at h;have e:i.toNat=j:=kH h;exact⟨by rw[pO h0 h1,e],by omega,by omega,h1⟩
 rw[hV h1]at h;cases h
rw[hV h0]at h
by_cases h1:-(n:Int)≤i
·rw[hU h1]at h;have e:(i+n).toNat=j:=kH h;exact⟨by rw[c4 (by omega) h1,e],by omega,h1,by omega⟩
rw[hV h1]at h;cases h)
theorem q5Q{α:Type}{xs:List α}{i:Int}{v:α}(h:atI xs i=some v):∃j,seqIndex? i xs.length=some j∧xs[j]?=some v∧j<xs.length∧-(xs.length:Int)≤i∧i<xs.length:=by(
unfold atI at h
cases e:ixN xs.length i with
|none=>rw[e]at h;cases h
|some j=>rw[e]at h;obtain⟨h1,h2,h3,h4⟩:=q91 e;exact⟨j,h1,h,h2,h3,h4⟩)
theorem q0V{α:Type}{xs:List α}{j:Nat}{v:α}(h:xs[j]?=some v):atI xs (j:Int)=some v:=by
 have hj:j<xs.length:=(kD.mp h).1;have e:ixN xs.length (j:Int)=some j:=by unfold ixN;rw[hU (by omega),hU (by omega)];simp
 unfold atI;rw[e];exact h
noncomputable def qC7(b:Expr):Prop:=∀o i,subscripted b false o i=operate [o,i] (getItem o i)
noncomputable def IxR(X:Cx)(r:R2):Prop:=∀(value slice:Expr) (pins:List (Addr×Obj)) (s:Shared) (σ:St) (H:Hp) (x y:V) (v u:Value) (Q:VK),Inv X pins σ H s→RelV x v→RelV y u→r x y H Q→subscripted slice false v u=operate [v,u] (getItem v u)→wpAny (model X.prog X.w) X.A (subscriptTail value slice v u) (EP X pins σ Q) X.xe s
noncomputable def MtR(X:Cx)(id:String)(r:V→List V→Hp→VK→Prop):Prop:=∀(pins:List (Addr×Obj)) (s:Shared) (σ:St) (H:Hp) (x:V) (xs:List V) (v:Value) (us:List Value) (Q:VK),Inv X pins σ H s→RelV x v→Vals xs us→r x xs H Q→wpAny (model X.prog X.w) X.A (call (.builtin id) (v::us)) (EP X pins σ Q) X.xe s
section
variable{X:Cx}{a b:Expr}{ta tb:TE}{pos:Pos}
theorem yL{r:R2}(hr:IxR X r)(ha:PE X a ta)(hb:PE X b tb)(hs:qC7 b):PE X (.Subscript a b pos) (tOp r ta tb):=by intro pins s σ H Q I h;exact nY (binT ha hb I h λv u s2 x y H2 I2 rx ry q=>hr a b pins s2 σ H2 x y v u Q I2 rx ry q (hs _ _))
noncomputable def rIxL(K:PySem.W.Frag):R2:=λx y H Q=>∃p xs i v,x=.ref p∧y=.int i∧SqL K H p xs∧atI xs i=some v∧Q v H
noncomputable def rIxT(K:PySem.W.Frag):R2:=λx y H Q=>∃p xs i v,x=.ref p∧y=.int i∧SqT K H p xs∧atI xs i=some v∧Q v H
theorem jS:IxR X (rIxL X.K):=by(
intro value slice pins s σ H x y v u Q I rx ry h hs
obtain⟨p,xs,i,z,rfl,rfl,hq,he,q⟩:=h
cases rx
obtain⟨t,rfl⟩:=ry
obtain⟨its,r,pl,hz⟩:=I.list hq
obtain⟨j,h1,h2,h3,h4,h5⟩:=q5Q he
obtain⟨w,ew,rw'⟩:=r.get h2
have hl:=r.length
have hn:=q3N
have fin:EP X pins σ Q w s:=⟨z,H,I,rw',q⟩
by_cases h0:0≤i
·have hj:i.toNat=j:=by rw[pO h0 h5]at h1;exact kH h1
 exact item_listR pl.isList h0 (by omega) (by rw[hj];simpa using ew) fin hs
have hj:(i+(its.toArray.size:Int)).toNat=j:=by rw[c4 (by omega) h4]at h1;rw[kL,←hl];exact kH h1
exact c5 (x:=w) pl.isList.typeIs sX.lookup
 (c6 (Q:=λr s'=>r=w∧EP X pins σ Q r s') pl.isList (by omega) (by rw[kL]<;>omega) (by omega) (by rw[hj];simpa using ew) ⟨rfl,fin⟩) hs)
theorem q85:IxR X (rIxT X.K):=by(
intro value slice pins s σ H x y v u Q I rx ry h hs
obtain⟨p,xs,i,z,rfl,rfl,hq,he,q⟩:=h
cases rx
obtain⟨t,rfl⟩:=ry
obtain⟨its,r,pl,hz⟩:=I.tuple hq
obtain⟨j,h1,h2,h3,h4,h5⟩:=q5Q he
obtain⟨w,ew,rw'⟩:=r.get h2
have hl:=r.length
have hn:=q3N
have fin:EP X pins σ Q w s:=⟨z,H,I,rw',q⟩
exact c5 (x:=w) pl.typeIs slot_tuple_getitem.lookup
 (getItem_tuple (j:=j) (Q:=λr s'=>r=w∧EP X pins σ Q r s') pl (by omega) (by omega) (by rw[kL,←hl];exact h1) (by simpa using ew) ⟨rfl,fin⟩) hs)
theorem q86(its:List Value)(n j:Nat)(u:Value):Obj.mapSeq (·.setIfInBounds j u) { cls:=.type "list",data:=.seq its.toArray n } = { cls:=.type "list",data:=.seq (its.set j u).toArray n }:=by simp[Obj.mapSeq]
theorem Inv.lst{pins:List (Addr×Obj)}{σ:St}{H:Hp}{s:Shared}{p:Addr}{xs:List V}(I:Inv X pins σ H s)(h:H p=some (.lst xs)):
 ∃(its:List Value) (n:Nat),Vals xs its∧s.heap.get? p=some { cls:=.type "list",data:=.seq its.toArray n }∧xs.length≤sizeLine:=by obtain⟨z,its,n,r,e⟩:=I.hok p _ h;exact⟨its,n,r,e,z⟩
theorem Inv.lstUpd{pins:List (Addr×Obj)}{σ:St}{H:Hp}{s:Shared}{p:Addr}{xs ys:List V}{its its':List Value}{n n':Nat}{f:Obj→Obj}(I:Inv X pins σ H s)(h:H p=some (.lst xs))
 (ho:s.heap.get? p=some { cls:=.type "list",data:=.seq its.toArray n }) (hf:f { cls:=.type "list",data:=.seq its.toArray n } = { cls:=.type "list",data:=.seq its'.toArray n' }) (r:Vals ys its') (hz:ys.length≤sizeLine) (t:Nat):
 Inv X pins σ (upd H p (.lst ys)) { s with heap:=s.heap.update p f,toks:=t }:=by
 have e:(s.heap.update p f).get? p=some { cls:=.type "list",data:=.seq its'.toArray n' }:=by rw[gK f ho (by rw[hf]<;>rfl),hf]
 refine I.write (x:=p) (e:=p) (by rw[h];trivial) (.inl rfl) (λb u hb q=>(mB _ _ (rG hb)).trans q) ⟨_,e⟩ ?_;exact⟨hz,its',n',r,e⟩
noncomputable def qG0:V→V→V→Hp→(Hp→Prop)→Prop:=λo i v H Q=>∃p xs k j,o=.ref p∧i=.int k∧H p=some (.lst xs)∧ixN xs.length k=some j∧Q (upd H p (.lst (xs.set j v)))
theorem uJ:PSet X qG0:=by(
intro pins s σ H o i v ov iv u Q I ro ri rv h
obtain⟨p,xs,k,j,rfl,rfl,hp,hj,q⟩:=h
cases ro
obtain⟨t,rfl⟩:=ri
obtain⟨its,n,r,ho,hz⟩:=I.lst hp
obtain⟨h1,h2,h3,h4⟩:=q91 hj
have hl:=r.length
have hn:=q3N
have I':Inv X pins σ (upd H p (.lst (xs.set j v))) { s with heap:=s.heap.update p (Obj.mapSeq (·.setIfInBounds j u)) }:=I.lstUpd hp ho (q86 its n j u) (r.set rv j) (by rw[m7];exact hz) s.toks
by_cases h0:0≤k
·have hk:k.toNat=j:=by rw[pO h0 h4]at h1;exact kH h1
 exact PySem.W.ki_setAt ho h0 (by omega) (by rw[kL,←hl];exact h4) (by rw[hk];exact⟨_,I',q⟩)
have hk:(k+(its.toArray.size:Int)).toNat=j:=by rw[c4 (by omega) h3]at h1;rw[kL,←hl];exact kH h1
exact PySem.W.ki_setBack ho (by omega) (by rw[kL,←hl];exact h3) (by omega) (by rw[hk];exact⟨_,I',q⟩))
theorem q5R(lo hi:Option Int)(n:Nat):(sliceBounds lo hi none n).1=((HT.sIx n 0 lo:Nat):Int)∧(sliceBounds lo hi none n).2.1=((HT.sIx n n hi:Nat):Int)∧(sliceBounds lo hi none n).2.2=1:=by(
refine⟨?_,?_,rfl⟩
·cases lo with
 |none=>simp[sliceBounds,HT.sIx]
 |some i=>
  simp only[sliceBounds,HT.sIx,nL,show(1:Int)>0 by decide,if_true];by_cases h:i<0
  ·simp only[h,if_true]<;>omega
  simp only[h,if_false]<;>omega
cases hi with
|none=>simp[sliceBounds,HT.sIx]
|some i=>
 simp only[sliceBounds,HT.sIx,nL,show(1:Int)>0 by decide,if_true];by_cases h:i<0
 ·simp only[h,if_true]<;>omega
 simp only[h,if_false]<;>omega)
theorem q4E(its:List Value)(lo hi:Option Int):slicePick its.toArray lo hi none=((its.drop (HT.sIx its.length 0 lo)).take (HT.sIx its.length its.length hi-HT.sIx its.length 0 lo)).toArray:=by(
obtain⟨h1,h2,h3⟩:=q5R lo hi its.toArray.size
unfold slicePick
rw[h1,h2,h3]
simp only[sliceRange_one,pick_run,kL]<;>rfl)
noncomputable def rSlL(K:PySem.W.Frag):V→Option Int→Option Int→Hp→VK→Prop:=λx lo hi H Q=>∃a xs,x=.ref a∧SqL K H a xs∧∀p,H p=none→Q (.ref p) (upd H p (.lst (cutV xs lo hi)))
theorem qC8:SlR X (rSlL X.K):=by(
intro pins s σ H x v vl vu lo hi sl Q I rx hs pl pu h
obtain⟨a,xs,rfl,hx,q⟩:=h
cases rx
obtain⟨its,r,ht,hz⟩:=I.list hx
have hlen:=r.length
refine⟨"list",_,sX.lookup,ht.isList.typeIs,?_⟩
refine wpAny_getItem_list_slice ht.isList hs pl pu .none (by simp) ?_ (by rw[kL]<;>omega)
rw[q4E,←hlen]
refine⟨.ref s.heap.objs.size,_,I.laid (t':=s.toks) (o:=.lst (cutV xs lo hi)) (λb ob q=>hR _ q) (kB _) ?_,rfl,q _ (I.hok.fresh (kB _))⟩
exact⟨kY (q6Z xs lo hi) hz,_,0,(r.drop (HT.sIx xs.length 0 lo)).take (HT.sIx xs.length xs.length hi-HT.sIx xs.length 0 lo),kU _ rfl⟩)
noncomputable def uU:V→Bool
| .non=>true
| .bl _=>true
| .int _=>true
| .str _=>true
|_=>false
noncomputable def eqV:V→V→Bool
| .non,.non=>true
| .bl a,.bl b=>a==b
| .bl a,.int b=>(if a then 1 else 0)==b
| .int a,.bl b=>a==(if b then 1 else 0)
| .int a,.int b=>a==b
| .str a,.str b=>a==b
|_,_=>false
theorem qAV{A:Around}{s:Shared}{y x:V}{u v:Value}(ry:RelV y u)(rx:RelV x v)(fy:uU y=true)(fx:uU x=true):SeqAt.EqAt A s u v (eqV y x):=by(
cases y with
|non=>
 cases ry;cases x with
 |non=>cases rx;exact pC _
 |bl b=>cases rx;exact SeqAt.EqAt.none_bool b
 |int b=>obtain⟨t,rfl⟩:=rx;exact SeqAt.EqAt.none_int b t
 |str b=>obtain⟨t,rfl⟩:=rx;exact SeqAt.EqAt.none_str b t
 |_=>exact absurd (show false=true from fx) kC
|bl a=>
 cases ry;cases x with
 |non=>cases rx;exact SeqAt.EqAt.bool_none a
 |bl b=>cases rx;exact SeqAt.EqAt.bool_bool a b
 |int b=>obtain⟨t,rfl⟩:=rx;exact SeqAt.EqAt.bool_int a b t
 |str b=>obtain⟨t,rfl⟩:=rx;exact SeqAt.EqAt.bool_str a b t
 |_=>exact absurd (show false=true from fx) kC
|int a=>
 obtain⟨t',rfl⟩:=ry;cases x with
 |non=>cases rx;exact SeqAt.EqAt.int_none a t'
 |bl b=>cases rx;exact SeqAt.EqAt.int_bool a t' b
 |int b=>obtain⟨t,rfl⟩:=rx;exact SeqAt.EqAt.int_int a t' b t
 |str b=>obtain⟨t,rfl⟩:=rx;exact p8 a t' b t
 |_=>exact absurd (show false=true from fx) kC
|str a=>
 obtain⟨t',rfl⟩:=ry;cases x with
 |non=>cases rx;exact SeqAt.EqAt.str_none a t'
 |bl b=>cases rx;exact SeqAt.EqAt.str_bool a t' b
 |int b=>obtain⟨t,rfl⟩:=rx;exact p9 a t' b t
 |str b=>obtain⟨t,rfl⟩:=rx;exact SeqAt.EqAt.str_str a t' b t
 |_=>exact absurd (show false=true from fx) kC
|_=>exact absurd (show false=true from fy) kC)
noncomputable def eqU(x:V)(u:Value):Bool:=match u with
| .none=>eqV .non x
| .bool b=>eqV (.bl b) x
| .int i _=>eqV (.int i) x
| .str z _=>eqV (.str z) x
|_=>false
theorem qAW{x y:V}{u:Value}(r:RelV y u)(f:uU y=true):eqU x u=eqV y x:=by(
cases y with
|non=>cases r;rfl
|bl b=>cases r;rfl
|int i=>obtain⟨t,rfl⟩:=r;rfl
|str z=>obtain⟨t,rfl⟩:=r;rfl
|_=>exact absurd (show false=true from f) kC)
theorem q21{x:V}:∀{xs:List V} {us:List Value},Vals xs us→xs.all uU=true→us.any (eqU x)=xs.any λy=>eqV y x
|_,_,.nil,_=>rfl
|y::xs,u::us,.cons r t,f=>by rw[lL,kO]at f;rw[rY,rY,qAW r f.1,q21 t f.2]
theorem q03{A:Around}{s:Shared}{x:V}{v:Value}(rx:RelV x v)(fx:uU x=true):∀{xs:List V} {us:List Value},Vals xs us→xs.all uU=true→∀u∈us,SeqAt.EqAt A s u v (eqU x u)
|_,_,.nil,_=>λu hu=>by cases hu
|y::xs,u::us,.cons r t,f=>λu' hu=>by
 rw[lL,kO]at f;rcases kG.mp hu with rfl|hu
 ·rw[qAW r f.1];exact qAV r rx f.1 fx
 exact q03 rx fx t f.2 u' hu
noncomputable def inV(x:V)(xs:List V):Bool:=xs.any λy=>eqV y x
noncomputable def rIn(K:PySem.W.Frag)(neg:Bool):R2:=λx y H Q=>∃p xs,y=.ref p∧(SqL K H p xs∨SqT K H p xs)∧uU x=true∧xs.all uU=true∧Q (.bl (if neg then !inV x xs else inV x xs)) H
theorem q9N:OpR X (compareOp .In) (rIn X.K false):=by(
intro pins s σ H x y v u Q I rx ry h
obtain⟨p,xs,rfl,hq,fx,fs,q⟩:=h
cases ry
rcases hq with hq|hq
·obtain⟨its,r,pl,hz⟩:=I.list hq;refine SeqAt.in_listAt (eqU x) pl.isList (λw hw=>q03 rx fx r fs w (by simpa using hw)) ⟨.bl _,H,I,rfl,?_⟩;rw[show its.toArray.any (eqU x)=its.any (eqU x) by simp,q21 r fs];exact q
obtain⟨its,r,pl,hz⟩:=I.tuple hq
refine SeqAt.in_tupleAt (eqU x) pl (λw hw=>q03 rx fx r fs w (by simpa using hw)) ⟨.bl _,H,I,rfl,?_⟩
rw[show its.toArray.any (eqU x)=its.any (eqU x) by simp,q21 r fs]
exact q)
theorem zL:OpR X (compareOp .NotIn) (rIn X.K true):=by(
intro pins s σ H x y v u Q I rx ry h
obtain⟨p,xs,rfl,hq,fx,fs,q⟩:=h
cases ry
rcases hq with hq|hq
·obtain⟨its,r,pl,hz⟩:=I.list hq;refine SeqAt.notIn_listAt (eqU x) pl.isList (λw hw=>q03 rx fx r fs w (by simpa using hw)) ⟨.bl _,H,I,rfl,?_⟩;rw[show its.toArray.any (eqU x)=its.any (eqU x) by simp,q21 r fs];exact q
obtain⟨its,r,pl,hz⟩:=I.tuple hq
refine SeqAt.notIn_tupleAt (eqU x) pl (λw hw=>q03 rx fx r fs w (by simpa using hw)) ⟨.bl _,H,I,rfl,?_⟩
rw[show its.toArray.any (eqU x)=its.any (eqU x) by simp,q21 r fs]
exact q)
theorem yA:q1Y X (.builtin "len") (λxs H Q=>∃p ys,xs=[.ref p]∧(SqL X.K H p ys∨SqT X.K H p ys)∧Q (.int ys.length) H):=by(
intro pins s σ H xs us Q I r h
obtain⟨p,ys,rfl,hq,q⟩:=h
obtain⟨u,rfl,rx⟩:=q3O r
cases rx
have hn:=q3N
rcases hq with hq|hq
·obtain⟨its,r',pl,hz⟩:=I.list hq;have hlen:=r'.length;exact Calls.call_len_list pl.isList (by simp only[kL]<;>omega) ⟨.int ys.length,H,I.tok _,⟨s.toks+1,by rw[kL,hlen]⟩,q⟩
obtain⟨its,r',pl,hz⟩:=I.tuple hq
have hlen:=r'.length
exact len_tuple pl (by simp only[kL]<;>omega) ⟨.int ys.length,H,I.tok _,⟨s.toks+1,by rw[kL,hlen]⟩,q⟩)
theorem q5S:q1Y X (.type "list") (λxs H Q=>∃p ys,xs=[.ref p]∧(SqL X.K H p ys∨SqT X.K H p ys)∧∀l,H l=none→Q (.ref l) (upd H l (.lst ys))):=by(
intro pins s σ H xs us Q I r h
obtain⟨p,ys,rfl,hq,q⟩:=h
obtain⟨u,rfl,rx⟩:=q3O r
cases rx
have fin:∀(its:List Value),Vals ys its→ys.length≤sizeLine→∀(h':Heap) (c':Nat),(∀b o',s.heap.get? b=some o'→h'.get? b=some o')→h'.get? s.heap.objs.size=some { cls:=.type "list",dict:=none,data:=.seq its.toArray c',slots:=#[] }→EP X pins σ Q (.ref s.heap.objs.size) { s with heap:=h' }:=λits r' hz h' c' kp e=>⟨.ref s.heap.objs.size,_,I.laid (t':=s.toks) kp (kB _) (show jF X.prog X.w _ h' _ (.lst ys)from⟨hz,its,c',r',e⟩),rfl,q _ (I.hok.fresh (kB _))⟩
rcases hq with hq|hq
·obtain⟨its,r',pl,hz⟩:=I.list hq;have hlen:=r'.length;obtain⟨o,ho,hc,n,hd⟩:=pl.isList;exact call_list_seq p (.inl rfl) ho hc hd (λh' c' kp e=>fin its r' hz h' c' kp e) (by simp only[kL]<;>omega)
obtain⟨its,r',pl,hz⟩:=I.tuple hq
have hlen:=r'.length
obtain⟨o,ho,hc,n,hd⟩:=pl
exact call_list_seq p (.inr rfl) ho hc hd (λh' c' kp e=>fin its r' hz h' c' kp e) (by simp only[kL]<;>omega))
noncomputable def tyV(K:PySem.W.Frag)(T:String)(x:V)(H:Hp):Prop:=match x with
| .str _=>T="str"
| .int _=>T="int"
| .ref p=>(T="list"∧∃xs,SqL K H p xs)∨(T="tuple"∧∃o,K.lookup p=some o∧o.cls=.type "tuple"∧o.dict=none)∨(T="dict"∧((∃kvs,H p=some (.dK kvs))∨∃kvs,H p=some (.dT kvs)))∨(T="set"∧∃S n,H p=some (.set S n))
|_=>False
theorem qE5{pins:List (Addr×Obj)}{σ:St}{H:Hp}{s:Shared}{T:String}{x:V}{v:Value}(I:Inv X pins σ H s)(r:RelV x v)(ty:tyV X.K T x H):
 s.TypeIs v T∧∀a,v=.ref a→∃ob,s.heap.get? a=some ob∧ob.dict=none:=by(
cases x with
|str z=>obtain⟨t,rfl⟩:=r;cases(show T="str" from ty);exact⟨typeIs_str s z t,λ_ e=>nomatch e⟩
|int i=>obtain⟨t,rfl⟩:=r;cases(show T="int" from ty);exact⟨nZ s i t,λ_ e=>nomatch e⟩
|ref p=>
 cases r;rcases ty with⟨rfl,xs,hq⟩|⟨rfl,o,hk,hc,hd⟩|⟨rfl,hk⟩|⟨rfl,S,n,hk⟩
 ·obtain⟨its,_,pl,_⟩:=I.list hq;refine⟨pl.isList.typeIs,λa e=>?_⟩;cases e;obtain⟨o,n,e,c,hd,_⟩:=pl;exact⟨o,e,hd⟩
 ·refine⟨⟨o,I.kIn p o hk,hc⟩,λa e=>?_⟩;cases e;exact⟨o,I.kIn _ o hk,hd⟩
 ·have z:∃o,s.heap.get? p=some o∧o.ExactDict:=by
   rcases hk with⟨kvs,hk⟩|⟨kvs,hk⟩
   ·obtain⟨_,_,_,_,o,_,_,e,ex,_⟩:=I.hok p _ hk;exact⟨o,e,ex⟩
   obtain⟨_,_,_,_,o,_,_,e,ex,_⟩:=I.hok p _ hk;exact⟨o,e,ex⟩
  obtain⟨o,e,ex⟩:=z;refine⟨⟨o,e,ex.1⟩,λa e2=>?_⟩;cases e2;exact⟨o,e,ex.2.1⟩
 obtain⟨o,_,_,_,e,ex,_⟩:=I.hok p _ hk;refine⟨⟨o,e,ex.1⟩,λa e2=>?_⟩;cases e2;exact⟨o,e,ex.2.1⟩
|_=>exact False.elim ty)
noncomputable def tBM(K:PySem.W.Frag)(T:String)(r:V→List V→Hp→VK→Prop)(to:TE)(t:TA):TE:=λσ H Q=>to σ H λx H1=>tyV K T x H1∧t σ H1 λxs H2=>r x xs H2 Q
variable{o e:Expr}{es:List Expr}{to:TE}{t:TA}{name:Str}{apos cpos:Pos}{T id:String}{r:V→List V→Hp→VK→Prop}
theorem q70(pa:PlainAttrs T)(slot:Slot T name id)(hty:typeOf (.builtin id)=pure (.type "method_descriptor"))(hm:MtR X id r)(ho:PE X o to)(ha:PA X (e::es) t)
 (hbase:attributeBase o name X.env (eval o X.env)=eval o X.env:=by rfl)
 (hfew:((backTo cpos (starEach (e::es) X.env)).all (λx=>!x.1)&&(backToKw cpos (keywordEach [] X.env)).all (λx=>x.1.isSome)
  &&decide ((e::es).length+([]:List Keyword).length+(if([]:List Keyword).isEmpty then 0 else 1)<30))=true:=by rfl)
 (hline:(apos.endLine==cpos.line)=true:=by rfl) (hs:starEach (e::es) X.env=(false,eval e X.env)::starEach es X.env:=by rfl) (hplain:(backTo cpos (starEach es X.env)).any (·.1)=false:=by rfl):
 PE X (.Call (.Attribute o name apos) (e::es) [] cpos) (tBM X.K T r to t):=by(
intro pins s σ H Q I h
refine wpAny_Call_method_late hbase hfew hline rfl (thn (ho pins s σ H _ I h) λv s1 hZ=>?_)
obtain⟨x,H1,I1,r1,ty,q1⟩:=hZ
obtain⟨h1,h2⟩:=qE5 I1 r1 ty
refine⟨T,id,pa,slot,hty,h1,h2,?_⟩
have hA:=ha cpos pins s1 σ H1 _ I1 q1
rw[hs]at hA ⊢
refine c7 (by show(false||(backTo cpos (starEach es X.env)).any (·.1))=false;rw[hplain]<;>rfl) (pP ?_)
exact thn hA λus s2 ⟨vs,H2,I2,r2,q2⟩=>hm pins s2 σ H2 x vs v us Q I2 r1 r2 q2)
end
noncomputable def MtM(X:Cx)(id:String)(r:V→List V→Hp→VK→Prop):Prop:=∀(pins:List (Addr×Obj)) (s:Shared) (σ:St) (H:Hp) (x:V) (xs:List V) (v:Value) (us:List Value) (Q:VK),Inv X pins σ H s→RelV x v→Vals xs us→r x xs H Q→wpAny (model X.prog X.w) X.A (call (.builtin id) (v::us)) (EP X pins σ Q) X.xe s
theorem Vals.one{x:V}{us:List Value}(h:Vals [x] us):∃u,us=[u]∧RelV x u:=by
 cases h with
 |cons r t=>cases t;exact⟨_,rfl,r⟩
theorem Vals.rep{xs:List V}{us:List Value}(h:Vals xs us):∀k:Nat,Vals (List.replicate k xs).flatten (List.replicate k us).flatten
|0=>.nil
|k+1=>by rw[gP,gP,rJ,rJ];exact Vals.append h (Vals.rep h k)
theorem q55(its:List Value):∀(k:Nat) (acc:List Value),List.foldl (λx1 x2=>x1++x2) acc.toArray (List.replicate k its.toArray)=(acc++(List.replicate k its).flatten).toArray
|0,acc=>by simp
|k+1,acc=>by
 have e:acc.toArray++its.toArray=(acc++its).toArray:=by simp
 have e2:(acc++its)++(List.replicate k its).flatten=acc++(List.replicate (k+1) its).flatten:=by rw[gP,rJ,wG]
 rw[←e2,←q55 its k (acc++its),←e,gP,List.foldl_cons]
section
variable{X:Cx}{pins:List (Addr×Obj)}{σ:St}{H:Hp}{s:Shared}{l b:Addr}{xs ys zs:List V}
theorem Inv.lset{its its':List Value}{n:Nat}{f:Array Value→Array Value}{t':Nat}(I:Inv X pins σ H s)(hH:H l=some (.lst xs))
 (e:s.heap.get? l=some { cls:=.type "list",data:=.seq its.toArray n }) (hf:f its.toArray=its'.toArray) (hv:Vals ys its') (hz:ys.length≤sizeLine):
 Inv X pins σ (upd H l (.lst ys)) { s with heap:=s.heap.update l (Obj.mapSeq f),toks:=t' }:=by(
have q:=PySem.IsL.update e f
rw[hf]at q
refine I.write (x:=l) (e:=l) (by rw[hH];exact trivial) (.inl rfl) (λb' u hb hu=>(mB s.heap (Obj.mapSeq f) (rG hb)).trans hu) ⟨_,q⟩ ?_
exact⟨hz,its',_,hv,q⟩)
theorem Inv.lnew{its:List Value}{t':Nat}(I:Inv X pins σ H s)(hv:Vals ys its)(hz:ys.length≤sizeLine):
 Inv X pins σ (upd H s.heap.objs.size (.lst ys)) { s with heap:=s.heap.push { cls:=.type "list",data:=.seq its.toArray },toks:=t' }:=I.laid (λ_ _ q=>hR _ q) (kB _) ⟨hz,its,0,hv,kU _ rfl⟩
theorem Inv.fresh(I:Inv X pins σ H s):H s.heap.objs.size=none:=I.hok.fresh (kB _)
theorem Inv.lstM(I:Inv X pins σ H s)(hH:H l=some (.lst xs)):xs.length≤sizeLine∧∃(its:List Value) (n:Nat),Vals xs its∧xs.length=its.length∧s.heap.get? l=some { cls:=.type "list",data:=.seq its.toArray n }:=by obtain⟨z,its,n,r,e⟩:=I.hok l _ hH;exact⟨z,its,n,r,r.length,e⟩
theorem qAX{n:Nat}(h:n≤sizeLine):Builtin.List.listTooLong n=false:=by unfold Builtin.List.listTooLong;exact hZ (by omega)
end
section
variable{X:Cx}
noncomputable def qC9:V→List V→Hp→VK→Prop:=λx vs H Q=>∃l xs y,x=.ref l∧vs=[y]∧H l=some (.lst xs)∧xs.length<sizeLine∧Q .non (upd H l (.lst (xs++[y])))
theorem v6:MtM X "list.append" qC9:=by(
intro pins s σ H x vs v us Q I rx rv h
obtain⟨l,xs,y,rfl,rfl,hH,hz,q⟩:=h
cases rx
obtain⟨u,rfl,ru⟩:=rv.one
obtain⟨z,its,n,r,hl,e⟩:=I.lstM hH
refine n8 F.slot_list_append ⟨_,e,rfl⟩ F.entry_list_append (F.args_list_append_2 _ _) (PySem.list_append l its.toArray n u (by rw[kL];omega)) ⟨e,?_⟩
refine⟨.non,_,I.lset (its':=its++[u]) hH e (by simp) (r.append (.cons ru .nil)) ?_,rfl,q⟩
rw[kZ,rF]
omega)
noncomputable def rRep:R2:=λx y H Q=>∃l k xs,x=.ref l∧y=.int k∧H l=some (.lst xs)∧-(2 ^ 63)≤k∧k<2 ^ 63∧xs.length*k.toNat≤sizeLine∧∀p,H p=none→Q (.ref p) (upd H p (.lst (List.replicate k.toNat xs).flatten))
theorem qCA{α:Type}(xs:List α)(k:Nat):(List.replicate k xs).flatten.length=k*xs.length:=by(
induction k with
|zero=>simp
|succ k ih=>rw[gP,rJ,kZ,ih,c8,Nat.add_comm])
theorem qE6:OpR X (binaryOp .Mult) rRep:=by(
intro pins s σ H x y v u Q I rx ry h
obtain⟨l,k,xs,rfl,rfl,hH,h1,h2,hz,q⟩:=h
cases rx
obtain⟨t,rfl⟩:=ry
obtain⟨z,its,n,r,hl,e⟩:=I.lstM hH
have hlen:its.toArray.size*k.toNat≤sizeLine:=by rw[kL,←hl];exact hz
have hcap:¬its.toArray.size*k.toNat>(2 ^ 63-1) / 8:=by
 have:(sizeLine:Nat)≤(2 ^ 63-1) / 8:=by decide
 omega
have hfit:¬(!Builtin.List.listFitsIndex k)=true:=by rw[fitsIndex_both h1 h2];exact kC
have hlong:¬Builtin.List.listTooLong (its.toArray.size*k.toNat)=true:=by rw[qAX hlen];exact kC
have hnew:List.foldl (λx1 x2=>x1++x2) #[] (List.replicate (if its.toArray.isEmpty=true then 0 else k.toNat) its.toArray)=(List.replicate k.toNat its).flatten.toArray:=by
 have f0:∀m:Nat,List.foldl (λx1 x2=>x1++x2) #[] (List.replicate m its.toArray)=(List.replicate m its).flatten.toArray:=λm=>by have:=q55 its m [];rw[nR]at this;exact this
 rw[f0];cases its with
 |nil=>simp
 |cons a r'=>rw[hV (by simp)]
refine wpAny_binaryOp_repeat_ref (T:="list") (U:="int") (by decide) ⟨_,e,rfl⟩ (λs'=>nZ s' k t) noFill_list_mul F.fills_int_mul nS repeat_list F.slot_int_index.lookup
 (n8 nS (nZ s k t) F.entry_int_rmul (F.args_int_rmul_2 _ _) (int___rmul___int_list k t l its.toArray n)
  ⟨e,rfl,⟨_,e,rfl⟩,n8 F.slot_list_mul ⟨_,e,rfl⟩ F.entry_list_mul (F.args_list_mul_2 _ _) (AutoListH.list___mul___list_int_3 l its.toArray n k t hfit hcap hlong) ⟨e,?_⟩⟩)
rw[hnew]
exact⟨.ref _,_,I.lnew (t':=s.toks) (r.rep k.toNat) (by rw[qCA,Nat.mul_comm];exact hz),rfl,q _ I.fresh⟩)
end
section
variable{κ:Type}[DecidableEq κ]
noncomputable def valV(kvs:List (κ×V))(k:κ):Option V:=(kvs.find? λkv=>decide (kv.1=k)).map (·.2)
noncomputable def putK(kvs:List (κ×V))(k:κ)(v:V):List (κ×V):=if(kvs.any λkv=>decide (kv.1=k))=true then kvs.map (λkv=>if kv.1=k then(kv.1,v)else kv)else kvs++[(k,v)]
noncomputable def q3R(kvs:List (κ×V))(k:κ):List (κ×V):=kvs.filter λkv=>decide (kv.1≠k)
theorem y6{p:κ×V}{r:List (κ×V)}{k:κ}(e:p.1=k):valV (p::r) k=some p.2:=by simp[valV,gZ,e]
theorem jV{p:κ×V}{r:List (κ×V)}{k:κ}(e:¬p.1=k):valV (p::r) k=valV r k:=by simp[valV,gZ,e]
theorem q22(k:κ):∀kvs:List (κ×V),(kvs.any λkv=>decide (kv.1=k))=(valV kvs k).isSome
| []=>rfl
|p::r=>by
 rw[rY];by_cases e:p.1=k
 ·simp only[y6 e,hW e,Bool.true_or,Option.isSome_some]
 rw[jV e,hZ e,Bool.false_or];exact q22 k r
theorem q71(k j:κ)(y:V):∀kvs:List (κ×V),valV (kvs.map λkv=>if kv.1=k then(kv.1,y)else kv) j=(valV kvs j).map λx=>if j=k then y else x
| []=>rfl
|p::r=>by
 have ih:=q71 k j y r;rw[k7];by_cases h:p.1=k
 ·rw[hU h];by_cases e:p.1=j
  ·rw[y6 (p:=(p.1,y)) e,y6 e,r6,hU (e.symm.trans h)]
  rw[jV (p:=(p.1,y)) e,jV e,ih]
 rw[hV h];by_cases e:p.1=j
 ·rw[y6 (p:=p) e,y6 e,r6,hV (λz=>h (e.trans z))]
 rw[jV (p:=p) e,jV e,ih]
theorem q56(k j:κ)(y:V):∀kvs:List (κ×V),valV kvs k=none→valV (kvs++[(k,y)]) j=if j=k then some y else valV kvs j
| [],_=>by
 by_cases e:k=j
 ·rw[hU e.symm];exact y6 (p:=(k,y)) e
 rw[hV (λz=>e z.symm)];exact jV (p:=(k,y)) e
|p::r,hn=>by
 rw[cV];have hk:¬p.1=k:=λz=>by rw[y6 z]at hn;cases hn
 rw[jV hk]at hn;have ih:=q56 k j y r hn;by_cases e:p.1=j
 ·rw[y6 e,y6 e,hV (λz=>hk (e.trans z))]
 rw[jV e,jV e,ih]
theorem q72(kvs:List (κ×V))(k j:κ)(y:V):valV (putK kvs k y) j=if j=k then some y else valV kvs j:=by(
unfold putK
by_cases a:(kvs.any λkv=>decide (kv.1=k))=true
·rw[hU a,q71];rw[q22]at a;by_cases e:j=k
 ·obtain⟨x,hx⟩:=dR.mp a;rw[hU e,e,hx,r6,hU rfl]
 rw[hV e];cases valV kvs j with
 |none=>rfl
 |some x=>rw[r6,hV e]
rw[hV a]
refine q56 k j y kvs ?_
rw[q22]at a
cases q:valV kvs k with
|none=>rfl
|some x=>rw[q]at a;exact(a rfl).elim)
theorem vL(kvs:List (κ×V))(k:κ)(v:V):(putK kvs k v).length≤kvs.length+1:=by(
unfold putK
split
·rw[h8];omega
rw[kZ,kX,pD];omega)
theorem RelO.isSome_eq{o:Option V}{u:Option Value}(r:RelO o u):o.isSome=u.isSome:=by(
cases o with
|none=>cases u with
 |none=>rfl
 |some _=>exact(show False from r).elim
|some _=>cases u with
 |none=>exact(show False from r).elim
 |some _=>rfl)
theorem KV.val{kvs:List (κ×V)}{vs:List (κ×Value)}(r:KV kvs vs)(k:κ):RelO (valV kvs k) (valueAt vs k):=by(
unfold KV at r
induction r with
|nil=>exact True.intro
|@cons p q ps qs h t ih=>
 obtain⟨h1,h2⟩:=h;by_cases e:p.1=k
 ·have e':q.1=k:=h1.symm.trans e;have b:valueAt (q::qs) k=some q.2:=by simp[valueAt,gZ,e']
  rw[y6 e,b];exact h2
 have e':¬q.1=k:=λz=>e (h1.trans z);have b:valueAt (q::qs) k=valueAt qs k:=by simp[valueAt,gZ,e']
 rw[jV e,b];exact ih)
theorem KV.any{kvs:List (κ×V)}{vs:List (κ×Value)}(r:KV kvs vs)(k:κ):(kvs.any λkv=>decide (kv.1=k))=vs.any λkv=>decide (kv.1=k):=by(
unfold KV at r
induction r with
|nil=>rfl
|cons h t ih=>rw[rY,rY,ih,h.1])
theorem KV.repl{kvs:List (κ×V)}{vs:List (κ×Value)}(r:KV kvs vs)(k:κ){y:V}{u:Value}(ry:RelV y u):
 KV (kvs.map λkv=>if kv.1=k then(kv.1,y)else kv) (vs.map λkv=>if kv.1=k then(kv.1,u)else kv):=by(
unfold KV at r ⊢
induction r with
|nil=>exact .nil
|@cons p q ps qs h t ih=>
 rw[k7,k7];refine .cons ?_ ih;obtain⟨h1,h2⟩:=h;by_cases e:p.1=k
 ·rw[hU e,hU (h1.symm.trans e)];exact⟨h1,ry⟩
 rw[hV e,hV (λz=>e (h1.trans z))];exact⟨h1,h2⟩)
theorem KV.put{kvs:List (κ×V)}{vs:List (κ×Value)}(r:KV kvs vs)(k:κ){y:V}{u:Value}(ry:RelV y u):KV (putK kvs k y) (stored vs k u):=by(
unfold putK stored
rw[r.any k]
by_cases e:(vs.any λkv=>decide (kv.1=k))=true
·rw[hU e,hU e];exact r.repl k ry
rw[hV e,hV e];exact Paired.snoc r ⟨rfl,ry⟩)
theorem KV.drop{kvs:List (κ×V)}{vs:List (κ×Value)}(r:KV kvs vs)(k:κ):KV (q3R kvs k) (without vs k):=by(
unfold KV at r ⊢
unfold q3R without
induction r with
|nil=>exact .nil
|@cons p q ps qs h t ih=>
 obtain⟨h1,h2⟩:=h;rw[mJ,mJ];by_cases e:p.1=k
 ·have a:¬decide (p.1≠k)=true:=by simp[e]
  have b:¬decide (q.1≠k)=true:=by simp[h1.symm.trans e]
  rw[hV a,hV b];exact ih
 have e':¬q.1=k:=λz=>e (h1.trans z);have a:decide (p.1≠k)=true:=by simp[e]
 have b:decide (q.1≠k)=true:=by simp[e']
 rw[hU a,hU b];exact .cons ⟨h1,h2⟩ ih)
theorem KV.keys{kvs:List (κ×V)}{vs:List (κ×Value)}(r:KV kvs vs):kvs.map (·.1)=vs.map (·.1):=by(
unfold KV at r
induction r with
|nil=>rfl
|cons h t ih=>rw[k7,k7,ih,h.1])
theorem KV.length{kvs:List (κ×V)}{vs:List (κ×Value)}(r:KV kvs vs):kvs.length=vs.length:=pZ r
theorem qAY(kvs:List (κ×V))(k:κ):(q3R kvs k).length≤kvs.length:=mL _ _
end
theorem q3S{P:Program}{w:World}{k:Key}{u:Value}(r:RelV (kV k) u):(jP P w).is k u=true:=by(
cases k with
|inl i=>obtain⟨t,e⟩:=(show ∃t,u=Value.int i t from r);subst e;exact q6T P w i t
|inr x=>obtain⟨t,e⟩:=(show ∃t,u=Value.str x t from r);subst e;exact q6U P w x t)
theorem q57{P:Program}{w:World}:∀{ks:List Key} {us:List Value},Vals (ks.map kV) us→ItemsAre (jP P w) ks us
| [],_,r=>by rw[sY]at r;cases r;exact .nil
|k::ks,_,r=>by
 rw[k7]at r;cases r with
 |cons h t=>exact .cons (q3S h) (q57 t)
noncomputable abbrev KT(H:Hp):List (List Key×V)→List (List Key×Addr×Value)→Prop:=Paired λp q=>p.1=q.1∧H q.2.1=some (.tup (p.1.map kV))∧RelV p.2 q.2.2
theorem KT.val{H:Hp}{kvs:List (List Key×V)}{xs:List (List Key×Addr×Value)}(r:KT H kvs xs)(k:List Key):RelO (valV kvs k) ((atKey xs k).map (·.2)):=by(
induction r with
|nil=>exact True.intro
|@cons p q ps qs h t ih=>
 obtain⟨h1,_,h2⟩:=h;by_cases e:p.1=k
 ·have e':q.1=k:=h1.symm.trans e;have b:atKey (q::qs) k=some q.2:=by simp[atKey,gZ,e']
  rw[y6 e,b];exact h2
 have e':¬q.1=k:=λz=>e (h1.trans z);have b:atKey (q::qs) k=atKey qs k:=by simp[atKey,gZ,e']
 rw[jV e,b];exact ih)
theorem KT.repl{H:Hp}{kvs:List (List Key×V)}{xs:List (List Key×Addr×Value)}(r:KT H kvs xs)(k:List Key){y:V}{u:Value}(ry:RelV y u):
 KT H (kvs.map λkv=>if kv.1=k then(kv.1,y)else kv) (xs.map (putAt k u)):=by(
induction r with
|nil=>exact .nil
|@cons p q ps qs h t ih=>
 rw[k7,k7];refine .cons ?_ ih;obtain⟨h1,h2,h3⟩:=h;unfold putAt;by_cases e:p.1=k
 ·rw[hU e,hU (h1.symm.trans e)];exact⟨h1,h2,ry⟩
 rw[hV e,hV (λz=>e (h1.trans z))];exact⟨h1,h2,h3⟩)
theorem KT.put{H:Hp}{kvs:List (List Key×V)}{xs:List (List Key×Addr×Value)}(r:KT H kvs xs)(k:List Key){b:Addr}{y:V}{u:Value}(hb:H b=some (.tup (k.map kV)))(ry:RelV y u):
 KT H (putK kvs k y) (storedH xs k b u):=by(
have e:(kvs.any λkv=>decide (kv.1=k))=(atKey xs k).isSome:=by rw[q22,(r.val k).isSome_eq,cQ]
unfold putK storedH
rw[e]
by_cases q:(atKey xs k).isSome=true
·rw[hU q,hU q];exact r.repl k ry
rw[hV q,hV q];exact Paired.snoc r ⟨rfl,hb,ry⟩)
theorem KT.keeps{H H':Hp}{kvs:List (List Key×V)}{xs:List (List Key×Addr×Value)}(r:KT H kvs xs)(ht:∀b ys,H b=some (.tup ys)→H' b=some (.tup ys)):KT H' kvs xs:=Paired.mapP r λ_ _ z=>⟨z.1,ht _ _ z.2.1,z.2.2⟩
section
variable{P:Program}{w:World}{H:Hp}{h:Heap}{a:Addr}
theorem qDQ{u:HO}(ok:HOk P w H h)(e:Rd H a u):jF P w H h a u:=e.ok ok
theorem q58{kvs:List (Key×V)}(ok:HOk P w H h)(e:Rd H a (.dK kvs)):kvs.length≤sizeLine∧(a==sysModules)=false∧∃vs,KV kvs vs∧h.DictOf (jP P w) a vs:=show jF P w H h a (.dK kvs)from qDQ ok e
theorem q73{kvs:List (Key×V)}(ok:HOk P w H h)(e:H a=some (.dK kvs)):kvs.length≤sizeLine∧(a==sysModules)=false∧∃vs,KV kvs vs∧h.DictOf (jP P w) a vs:=q58 ok (.inl e)
theorem q3T{ks:List Key}(ok:HOk P w H h)(e:H a=some (.tup (ks.map kV))):(tupleKind (jP P w)).is h ks a:=by obtain⟨_,its,r,o,h1,h2,n,h3⟩:=(show jF P w H h a (.tup (ks.map kV))from ok a _ e);exact⟨o,its.toArray,n,h1,h2,h3,by simpa using q57 r⟩
theorem q59{kvs:List (List Key×V)}(ok:HOk P w H h)(e:Rd H a (.dT kvs)):kvs.length≤sizeLine∧(a==sysModules)=false∧∃xs,KT H kvs xs∧h.DictOfH (tupleKind (jP P w)) a xs:=by(
obtain⟨z,y,xs,r,o,es,ep,h1,h2,h3,h4,h5⟩:=(show jF P w H h a (.dT kvs)from qDQ ok e)
refine⟨z,y,xs,r,o,es,ep,h1,h2,h3,h4,λx hx=>?_,h5⟩
have all:∀{l:List (List Key×V)} {m:List (List Key×Addr×Value)},KT H l m→∀x∈m,(tupleKind (jP P w)).is h x.1 x.2.1:=by
 intro l m q;induction q with
 |nil=>intro x hx;exact nomatch hx
 |@cons p q ps qs hq t ih=>
  intro x hx;rcases kG.mp hx with e|hx
  ·subst e;exact q3T ok (by rw[←hq.1];exact hq.2.1)
  exact ih x hx
exact all r x hx)
theorem qG1{kvs:List (List Key×V)}(ok:HOk P w H h)(e:H a=some (.dT kvs)):kvs.length≤sizeLine∧(a==sysModules)=false∧∃xs,KT H kvs xs∧h.DictOfH (tupleKind (jP P w)) a xs:=q59 ok (.inl e)
end
noncomputable def DGet(H:Hp)(a:Addr)(y:V)(r:Option V):Prop:=(∃kvs k,Rd H a (.dK kvs)∧y=kV k∧r=valV kvs k)∨∃kvs k b,Rd H a (.dT kvs)∧y=.ref b∧H b=some (.tup (k.map kV))∧r=valV kvs k
noncomputable def DPut(H:Hp)(a:Addr)(y v:V)(H':Hp):Prop:=(∃kvs k,H a=some (.dK kvs)∧y=kV k∧kvs.length<sizeLine∧H'=upd H a (.dK (putK kvs k v)))∨∃kvs k b,H a=some (.dT kvs)∧y=.ref b∧H b=some (.tup (k.map kV))∧kvs.length<sizeLine∧H'=upd H a (.dT (putK kvs k v))
theorem DGet.k{H:Hp}{a:Addr}{kvs:List (Key×V)}{k:Key}(e:H a=some (.dK kvs)):DGet H a (kV k) (valV kvs k):=.inl ⟨kvs,k,.inl e,rfl,rfl⟩
theorem DPut.k{H:Hp}{a:Addr}{kvs:List (Key×V)}{k:Key}{v:V}(e:H a=some (.dK kvs))(hl:kvs.length<sizeLine):DPut H a (kV k) v (upd H a (.dK (putK kvs k v))):=.inl ⟨kvs,k,e,rfl,hl,rfl⟩
section
variable{X:Cx}{pins:List (Addr×Obj)}{σ:St}{H:Hp}{s:Shared}{a:Addr}{y v:V}{u r:Value}{o:Option V}{A:Around}{E:Value→Shared→Prop}
theorem Inv.big(I:Inv X pins σ H s):sysModules<s.heap.objs.size:=by have h:mainGlobals<s.heap.objs.size:=(I.mod.glob.keeps I.bk).lt;exact Nat.lt_trans (by decide) h
theorem q9O{Q:Value→Shared→Prop}(hu:A.units+1<cLine)(I:Inv X pins σ H s)(g:DGet H a y (some v))(ry:RelV y u)(h:∀w' s',Inv X pins σ H s'→RelV v w'→Q w' s'):
 wpAny (model X.prog X.w) A (getItem (.ref a) u) Q E s:=by(
rcases g with⟨kvs,k,e,ey,l⟩|⟨kvs,k,b,e,ey,eb,l⟩
·subst ey;obtain⟨z,hd,vs,rel,dd⟩:=q58 I.hok e;obtain⟨w',hw,rw'⟩:=RelO.some_of (v:=v) (o:=valueAt vs k) (by rw[l];exact rel.val k);exact wpAny_getItem_of (q3S ry) dd.mapOf hw (h w' _ (I.tok _) rw')
subst ey
cases(show u=Value.ref b from ry)
obtain⟨z,hd,xs,rel,dd⟩:=q59 I.hok e
obtain⟨w',hw,rw'⟩:=RelO.some_of (v:=v) (o:=(atKey xs k).map (·.2)) (by rw[l];exact rel.val k)
obtain⟨p,hp,hp2⟩:=mP.mp hw
refine wpAny_getItem_heap (wA hu) (q3T I.hok eb) dd hp ?_
rw[hp2]
exact h w' _ (I.tok _) rw')
theorem d_in{Q:Value→Shared→Prop}(hu:A.units+1<cLine)(I:Inv X pins σ H s)(g:DGet H a y o)(ry:RelV y u)(h:∀s',Inv X pins σ H s'→Q (.bool o.isSome) s'):
 wpAny (model X.prog X.w) A (compareOp .In u (.ref a)) Q E s:=by(
rcases g with⟨kvs,k,e,ey,l⟩|⟨kvs,k,b,e,ey,eb,l⟩
·subst ey;obtain⟨z,hd,vs,rel,dd⟩:=q58 I.hok e;refine wpAny_in_of (q3S ry) hd dd.mapOf ?_;rw[←(rel.val k).isSome_eq,←l];exact h _ (I.tok _)
subst ey
cases(show u=Value.ref b from ry)
obtain⟨z,hd,xs,rel,dd⟩:=q59 I.hok e
refine wpAny_in_heap (wA hu) (q3T I.hok eb) hd dd ?_
have q:=(rel.val k).isSome_eq
rw[cQ]at q
rw[←q,←l]
exact h _ (I.tok _))
theorem qCB{Q:Value→Shared→Prop}(hu:A.units+1<cLine)(I:Inv X pins σ H s)(g:DGet H a y o)(ry:RelV y u)(h:∀s',Inv X pins σ H s'→Q (.bool (!o.isSome)) s'):
 wpAny (model X.prog X.w) A (compareOp .NotIn u (.ref a)) Q E s:=by(
rcases g with⟨kvs,k,e,ey,l⟩|⟨kvs,k,b,e,ey,eb,l⟩
·subst ey;obtain⟨z,hd,vs,rel,dd⟩:=q58 I.hok e;refine wpAny_notIn_of (q3S ry) hd dd.mapOf ?_;rw[←(rel.val k).isSome_eq,←l];exact h _ (I.tok _)
subst ey
cases(show u=Value.ref b from ry)
obtain⟨z,hd,xs,rel,dd⟩:=q59 I.hok e
refine wpAny_notIn_heap (wA hu) (q3T I.hok eb) hd dd ?_
have q:=(rel.val k).isSome_eq
rw[cQ]at q
rw[←q,←l]
exact h _ (I.tok _))
theorem q3D{h':Heap}{t':Nat}{ob:HO}(I:Inv X pins σ H s)(mu:Mut (H a))(hs:Heap.SameBut a s.heap h')(he:∃q,h'.get? a=some q)(new:jF X.prog X.w (upd H a ob) h' a ob):
 Inv X pins σ (upd H a ob) { s with heap:=h',toks:=t' }:=I.write (x:=a) (e:=a) mu (.inl rfl) (λb q hb z=>(hs.2 b hb).trans z) he new
theorem q87{P:Program}{w:World}{H':Hp}{h':Heap}{kvs:List (Key×V)}{vs:List (Key×Value)}(z:kvs.length≤sizeLine)(hd:(a==sysModules)=false)(rel:KV kvs vs)(dd:h'.DictOf (jP P w) a vs):
 jF P w H' h' a (.dK kvs):=⟨z,hd,vs,rel,dd⟩
theorem q9P{H':Hp}{Q:Unit→Shared→Prop}(hu:A.units+1<cLine)(I:Inv X pins σ H s)(g:DPut H a y v H')(ry:RelV y u)(rv:RelV v r)(h:∀s',Inv X pins σ H' s'→Q () s'):
 wpAny (model X.prog X.w) A (setItem (.ref a) u r) Q E s:=by(
rcases g with⟨kvs,k,e,ey,l,eH⟩|⟨kvs,k,b,e,ey,eb,l,eH⟩
·subst ey eH;obtain⟨z,hd,vs,rel,dd⟩:=q73 I.hok e;have hz:vs.length≤sizeLine:=by rw[←rel.length];exact z
 have hl:(putK kvs k v).length≤sizeLine:=by have:=vL kvs k v;omega
 refine wpAny_setItem_pairs (hsz:=hz) (q3S ry) dd λh' dd' hs=>h _ ?_;have he:∃q,h'.get? a=some q:=let⟨q,_,_,hq,_⟩:=dd';⟨q,hq⟩
 exact q3D I (by rw[e];exact True.intro) hs he (q87 hl hd (rel.put k rv) dd')
subst ey eH
cases(show u=Value.ref b from ry)
obtain⟨z,hd,xs,rel,dd⟩:=qG1 I.hok e
have hz:xs.length≤sizeLine:=by rw[←pZ rel];exact z
have hl:(putK kvs k v).length≤sizeLine:=by have:=vL kvs k v;omega
refine wpAny_setItem_heap (hsz:=hz) (wA hu) (q3T I.hok eb) dd λh' dd' hs=>h _ ?_
obtain⟨q,es,ep,hq,h2,h3,h4,_,h5⟩:=dd'
refine q3D I (by rw[e];exact True.intro) hs ⟨q,hq⟩ ⟨hl,hd,_,(rel.put k eb rv).keeps λc ys ec=>?_,q,es,ep,hq,h2,h3,h4,h5⟩
rw[qD (jN ec e (λz=>nomatch z))]
exact ec)
end
section
variable{X:Cx}{pins:List (Addr×Obj)}{σ:St}{H:Hp}{s:Shared}{a:Addr}{kvs:List (Key×V)}{k:Key}{u:Value}{A:Around}{E:Value→Shared→Prop}
theorem qG2{v:V}{more:List Value}{Q:Value→Shared→Prop}(I:Inv X pins σ H s)(e:H a=some (.dK kvs))(ry:RelV (kV k) u)(l:valV kvs k=some v)(hm:more=[]∨∃x,more=[x])
 (h:∀w' s',Inv X pins σ (upd H a (.dK (q3R kvs k))) s'→RelV v w'→Q w' s'):wpAny (model X.prog X.w) A (call (.builtin "dict.pop") (.ref a::u::more)) Q E s:=by(
obtain⟨z,hd,vs,rel,dd⟩:=q73 I.hok e
obtain⟨w',hw,rw'⟩:=RelO.some_of (v:=v) (o:=valueAt vs k) (by rw[←l];exact rel.val k)
have hp:(keyPart u).isSome=true:=by
 cases k with
 |inl i=>obtain⟨t,q⟩:=(show ∃t,u=Value.int i t from ry);subst q;rfl
 |inr x=>obtain⟨t,q⟩:=(show ∃t,u=Value.str x t from ry);subst q;rfl
have ha:argsOk "dict.pop" ⟨.ref a::u::more,[]⟩:=by
 rcases hm with q|⟨x,q⟩
 ·subst q;exact PySem.F.args_dict_pop_2 _ _
 subst q;exact PySem.F.args_dict_pop_3 _ _ _
refine call_meetsIn pJ dd.typeIs PySem.F.entry_dict_pop ha (meets_dict_pop_there (jP X.prog X.w) a (q3S ry) more hm hp)
 ⟨vs,w',dd,by rw[←rel.length];exact z,hw,λh' dd' hs=>h w' _ ?_ rw'⟩
have he:∃q,h'.get? a=some q:=let⟨q,_,_,hq,_⟩:=dd';⟨q,hq⟩
exact q3D I (by rw[e];exact True.intro) hs he (q87 (kY (qAY kvs k) z) hd (rel.drop k) dd'))
end
noncomputable def NoSl(i:Expr):Prop:=∀ov iv,subscripted i false ov iv=operate [ov,iv] (getItem ov iv)
theorem qCC{prog:Program}{w:World}{A:Around}{E:Value→Shared→Prop}{s:Shared}{env:Env}{value slice:Expr}{pos:Pos}{T id:String}{Q:Value→Shared→Prop}
 (hl:typeLookup (.type T) "__getitem__"=pure (some (.builtin id))) (hs:NoSl slice)
 (h:wpAny (model prog w) A (eval value env) (λo s₁=>wpAny (model prog w) A (eval slice env) (λi s₂=>s₂.TypeIs o T∧wpAny (model prog w) A (getItem o i) Q E s₂) E s₁) E s):
 wpAny (model prog w) A (eval (.Subscript value slice pos) env) Q E s:=by(
refine nY (gB h (λo s₁ h₁=>gB h₁ (λi s₂ h₂=>?_) λ_ _ x=>x) λ_ _ x=>x)
obtain⟨hT,h₂⟩:=h₂
unfold subscriptTail
refine hI ?_
rw[getitemInPython_of_ne hT.not_modules]
refine hI (wpAny_specialOf hT hl ?_)
have fin:wpAny (model prog w) A (subscripted slice false o i) (λr s₃=>wpAny (model prog w) A (letTemporaryGo value o r >>= λ_=>pure r) Q E s₃) E s₂:=by rw[hs o i];exact wpAny_operating (gB h₂ (λr s₃ h₃=>hI (wpAny_letTemporaryGo (kJ h₃))) λ_ _ x=>x)
first
 |exact kJ (hI fin)
 |exact hI (kJ (hI fin))
 |exact hI fin)
theorem q74{X:Cx}{pins:List (Addr×Obj)}{σ:St}{H:Hp}{s:Shared}{a:Addr}{y:V}{o:Option V}(I:Inv X pins σ H s)(g:DGet H a y o):s.TypeIs (.ref a) "dict":=by(
rcases g with⟨kvs,k,e,_,_⟩|⟨kvs,k,b,e,_,_,_⟩
·obtain⟨_,_,vs,_,dd⟩:=q58 I.hok e;exact dd.typeIs
obtain⟨_,_,xs,_,dd⟩:=q59 I.hok e
exact dd.typeIs)
noncomputable def qG3(td ty:TE):TE:=λσ H Q=>td σ H λx H1=>ty σ H1 λy H2=>∃a v,x=.ref a∧DGet H2 a y (some v)∧Q v H2
noncomputable def tDIn(ty td:TE):TE:=λσ H Q=>ty σ H λy H1=>td σ H1 λx H2=>∃a o,x=.ref a∧DGet H2 a y o∧Q (.bl o.isSome) H2
noncomputable def qCD(ty td:TE):TE:=λσ H Q=>ty σ H λy H1=>td σ H1 λx H2=>∃a o,x=.ref a∧DGet H2 a y o∧Q (.bl (!o.isSome)) H2
noncomputable def qG4(td ty tv:TE):TS:=λD σ H=>tv σ H λv H1=>td σ H1 λx H2=>ty σ H2 λy H3=>∃a H4,x=.ref a∧DPut H3 a y v H4∧D.nx σ H4
section
variable{X:Cx}{o i e value:Expr}{pos pos' tpos:Pos}{td ty tv:TE}
theorem qQ(hu:X.A.units+1<cLine)(ho:PE X o td)(hi:PE X i ty)(hs:NoSl i):PE X (.Subscript o i pos) (qG3 td ty):=by(
intro pins s σ H Q I h
refine qCC PySem.F.slot_dict_getitem.lookup hs (thn (ho pins s σ H _ I h) λu s1 ⟨x,H1,I1,rx,q1⟩=>thn (hi pins s1 σ H1 _ I1 q1) λiv s2 hZ=>?_)
obtain⟨y,H2,I2,ry,a,v,ex,g,q2⟩:=hZ
subst ex
obtain rfl:u=Value.ref a:=rx
exact⟨q74 I2 g,q9O hu I2 g ry λw' s3 I3 rw'=>⟨v,H2,I3,rw',q2⟩⟩)
theorem q3U(hu:X.A.units+1<cLine)(hi:PE X i ty)(ho:PE X o td):PC X .In i o (tDIn ty td):=by(
intro pins s σ H Q I h
refine thn (hi pins s σ H _ I h) λiv s1 ⟨y,H1,I1,ry,q1⟩=>thn (ho pins s1 σ H1 _ I1 q1) λu s2 hZ=>?_
obtain⟨x,H2,I2,rx,a,ov,ex,g,q2⟩:=hZ
subst ex
obtain rfl:u=Value.ref a:=rx
exact d_in hu I2 g ry λs3 I3=>⟨.bl ov.isSome,H2,I3,rfl,q2⟩)
theorem q5A(hu:X.A.units+1<cLine)(hi:PE X i ty)(ho:PE X o td):PC X .NotIn i o (qCD ty td):=by(
intro pins s σ H Q I h
refine thn (hi pins s σ H _ I h) λiv s1 ⟨y,H1,I1,ry,q1⟩=>thn (ho pins s1 σ H1 _ I1 q1) λu s2 hZ=>?_
obtain⟨x,H2,I2,rx,a,ov,ex,g,q2⟩:=hZ
subst ex
obtain rfl:u=Value.ref a:=rx
exact qCB hu I2 g ry λs3 I3=>⟨.bl (!ov.isSome),H2,I3,rfl,q2⟩)
theorem jW(hu:X.A.units+1<cLine)(ho:PE X o td)(hi:PE X i ty)(hv:PE X value tv)(hs:swapsWith value (some (.Subscript o i pos')) pos.line X.env=pure false):
 PS X (.Assign [.Subscript o i pos'] value pos) (qG4 td ty tv):=by(
intro pins s σ H D I h
refine wpAny_Assign_Subscript (thn (hv pins s σ H _ I h) λr s1 ⟨v,H1,I1,rv,q1⟩=>thn (ho pins s1 σ H1 _ I1 q1) λu s2 ⟨x,H2,I2,rx,q2⟩=>thn (hi pins s2 σ H2 _ I2 q2) λiv s3 hZ=>?_) hs
obtain⟨y,H3,I3,ry,a,H4,ex,g,q3⟩:=hZ
subst ex
obtain rfl:u=Value.ref a:=rx
exact q9P hu I3 g ry rv λs4 I4=>⟨σ,H4,I4,q3⟩)
end
theorem q75{P:Program}{w:World}{H:Hp}(h:Heap)(hb:sysModules<h.objs.size):jF P w H (h.push { cls:=.type "dict",data:=.dict #[] }) h.objs.size (.dK []):=⟨mO _,g0.mpr (rG (kW hb)),[],.nil,Heap.DictOf.new h⟩
noncomputable def qE7:TE:=λ_ H Q=>∀p,H p=none→Q (.ref p) (upd H p (.dK []))
section
variable{X:Cx}{pos:Pos}
theorem q23:PE X (.Dict [] [] pos) qE7:=λpins s σ H Q I h=>wpAny_Dict_empty ⟨.ref s.heap.objs.size,_,I.laid (a:=s.heap.objs.size) (o:=.dK []) (t':=s.toks) (λ_ _ q=>hR _ q) (kB _) (q75 s.heap I.big),rfl,h _ (I.hok.fresh (kB _))⟩
end
noncomputable def q88:List (TE×TE)→St→Hp→(List (V×V)→Hp→Prop)→Prop
| [],_,H,Q=>Q [] H
|(tk,tv)::r,σ,H,Q=>tk σ H λx H1=>tv σ H1 λy H2=>q88 r σ H2 λps H3=>Q ((x,y)::ps) H3
noncomputable abbrev VV:List (V×V)→List (Value×Value)→Prop:=Paired λp q=>RelV p.1 q.1∧RelV p.2 q.2
noncomputable def PPs(X:Cx)(pos:Pos)(keys:List (Option Expr))(values:List Expr)(trs:List (TE×TE)):Prop:=∀(pins:List (Addr×Obj)) (s:Shared) (σ:St) (H:Hp) (Q:List (V×V)→Hp→Prop),Inv X pins σ H s→q88 trs σ H Q→wpAny (model X.prog X.w) X.A (evalPairs (pairTrees keys values X.env pos)) (λvs s'=>∃ps H',Inv X pins σ H' s'∧VV ps vs∧Q ps H') X.xe s
theorem qCE{X:Cx}{pos:Pos}:PPs X pos [] [] []:=λpins s σ H Q I h=>pairTrees_nil_walk ⟨[],H,I,.nil,h⟩
theorem uK{X:Cx}{pos:Pos}{k v:Expr}{ks:List (Option Expr)}{vs:List Expr}{tk tv:TE}{trs:List (TE×TE)}(hk:PE X k tk)(hv:PE X v tv)(hr:PPs X pos ks vs trs):
 PPs X pos (some k::ks) (v::vs) ((tk,tv)::trs):=λpins s σ H Q I h=>
 pairTrees_cons_walk (thn (hk pins s σ H _ I h) λu s1 ⟨x,H1,I1,rx,q1⟩=>thn (hv pins s1 σ H1 _ I1 q1) λw2 s2 ⟨y,H2,I2,ry,q2⟩=>thn (hr pins s2 σ H2 _ I2 q2) λws s3 ⟨ps,H3,I3,rel,q3⟩=>⟨(x,y)::ps,H3,I3,.cons ⟨rx,ry⟩ rel,q3⟩)
noncomputable def q2J(kvs more:List (Key×V)):List (Key×V):=more.foldl (λacc kv=>putK acc kv.1 kv.2) kvs
theorem KV.merge:∀{more:List (Key×V)} {rs:List (Key×Value)} {kvs:List (Key×V)} {vs:List (Key×Value)},KV more rs→KV kvs vs→KV (q2J kvs more) (merged vs rs):=by(
intro more rs kvs vs r
unfold KV at r
induction r generalizing kvs vs with
|nil=>intro q;exact q
|@cons p q ps qs h t ih=>
 intro r0;have e:KV (putK kvs p.1 p.2) (stored vs q.1 q.2):=by have:=r0.put p.1 h.2;rw[←h.1];exact this
 exact ih e)
theorem q16:∀(more kvs:List (Key×V)),(q2J kvs more).length≤kvs.length+more.length
| [],kvs=>by show kvs.length≤kvs.length+0;omega
|p::r,kvs=>by have h1:=q16 r (putK kvs p.1 p.2);have h2:=vL kvs p.1 p.2;show(q2J (putK kvs p.1 p.2) r).length≤_;rw[kX];omega
theorem q3V{P:Program}{w:World}:∀{kvs:List (Key×V)} {ws:List (Value×Value)},VV (kvs.map λkv=>(kV kv.1,kv.2)) ws→∃rs,Carries (jP P w) ws rs∧KV kvs rs
| [],_,r=>by rw[sY]at r;cases r;exact⟨[],True.intro,.nil⟩
|p::kvs,_,r=>by
 rw[k7]at r;cases r with
 |@cons a b as bs h t=>obtain⟨rs,c,q⟩:=q3V (P:=P) (w:=w) t;obtain⟨b1,b2⟩:=b;exact⟨(p.1,b2)::rs,⟨q3S h.1,rfl,c⟩,.cons ⟨rfl,h.2⟩ q⟩
noncomputable def qG5(trs:List (TE×TE)):TE:=λσ H Q=>∀p,H p=none→q88 trs σ (upd H p (.dK [])) λps H2=>H2 p=some (.dK [])∧∃kvs:List (Key×V),ps=kvs.map (λkv=>(kV kv.1,kv.2))∧kvs.length≤15∧Q (.ref p) (upd H2 p (.dK (q2J [] kvs)))
theorem qCF{X:Cx}{pos:Pos}{keys:List (Option Expr)}{values:List Expr}{trs:List (TE×TE)}(h:PPs X pos keys values trs)(hall:keys.all (·.isSome)=true)(hl:keys.length=values.length)(h0:keys≠[])
 (h15:keys.length≤15):PE X (.Dict keys values pos) (qG5 trs):=by(
intro pins s σ H Q I q
have hn:=I.hok.fresh (kB s.heap.objs.size)
have I1:=I.laid (a:=s.heap.objs.size) (o:=.dK []) (h':=s.heap.push { cls:=.type "dict",data:=.dict #[] }) (t':=s.toks) (λ_ _ q=>hR _ q) (kB _) (q75 s.heap I.big)
refine wpAny_Dict_walk (knd:=jP X.prog X.w) hall hl h0 h15 (thn (h pins _ σ _ _ I1 (q _ hn)) λws s2 hZ=>?_)
obtain⟨ps,H2,I2,rel,e,kvs,ep,lk,q2⟩:=hZ
subst ep
obtain⟨rs,c,rk⟩:=q3V (P:=X.prog) (w:=X.w) rel
obtain⟨z,hd,vs0,r0,dd⟩:=q73 I2.hok e
cases r0
refine⟨rs,c,dd,λh' dd' hs=>⟨.ref s.heap.objs.size,_,?_,rfl,q2⟩⟩
have hz:(q2J [] kvs).length≤sizeLine:=by have h1:=q16 kvs [];rw[pD]at h1;rw[mT];omega
have he:∃q,h'.get? s.heap.objs.size=some q:=let⟨q,_,_,hq,_⟩:=dd';⟨q,hq⟩
exact q3D I2 (by rw[e];exact True.intro) hs he (q87 hz hd (rk.merge .nil) dd'))
structure M1(X:Cx)(o:Expr)(m:Str)(apos:Pos)(e:Expr)(cpos:Pos):Prop where
base:attributeBase o m X.env (eval o X.env)=eval o X.env
few:((backTo cpos (starEach [e] X.env)).all (λx=>!x.1)&&(backToKw cpos (keywordEach [] X.env)).all (λx=>x.1.isSome)
 &&decide (([e]:List Expr).length+([]:List Keyword).length+(if([]:List Keyword).isEmpty then 0 else 1)<30))=true
line:(apos.endLine==cpos.line)=true
trees:backTo cpos (starEach [e] X.env)=[(false,eval e X.env)]
noncomputable def IsD(H:Hp)(a:Addr):Prop:=(∃kvs,Rd H a (.dK kvs))∨∃kvs,Rd H a (.dT kvs)
theorem qE8{X:Cx}{pins:List (Addr×Obj)}{σ:St}{H:Hp}{s:Shared}{a:Addr}(I:Inv X pins σ H s)(d:IsD H a):
 s.TypeIs (.ref a) "dict"∧(∀b,Value.ref a=.ref b→∃ob,s.heap.get? b=some ob∧ob.dict=none)∧(a==sysModules)=false:=by(
rcases d with⟨kvs,e⟩|⟨kvs,e⟩
·obtain⟨_,hd,vs,_,dd⟩:=q58 I.hok e;refine⟨dd.typeIs,λb q=>?_,hd⟩;cases q;obtain⟨ob,_,_,h1,h2,_⟩:=dd;exact⟨ob,h1,h2.2.1⟩
obtain⟨_,hd,xs,_,dd⟩:=q59 I.hok e
refine⟨dd.typeIs,λb q=>?_,hd⟩
cases q
obtain⟨ob,_,_,h1,h2,_⟩:=dd
exact⟨ob,h1,h2.2.1⟩)
noncomputable def qE9(td ty:TE):TE:=λσ H Q=>td σ H λx H1=>∃a,x=.ref a∧IsD H1 a∧ty σ H1 λy H2=>∃kvs k v,H2 a=some (.dK kvs)∧y=kV k∧valV kvs k=some v∧Q v (upd H2 a (.dK (q3R kvs k)))
section
variable{X:Cx}{o e f:Expr}{apos cpos:Pos}{td ty tx:TE}
theorem q76(ho:PE X o td)(he:PE X e ty)(m:M1 X o "pop" apos e cpos):PE X (.Call (.Attribute o "pop" apos) [e] [] cpos) (qE9 td ty):=by(
intro pins s σ H Q I h
refine wpAny_Call_method m.base m.few m.line PySem.F.plainAttrs_dict pJ PySem.F.type_dict_pop (thn (ho pins s σ H _ I h) λu s1 hZ=>?_)
obtain⟨x,H1,I1,rx,a,ex,d,q1⟩:=hZ
subst ex
obtain rfl:u=Value.ref a:=rx
obtain⟨t1,t2,_⟩:=qE8 I1 d
refine⟨t1,t2,?_⟩
rw[m.trees]
refine c7 rfl (pP (sG (thn (he pins s1 σ H1 _ I1 q1) λiv s2 ⟨y,H2,I2,ry,kvs,k,v,ea,ey,l,q2⟩=>sW ?_)))
subst ey
exact qG2 I2 ea ry l (.inl rfl) λw' s3 I3 rw'=>⟨v,_,I3,rw',q2⟩)
end
end L2
namespace Att
open PySem PySem.W PySem.Calls PyProof.Rows
theorem q30{P:Params}{h:Heap}:∀(ns:List Int) (vs:List Value),WellAll P h vs (ns.map WData.int)→IntsAre vs ns:=by(
intro ns
induction ns with
|nil=>intro vs w;rw[sY]at w;cases w;exact .nil
|cons n ns ih=>
 intro vs w;rw[k7]at w;cases w with
 |cons a b=>cases a;exact .cons _ _ (ih _ b))
theorem q9Q{l:OpenLaw}{n:Nat}(hn:l.most=some n){P:Params}{h:Heap}{args:List WData}{vals:List Value}
 (hpre:l.row.toRowW.claim.pre args=true) (hwl:WellAll P h vals args):
 ∃a vs ns,vals=[Value.ref a]∧args=[WData.list (ns.map WData.int)]∧h.get? a=some { cls:=.type "list",data:=.seq vs.toArray }∧IntsAre vs ns∧ns.length≤n:=by(
have hsh:WShape.hasAll [] args [.list .int]=true:=(pre_splitW hpre).1
have hc:l.pre.holds [] { args:=args } =true:=(pre_splitW hpre).2
obtain⟨d,r,rfl,h1,h2⟩:=hasAllW_cons hsh
obtain rfl:=hasAllW_nil h2
obtain⟨xs,rfl,h3⟩:=hasW_list h1
obtain⟨ns,rfl⟩:=items_int h3
have hlen:ns.length≤n:=by
 unfold OpenLaw.pre at hc;have h4:(WTm.not (.lt (.lit (.int (n:Int))) (.len (.arg 0)))).holds [] { args:=[.list (ns.map .int)] } =true:=by have h4:=(holds_andW hc).1;rw[hn]at h4;exact h4
 have h5:=condW_of h4 (w_not (w_lt w_lit (w_len_list (w_arg rfl))));rw[h8]at h5;refine Nat.le_of_not_lt λq=>?_;have q':(n:Int)<((ns.length:Nat):Int):=by omega
 first
  |(rw[hW q']at h5;exact absurd h5 (by decide))
  |(simp at h5;omega)
cases hwl with
|cons w1 w2=>
 cases w2;cases w1 with
 |list ho hall=>exact⟨_,_,ns,rfl,rfl,ho,q30 ns _ hall,hlen⟩)
theorem q9R(l:OpenLaw)(args:List WData):l.row.toRowW.claim.post args (.bool true) args=true:=postW_of (r:=l.row.toRowW) (X:=(true==true))
  (show WShape.has [] (.bool true) .bool=true by first|rfl|decide|simp[WShape.has,WShape.arms,WShape.armsAll])
  (show(WTm.eq .res (.lit (.bool true))).value [] { args:=args,res:=some (.bool true),after:=args } =some (.bool (true==true))from w_eq_bool (w_res rfl) w_lit) rfl
theorem attach_call{l:OpenLaw}{n:Nat}{q:Program}{loose:List Str}{XP:(Str→Option Value)→Heap→Prop}{YP:World→Heap→Prop}{d:DefRec}
 (hn:l.most=some n) (hdf:d.params.defaults=[])
 (call:∀(w:World) (s₀ s₁:Shared) (mg mb:Str→Option Value) (fa:Addr) (o:Obj) (pm cd doc:Value) (a:Addr) (vs:List Value) (ns:List Int),Ground q loose [] XP w s₀ mg mb s₁.heap→YP w s₁.heap→s₁.heap.get? fa=some o→o.data=.func (docDef d.name d.params d.body d.scope pm cd doc)→s₁.heap.CodeRec cd d.name→mg d.name=some (.ref fa)→s₁.heap.get? a=some { cls:=.type "list",data:=.seq vs.toArray }→IntsAre vs ns→ns.length≤n→s₁.gens=#[]→codeAny (model l.prog w) callerA (.call (.ref fa) ⟨[.ref a],[]⟩) (λr s'=>r=.ok (.ret (.bool true))∧OldK s₁.heap s'.heap∧s'.os=s₁.os∧AllBare s'.gens) s₁):
 WalkO q loose XP YP l.row.toRowW d [] (λf vs=>PySem.call f vs):=by(
intro w s₀ s₁ mg mb G Y fa o pm cd doc dV kV ho hd hcd hD hmg hg args vals as hpre hlay hrd hwl hlo
obtain rfl:dV=.none:=Dflts.none hD hdf
obtain rfl:kV=.none:=Dflts.noKw hD
obtain⟨a,vs,ns,rfl,rfl,hobj,hints,hlen⟩:=q9Q hn hpre hwl
refine enter_call (rA (call w s₀ s₁ mg mb fa o pm cd doc a vs ns G Y ho (fd_plain hd) hcd hmg hobj hints hlen hg) λr s' hq=>?_)
obtain⟨rfl,h2,h3,h4⟩:=hq
exact⟨.inl ⟨.bool true,.bool true,[],rfl,λ_=>rfl,.bool true,q9R l _,λ_=>⟨List.Pairwise.nil,λ_ hm=>(nomatch hm)⟩⟩,h2,h3,h4⟩)
end Att
namespace L2
open PySem PySem.Spec PyProof.Rows
theorem q5B:∀{vs:List Value} {ns:List Int},IntsAre vs ns→Vals (ns.map V.int) vs
|_,_,.nil=>.nil
|_,_,.cons n t h=>.cons ⟨t,rfl⟩ (q5B h)
noncomputable def qT(s:Stmt)(j:Nat):Stmt:=match s with
| .ClassDef _ _ _ body _ _ _ _ _ _ _=>body.getD j (.Pass ⟨0,0,0,0⟩)
|_=>.Pass ⟨0,0,0,0⟩
noncomputable def yB(s:Stmt):Arguments:=match s with
| .FunctionDef _ a _ _ _ _ _ _ _ _=>a
|_=>{ posonlyargs:=[],args:=[],vararg:=none,kwonlyargs:=[],kw_defaults:=[],kwarg:=none,defaults:=[] }
noncomputable def jR(s:Stmt):List Stmt:=match s with
| .FunctionDef _ _ b _ _ _ _ _ _ _=>b
|_=>[]
noncomputable def qH(s:Stmt):Scope:=match s with
| .FunctionDef _ _ _ _ _ _ sc _ _ _=>sc
|_=>{ kind:=.function,names:=[],isGenerator:=false,isCoroutine:=false }
noncomputable abbrev CX0:CXT:=λ_ _ _ _ _ _=>False
noncomputable abbrev E0:XK:=λ_ _ _=>False
theorem qK{X:Cx}:uF CX0 X E0:=λ_ _ _ _ _ _ _ h=>h.elim
theorem vM{A:Around}{k:Nat}(hr:Room k A):A.units+1<cLine:=rB (Nat.add_le_add_left (by decide:1≤64) _) hr.units
section
variable{X:Cx}
theorem pv(i:Nat){x:Str}{pos:Pos}(hN:X.N[i]?=some x:=by rfl)(hv:Vis X.env.scope x:=by first|exact Or.inl rfl|exact Or.inr (Or.inl rfl)|exact Or.inr (Or.inr rfl))(hd:(x==("__debug__":Str))=false:=by decide)
 (hcd:(x==("__classdict__":Str))=false:=by decide):PE X (.Name x pos) (tVar i):=qDX hN hv hd hcd
end
theorem iteF{A B:Prop}(h:B):if false=true then A else B:=by rw[hV kC];exact h
theorem iteT{A B:Prop}(h:A):if true=true then A else B:=by rw[hU rfl];exact h
theorem ite2{c A B:Prop}[Decidable c](h1:c→A)(h2:¬c→B):if c then A else B:=by(
by_cases h:c
·rw[hU h];exact h1 h
rw[hV h]
exact h2 h)
noncomputable def Same(H H':Hp):Prop:=∀b o,H b=some o→H' b=some o
theorem Same.refl(H:Hp):Same H H:=λ_ _ h=>h
theorem Same.trans{H H1 H2:Hp}(a:Same H H1)(b:Same H1 H2):Same H H2:=λc o h=>b c o (a c o h)
theorem Same.free{H H':Hp}(e:Same H H'){l:Addr}(h:H' l=Option.none):H l=Option.none:=by(
cases q:H l with
|none=>rfl
|some o=>rw[e l o q]at h;cases h)
theorem Same.seq{K:PySem.W.Frag}{H H':Hp}{a:Addr}{xs:List V}(e:Same H H')(h:SqL K H a xs):SqL K H' a xs:=by(
rcases h with(h|⟨o,h⟩)|h
·exact .inl (.inl (e _ _ h))
·exact .inl (.inr ⟨o,e _ _ h⟩)
exact .inr h)
section
variable{X:Cx}
theorem qEA:OpR X (compareOp .Is) (λx y H Q=>∃c d,x=.bl c∧y=.bl d∧Q (.bl (c==d)) H):=by(
intro pins s σ H x y v u Q I rx ry h
obtain⟨c,d,rfl,rfl,q⟩:=h
cases rx
cases ry
exact is_bool ⟨.bl _,H,I,rfl,q⟩)
theorem q24:PGet X (rIxL X.K):=by(
intro pins s σ H o i ov iv Q I ro ri h
obtain⟨p,xs,k,z,rfl,rfl,hq,he,q⟩:=h
cases ro
obtain⟨t,rfl⟩:=ri
obtain⟨its,r,pl,hz⟩:=I.list hq
obtain⟨j,h1,h2,h3,h4,h5⟩:=q5Q he
obtain⟨w,ew,rw'⟩:=r.get h2
have hl:=r.length
have hn:=q3N
have fin:EP X pins σ Q w s:=⟨z,H,I,rw',q⟩
by_cases h0:0≤k
·have hj:k.toNat=j:=by rw[pO h0 h5]at h1;exact kH h1
 exact wpAny_getItem_list pl.isList h0 (by lia) (by rw[hj];simpa using ew) fin
have hj:(k+(its.toArray.size:Int)).toNat=j:=by rw[c4 (by lia) h4]at h1;rw[kL,←hl];exact kH h1
exact c6 pl.isList (by lia) (by rw[kL]<;>lia) (by lia) (by rw[hj];simpa using ew) fin)
end
noncomputable def isW:V→Bool
| .int _=>true
|_=>false
noncomputable def isI:V→Bool
| .int _=>true
| .bl _=>true
|_=>false
noncomputable def isB:V→Bool
| .bl _=>true
|_=>false
noncomputable def isS:V→Bool
| .str _=>true
|_=>false
inductive Knd(H:Hp):V→Prop where
|non:Knd H .non
|bl (b:Bool):Knd H (.bl b)
|int (i:Int):Knd H (.int i)
|str (x:Str):Knd H (.str x)
|lst {a:Addr} {xs:List V} (e:H a=some (.lst xs)):Knd H (.ref a)
|tup {a:Addr} {xs:List V} (e:H a=some (.tup xs)):Knd H (.ref a)
theorem Knd.same{H H':Hp}{x:V}(k:Knd H x)(s:Same H H'):Knd H' x:=by(
cases k with
|non=>exact .non
|bl b=>exact .bl b
|int i=>exact .int i
|str x=>exact .str x
|lst e=>exact .lst (s _ _ e)
|tup e=>exact .tup (s _ _ e))
section
variable{K:PySem.W.Frag}{H:Hp}{x:V}
theorem qEB:PySem.W.kitOne K (.type "NoneType") (.type "int")=some false:=by kernel_rfl
theorem qEC:PySem.W.kitOne K (.type "bool") (.type "int")=some true:=by kernel_rfl
theorem qED:PySem.W.kitOne K (.type "int") (.type "int")=some true:=by kernel_rfl
theorem qEE:PySem.W.kitOne K (.type "str") (.type "int")=some false:=by kernel_rfl
theorem qEF:PySem.W.kitOne K (.type "list") (.type "int")=some false:=by kernel_rfl
theorem qEG:PySem.W.kitOne K (.type "tuple") (.type "int")=some false:=by kernel_rfl
theorem qEH:PySem.W.kitOne K (.type "NoneType") (.type "bool")=some false:=by kernel_rfl
theorem qEI:PySem.W.kitOne K (.type "bool") (.type "bool")=some true:=by kernel_rfl
theorem qEJ:PySem.W.kitOne K (.type "int") (.type "bool")=some false:=by kernel_rfl
theorem qEK:PySem.W.kitOne K (.type "str") (.type "bool")=some false:=by kernel_rfl
theorem qEL:PySem.W.kitOne K (.type "list") (.type "bool")=some false:=by kernel_rfl
theorem qEM:PySem.W.kitOne K (.type "tuple") (.type "bool")=some false:=by kernel_rfl
theorem qEN:PySem.W.kitOne K (.type "NoneType") (.type "str")=some false:=by kernel_rfl
theorem qEO:PySem.W.kitOne K (.type "bool") (.type "str")=some false:=by kernel_rfl
theorem qEP:PySem.W.kitOne K (.type "int") (.type "str")=some false:=by kernel_rfl
theorem qEQ:PySem.W.kitOne K (.type "str") (.type "str")=some true:=by kernel_rfl
theorem qER:PySem.W.kitOne K (.type "list") (.type "str")=some false:=by kernel_rfl
theorem qES:PySem.W.kitOne K (.type "tuple") (.type "str")=some false:=by kernel_rfl
theorem qET:PySem.W.kitOne K (.type "tuple") (.type "tuple")=some true:=by kernel_rfl
theorem Knd.ty(k:Knd H x):∃t,TyOf K H x t∧PySem.W.kitOne K t (.type "int")=some (isI x)∧PySem.W.kitOne K t (.type "bool")=some (isB x)∧PySem.W.kitOne K t (.type "str")=some (isS x):=by(
cases k with
|non=>exact⟨_,.non,qEB,qEH,qEN⟩
|bl b=>exact⟨_,.bl b,qEC,qEI,qEO⟩
|int i=>exact⟨_,.int i,qED,qEJ,qEP⟩
|str y=>exact⟨_,.str y,qEE,qEK,qEQ⟩
|lst e=>exact⟨_,.lst e,qEF,qEL,qER⟩
|tup e=>exact⟨_,.tup e,qEG,qEM,qES⟩)
theorem qAZ(x:V):(if isI x=true then !isB x else false)=isW x:=by cases x<;>rfl
end
noncomputable def yY(ns:List Int)(k:Int):Int:=ns.getD k.toNat 0
theorem q9S{ns:List Int}{k:Int}(h0:0≤k)(h:k<ns.length):atI (ns.map V.int) k=some (.int (yY ns k)):=by(
obtain⟨j,rfl⟩:=dX h0
refine q0V ?_
have hj:j<ns.length:=by lia
unfold yY
simp[hj])
theorem q89{ns:List Int}{k:Int}(h0:0≤k)(h:¬k<ns.length):yY ns k=0:=by unfold yY;rw[hG,wK (by lia)];rfl
theorem Same.upd{H:Hp}{p:Addr}{o:HO}(h:H p=none):Same H (upd H p o):=λb u e=>by rw[qD (qF e h)];exact e
noncomputable abbrev NewO(H:Hp)(o:HO)(Q:VK):Prop:=∀p H',H p=none→Same H H'→H' p=some o→Q (.ref p) H'
theorem NewO.at{H:Hp}{o:HO}{Q:VK}(q:NewO H o Q)(p:Addr)(n:H p=none):Q (.ref p) (upd H p o):=q p _ n (Same.upd n) qJ
section
variable{X:Cx}{e:Expr}{es:List Expr}{t:TA}{pos:Pos}
noncomputable def qG6(t:TA):TE:=λσ H Q=>t σ H λxs H1=>xs.length≤sizeLine∧NewO H1 (.tup xs) Q
noncomputable def qG7(t:TA):TE:=λσ H Q=>t σ H λxs H1=>xs.length≤sizeLine∧NewO H1 (.lst xs) Q
theorem v3{x1}(h:PA X es t):PE X (.Tuple es x1 pos) (qG6 t):=by(
intro pins s σ H Q I hq
refine wpAny_Tuple_spliced (thn (h pos pins s σ H _ I hq) λus s1 ⟨xs,H1,I1,r,z,q⟩=>⟨by rw[←r.length];exact z,?_⟩)
have hf:H1 s1.heap.objs.size=none:=I1.hok.fresh (kB _)
refine⟨.ref s1.heap.objs.size,upd H1 s1.heap.objs.size (.tup xs),I1.laid (t':=s1.toks) (λb u e=>hR _ e) (kB _) ?_,rfl,q.at _ hf⟩
exact⟨z,us,r,⟨_,kU _ rfl,rfl,_,rfl⟩⟩)
theorem jT(h:PA X es t):PE X (.List es pos) (qG7 t):=by(
intro pins s σ H Q I hq
refine wpAny_List_spliced (thn (h pos pins s σ H _ I hq) λus s1 ⟨xs,H1,I1,r,z,q⟩=>⟨by rw[←r.length];exact z,?_⟩)
have hf:H1 s1.heap.objs.size=none:=I1.hok.fresh (kB _)
refine⟨.ref s1.heap.objs.size,upd H1 s1.heap.objs.size (.lst xs),I1.laid (t':=s1.toks) (λb u e=>hR _ e) (kB _) ?_,rfl,q.at _ hf⟩
exact⟨z,us,0,r,kU _ rfl⟩)
noncomputable def qG8:R2:=λx y H Q=>∃l k v,x=.ref l∧y=.int k∧H l=some (.lst [v])∧0≤k∧k≤100000∧NewO H (.lst (List.replicate k.toNat v)) Q
theorem q77{α:Type}(v:α):∀k:Nat,(List.replicate k [v]).flatten=List.replicate k v
|0=>rfl
|k+1=>by rw[gP,rJ,q77 v k,gP];rfl
theorem vO:OpR X (binaryOp .Mult) qG8:=by(
intro pins s σ H x y v u Q I rx ry hZ
obtain⟨l,k,z,e1,e2,h1,h2,h3,q⟩:=hZ
refine qE6 pins s σ H x y v u Q I rx ry ⟨l,k,[z],e1,e2,h1,by lia,by lia,?_,?_⟩
·rw[mT,rF];lia
rw[q77]
exact q.at)
theorem q4F:q1Y X (.type "list") (λxs H Q=>∃p ys,xs=[.ref p]∧(SqL X.K H p ys∨SqT X.K H p ys)∧NewO H (.lst ys) Q):=by intro pins s σ H xs us Q I r hZ;obtain⟨p,ys,e,h,q⟩:=hZ;exact q5S pins s σ H xs us Q I r ⟨p,ys,e,h,q.at⟩
end
noncomputable def q92:Sp:=λvs H Q _=>∃x,vs=[x]∧Knd H x∧Q (.bl (isW x)) H
noncomputable def inB(x:V)(lo hi:Int):Bool:=match x with
| .int i=>decide (lo≤i)&&decide (i≤hi)
|_=>false
noncomputable def q78:Sp:=λvs H Q _=>∃x lo hi,vs=[x,.int lo,.int hi]∧Knd H x∧Q (.bl (inB x lo hi)) H
noncomputable def qEU(K:PySem.W.Frag):Sp:=λvs H Q _=>∃a ns k,vs=[.ref a,.int k]∧SqL K H a (ns.map V.int)∧0≤k∧Q (.int (yY ns k)) H
end L2
namespace L2
open PySem
theorem lt2{vs:Array Value}{v:Value}(h:vs[2]?=some v):1<vs.size:=Nat.lt_of_succ_lt (rO.mp h).1
noncomputable def ExO(h:Heap)(e:Addr)(C:Value)(od:Option Addr)(vs:Array Value):Prop:=∃oe,h.get? e=some oe∧oe.cls=C∧oe.dict=od∧oe.data=.fields vs∧vs[2]?=some .none
noncomputable def TrO(h:Heap)(e T:Addr)(vs:Array Value)(f:Value):Prop:=vs[1]?=some (.ref T)∧T≠e∧∃oT ts,h.get? T=some oT∧oT.data=.fields ts∧ts[3]?=some f
noncomputable def Air(L:Addr)(h:Heap)(e:Addr)(C:Value)(od:Option Addr):Option Addr→Prop
|none=>∃vs,ExO h e C od vs∧vs[1]?=some .none
|some T=>∃vs f,ExO h e C od vs∧TrO h e T vs f∧(f=.none∨f=rawInt L)
noncomputable def Held(f:Value)(h:Heap)(e T:Addr)(C:Value)(od:Option Addr):Prop:=∃vs,ExO h e C od vs∧TrO h e T vs f
structure Chg(fr rs:List Addr)(h h':Heap):Prop where
keep:∀b o,b∉fr→b∉rs→h.get? b=some o→h'.get? b=some o
slot:∀b o,b∉rs→h.get? b=some o→∃sl,h'.get? b=some { o with slots:=sl }
there:∀b o,h.get? b=some o→∃o',h'.get? b=some o'
theorem Chg.refl{fr rs:List Addr}{h:Heap}:Chg fr rs h h:=⟨λ_ _ _ _ e=>e,λ_ o _ e=>⟨o.slots,e⟩,λ_ o e=>⟨o,e⟩⟩
theorem Chg.trans{fr rs:List Addr}{h h1 h2:Heap}(x:Chg fr rs h h1)(y:Chg fr rs h1 h2):Chg fr rs h h2:=⟨λb o f r e=>y.keep b o f r (x.keep b o f r e),λb o r e=>let⟨_,e1⟩:=x.slot b o r e;let⟨sl,e2⟩:=y.slot b _ r e1;⟨sl,e2⟩,λb o e=>let⟨_,e1⟩:=x.there b o e;y.there b _ e1⟩
theorem Chg.fresh{fr rs rs':List Addr}{h h1 h2:Heap}(x:Chg fr rs h h1)(y:Chg fr rs' h1 h2)(n:∀b∈rs',b∈rs∨h.get? b=none):Chg fr rs h h2:=by
 have m:∀b o,b∉rs→h.get? b=some o→b∉rs':=λb o r e z=>(n b z).elim r λq=>by rw[q]at e;cases e
 exact⟨λb o f r e=>y.keep b o f (m b o r e) (x.keep b o f r e),λb o r e=>let⟨_,e1⟩:=x.slot b o r e;let⟨sl,e2⟩:=y.slot b _ (m b o r e) e1;⟨sl,e2⟩,λb o e=>let⟨_,e1⟩:=x.there b o e;y.there b _ e1⟩
theorem Chg.slots{fr rs:List Addr}{h h':Heap}(x:Heap.SlotsOnly fr h h'):Chg fr rs h h':=⟨λb o f _ e=>(x.2.1 b f).trans e,λb o _ e=>x.2.2 b o e,λb o e=>let⟨sl,q⟩:=x.2.2 b o e;⟨_,q⟩⟩
theorem Chg.upd{fr rs:List Addr}{h:Heap}{a:Addr}{f:Obj→Obj}(ha:a∈rs)(hf:∀o,h.get? a=some o→(f o).isFreed=false):Chg fr rs h (h.update a f):=by(
have k:∀b o,b∉rs→h.get? b=some o→(h.update a f).get? b=some o:=λb o r e=>by exact(mB h f (λ(q:a=b)=>r (q▸ha))).trans e
refine⟨λb o _ r e=>k b o r e,λb o r e=>⟨o.slots,k b o r e⟩,λb o e=>?_⟩
by_cases q:b=a
·subst q;exact⟨_,gK f e (hf o e)⟩
exact⟨o,by rw[mB h f (rG q)];exact e⟩)
theorem Chg.push{fr rs:List Addr}{h:Heap}{o:Obj}:Chg fr rs h (h.push o):=⟨λb u _ _ e=>hR _ e,λb u _ e=>⟨u.slots,hR _ e⟩,λb u e=>⟨u,hR _ e⟩⟩
theorem q9T(o:Obj)(f:Array Value→Array Value):(o.mapFields f).dict=o.dict:=by obtain⟨c,d,dt,sl⟩:=o;cases dt<;>rfl
theorem ExO.set{h:Heap}{e:Addr}{C:Value}{od:Option Addr}{vs:Array Value}(x:ExO h e C od vs)(i:Nat)(v:Value)(hi:i≠2:=by decide):ExO (h.update e (Obj.mapFields (·.setIfInBounds i v))) e C od (vs.setIfInBounds i v):=by obtain⟨oe,h1,h2,h3,h4,h5⟩:=x;have hd:=wB h4 (·.setIfInBounds i v);exact⟨_,gK _ h1 (dJ hd),(Obj.cls_mapFields _ _).trans h2,(q9T _ _).trans h3,hd,(dS hi).trans h5⟩
theorem ExO.of{h h':Heap}{e:Addr}{C:Value}{od:Option Addr}{vs:Array Value}(x:ExO h e C od vs)(k:∀o,h.get? e=some o→h'.get? e=some o):ExO h' e C od vs:=let⟨oe,h1,r⟩:=x;⟨oe,k _ h1,r⟩
section
variable{M:Model}{A:Around}{E:Value→Shared→Prop}{s:Shared}{env:Env}{outer:List Env}{L e T:Addr}{C:Value}{od:Option Addr}{base:Heap}
theorem ExO.nofr{h:Heap}{l:List Env}{vs:Array Value}(x:ExO h e C od vs)(hl:h.FunFrames base l):e∉l.filterMap (·.frame):=λhm=>by(
obtain⟨_,o,ho,hn⟩:=hl.mem hm
obtain⟨oe,h1,_,_,h4,_⟩:=x
rw[h1]at ho
cases ho
exact hn _ h4)
theorem q79{head:Value}{hn:Bool}{vs:Array Value}{Q:Unit→Shared→Prop}(hfr:A.frames=some (env::outer))(hl:s.heap.FunFrames base (env::outer))(hf:env.frame=some L)(x:ExO s.heap e C od vs)
 (q:∀h' T,Chg ((env::outer).filterMap (·.frame)) [e] s.heap h'→Held (rawInt L) h' e T C od→s.heap.objs.size≤T→Q () { s with heap:=h' }):
 wpAny M A (do let a←frameOf env;let pl←entryPlaceOf L hn;let b←EntryCells.newEntry head a .none (rawInt L) .none pl;setField (.ref e) 1 b) Q E s:=by(
have ne:=x.nofr hl
refine hI (wpAny_frameOf_fun hfr hl hf λh1 so=>hI (wpAny_entryPlaceOf λpl hp=>?_))
unfold EntryCells.newEntry newFields
refine hI (wH ?_ (hp.sizeOk5 _ _ _ _ _))
have x1:ExO h1 e C od vs:=x.of λo z=>(so.2.1 e ne).trans z
have x2:=x1.of (h':=h1.push _) λo z=>hR { cls:=.type "traceback",dict:=none,data:=.fields ([head,.ref L,.none,rawInt L,.none]++(if pl.isEmpty then List.replicate 6 Value.none else pl)).toArray } z
obtain⟨oe,a1,a2,a3,a4,a5⟩:=id x2
refine cG a1 a4 (lt2 a5) ?_
have hlt:e<h1.objs.size:=let⟨_,z,_⟩:=x1;kF z
have fresh:s.heap.objs.size≤h1.objs.size:=wE so.1.symm
refine q _ h1.objs.size (((Chg.slots so).trans Chg.push).trans (Chg.upd (kN.mpr rfl) λo z=>?_)) ⟨_,x2.set 1 _,?_,dN hlt,{ cls:=.type "traceback",dict:=none,data:=.fields ([head,.ref L,.none,rawInt L,.none]++(if pl.isEmpty then List.replicate 6 Value.none else pl)).toArray },_,?_,rfl,?_⟩ fresh
·rw[a1]at z;cases z;exact dJ (wB a4 _)
·simp[lt2 a5]
·rw[mB _ _ (kW hlt)];exact kU h1 rfl
first|(simp;done)|(rcases hp with rfl|⟨_,_,_,_,_,_,_,rfl⟩<;>simp))
theorem q93{tr:Option Addr}{Q:Unit→Shared→Prop}(hfr:A.frames=some (env::outer))(hl:s.heap.FunFrames base (env::outer))(hf:env.frame=some L)(x:Air L s.heap e C od tr)
 (q:∀h' T,Chg ((env::outer).filterMap (·.frame)) (e::tr.toList) s.heap h'→Held (rawInt L) h' e T C od→(T∈tr∨s.heap.objs.size≤T)→Q () { s with heap:=h' }):
 wpAny M A (noteFrame (.ref e) env) Q E s:=by(
unfold noteFrame
simp only[hf]
cases tr with
|none=>obtain⟨vs,x,h1⟩:=x;obtain⟨oe,a1,a2,a3,a4,a5⟩:=id x;refine hI (d3 a1 a4 h1 ?_);rw[hV (by decide)];exact q79 hfr hl hf x λh' T c hd n=>q h' T c hd (.inr n)
|some T=>
 obtain⟨vs,f,x,⟨t1,t2,oT,ts,t3,t4,t5⟩,hfl⟩:=x;obtain⟨oe,a1,a2,a3,a4,a5⟩:=id x;refine hI (d3 a1 a4 t1 ?_);rw[hU (by simp)];refine hI (d3 t3 t4 t5 ?_);rcases hfl with rfl|rfl
 ·rw[hV (by simp[rawInt])];refine hI (cG t3 t4 (rO.mp t5).1 ?_);have k:∀b o,b≠T→s.heap.get? b=some o→(s.heap.update T (Obj.mapFields (·.setIfInBounds 3 Value.none))).get? b=some o:=λb o n z=>(mB _ _ (rG n)).trans z;have hl2:(s.heap.update T (Obj.mapFields (·.setIfInBounds 3 Value.none))).FunFrames base (env::outer):=hl.of_keeps λb o z nf=>⟨o,k b o (λw=>by subst w;rw[t3]at z;cases z;exact nf _ t4) z,rfl⟩;refine q79 (s:={ s with heap:=s.heap.update T (Obj.mapFields (·.setIfInBounds 3 Value.none)) }) hfr hl2 hf (x.of λo z=>k e o (rG t2) z) λh' T' c hd n=>q h' T' ?_ hd ?_
  ·refine(Chg.upd (a:=T) (by simp) λo z=>?_).fresh c λb hb=>.inl ?_
   ·rw[t3]at z;cases z;exact dJ (wB t4 _)
   rw[kN.mp hb];exact kM
  exact .inr (kY (wE (Heap.size_after_update ..).symm) n)
 rw[hU (by simp)];exact kJ (q _ T .refl ⟨vs,x,t1,t2,oT,ts,t3,t4,t5⟩ (.inl rfl)))
theorem zG{f:Value}{fr:Option Addr}{Q:Unit→Shared→Prop}(x:Held f s.heap e T C od)
 (q:∀h',Chg [] [T] s.heap h'→Held (fr.elim .none λf=>rawInt f) h' e T C od→Q () { s with heap:=h' }):wpAny M A (setFlight (.ref e) fr) Q E s:=by(
obtain⟨vs,x,t1,t2,oT,ts,t3,t4,t5⟩:=x
obtain⟨oe,a1,a2,a3,a4,a5⟩:=id x
have hz:=(rO.mp t5).1
unfold setFlight
refine hI (d3 a1 a4 t1 ?_)
rw[hU (by simp)]
have hd:=wB t4 (·.setIfInBounds 3 (fr.elim .none λf=>rawInt f))
refine cG t3 t4 hz (q _ (Chg.upd (by simp) λo z=>?_) ⟨vs,x.of λo z=>?_,t1,t2,_,_,gK _ t3 (dJ hd),hd,by simp[hz]⟩)
·rw[t3]at z;cases z;exact dJ hd
exact(mB _ _ t2).trans z)
theorem Held.air{f:Value}{h:Heap}(x:Held f h e T C od)(hf:f=.none∨f=rawInt L):Air L h e C od (some T):=let⟨vs,a,b⟩:=x;⟨vs,f,a,b,hf⟩
theorem qB0{tr:Option Addr}{Q:Unit→Shared→Prop}(hfr:A.frames=some (env::outer))(hl:s.heap.FunFrames base (env::outer))(hf:env.frame=some L)(x:Air L s.heap e C od tr)
 (q:∀h' T,Chg ((env::outer).filterMap (·.frame)) (e::tr.toList) s.heap h'→Held .none h' e T C od→(T∈tr∨s.heap.objs.size≤T)→Q () { s with heap:=h' }):wpAny M A (leaving env (.ref e)) Q E s:=by(
unfold leaving
refine hI (q93 hfr hl hf x λh' T c hd n=>zG hd λh2 c2 hd2=>q h2 T ?_ hd2 n)
refine c.fresh (rs':=[T]) ⟨λb o _ r z=>c2.keep b o (by simp) r z,c2.slot,c2.there⟩ λb hb=>?_
rw[kN.mp hb]
exact n.imp (λz=>h9 _ (by cases tr with|none=>cases z|some t=>cases z;exact kN.mpr rfl)) dM)
end
end L2
namespace L2
open PySem PySem.Spec PyProof.Rows
section
variable{P:Program}{w:World}{H:Hp}{h h':Heap}{a:Addr}{o:HO}
theorem jF.there(x:jF P w H h a o):∃ob,h.get? a=some ob:=by(
cases o with
|lst xs=>obtain⟨_,_,_,_,e⟩:=x;exact⟨_,e⟩
|tup xs=>obtain⟨_,_,_,_,e,_⟩:=x;exact⟨_,e⟩
|dK kvs=>obtain⟨_,_,_,_,o,_,_,e,_⟩:=x;exact⟨_,e⟩
|dT kvs=>obtain⟨_,_,_,_,o,_,_,e,_⟩:=x;exact⟨_,e⟩
|set S n=>obtain⟨o,_,_,_,e,_⟩:=x;exact⟨_,e⟩
|ins C dx fs=>obtain⟨_,_,_,e,_⟩:=x;exact⟨_,e⟩
|own y=>exact x
|xd fs=>obtain⟨_,⟨_,_,_,e,_⟩,_⟩:=x;exact⟨_,e⟩
|rng lo hi=>obtain⟨_,_,_,e⟩:=x;exact⟨_,e⟩
|frz ob u=>exact⟨_,x.1⟩
|tbl ps=>exact⟨_,show h.get? a=some _ from x⟩
|met f y=>exact⟨_,show h.get? a=some _ from x⟩
|ext φ=>exact x.2.1)
theorem HOk.free(x:HOk P w H h)(e:h.get? a=none):H a=none:=by(
cases q:H a with
|none=>rfl
|some o=>obtain⟨_,z⟩:=(x a o q).there;rw[e]at z;cases z)
theorem HOk.chg{fr rs:List Addr}(x:HOk P w H h)(c:Chg fr rs h h')(hf:∀b∈fr,H b=none)(hr:∀b∈rs,H b=none):HOk P w H h':=by(
intro a o e
refine(x a o e).stay (λb u hb z=>?_) (λ_ q=>q) λ_ _ q=>q
have n:H b≠none:=by
 rcases hb with rfl|q
 ·rw[e];intro y;cases y
 rw[q];intro y;cases y
exact c.keep b u (λm=>n (hf b m)) (λm=>n (hr b m)) z)
end
noncomputable def Recs(h:Heap)(rs:List Addr):Prop:=∀b∈rs,∃o vs,h.get? b=some o∧o.data=.fields vs
theorem Air.recs{L e:Addr}{h:Heap}{C:Value}{od tr:Option Addr}(x:Air L h e C od tr):Recs h (e::tr.toList):=by(
intro b hb
cases tr with
|none=>
 obtain⟨vs,⟨oe,a1,_,_,a4,_⟩,_⟩:=x;have e':b=e:=by simpa using hb
 subst e';exact⟨_,_,a1,a4⟩
|some T=>
 obtain⟨vs,f,⟨oe,a1,_,_,a4,_⟩,⟨_,_,oT,ts,t3,t4,_⟩,_⟩:=x;have e':b=e∨b=T:=by simpa using hb
 rcases e' with rfl|rfl
 ·exact⟨_,_,a1,a4⟩
 exact⟨_,_,t3,t4⟩)
noncomputable def Ours(X:Cx)(pins:List (Addr×Obj))(H:Hp)(rs:List Addr):Prop:=∀b∈rs,(X.s₀.heap.get? b=none∨b∈X.ex)∧H b=none∧∀p∈X.pn++pins,p.1≠b
section
variable{X:Cx}{pins:List (Addr×Obj)}{σ:St}{H:Hp}{s:Shared}{h':Heap}{rs:List Addr}
theorem Inv.chg{t':Nat}(I:Inv X pins σ H s)(c:Chg (frs X.stack) rs s.heap h')(o:Ours X pins H rs)(rc:Recs s.heap rs):Inv X pins σ H { s with heap:=h',toks:=t' }:=by(
obtain⟨m,hn,hv⟩:=I.loc
have nl:X.env.locals∉rs:=λz=>by obtain⟨ob,vs,e,d⟩:=rc _ z;obtain⟨o',es,ep,ho,hd,_⟩:=hn;rw[e]at ho;cases ho;rw[d]at hd;cases hd
have nc:∀c v,s.heap.IsCell c v→c∉rs:=λc v q z=>by obtain⟨ob,vs,e,d⟩:=rc _ z;obtain⟨o',ho,hd⟩:=q;rw[e]at ho;cases ho;rw[d]at hd;cases hd
have cellk:∀c v,s.heap.IsCell c v→h'.IsCell c v:=λa v q=>by have n:=nc a v q;obtain⟨o',ho,hd⟩:=q;obtain⟨sl,z⟩:=c.slot a o' n ho;exact⟨_,z,hd⟩
have old:∀b ob,X.s₀.heap.get? b=some ob→b∉X.ex→b∉rs:=λb ob q ne z=>by
 rcases(o b z).1 with y|y
 ·rw[q]at y;cases y
 exact ne y
have ns':h'.Ns X.env.locals m:=by obtain⟨o',es,ep,ho,r⟩:=hn;obtain⟨sl,z⟩:=c.slot _ o' nl ho;exact⟨_,es,ep,z,r⟩
refine⟨I.ok,I.os,I.bare,⟨λb ob q n nf ne=>?_,λb ob q n hf ne=>?_,I.base.free,λb ob q ne=>?_,I.base.tups,I.base.frzs,I.base.tbls⟩,⟨m,ns',λi x v e1 e2 e3=>?_⟩,λx a e=>?_,I.free,I.freeC,λp hp=>?_,I.hok.chg c I.stkFree λb hb=>(o b hb).2.1,I.len⟩
·refine c.keep b ob (λz=>?_) (old b ob q ne) (I.base.keep b ob q n nf ne);rcases kG.mp (I.stkSub b z)with rfl|y
 ·exact absurd (kF q) (cH.mpr I.ok.above)
 exact nf y
·obtain⟨sl,z⟩:=I.base.slot b ob q n hf ne;obtain⟨sl',z'⟩:=c.slot b _ (old b ob q ne) z;exact⟨sl',z'⟩
·obtain⟨o',z⟩:=I.base.there b ob q ne;exact c.there b o' z
·obtain⟨u,r,lk⟩:=hv i x v e1 e2 e3;refine⟨u,r,lk.imp id λ⟨k,cc,l,q⟩=>⟨k,cc,l,cellk _ _ q⟩⟩
·obtain⟨v,q⟩:=I.cell x a e;exact⟨v,cellk _ _ q⟩
obtain⟨p1,p2,p3,p4,p5⟩:=I.pin p hp
refine⟨c.keep _ _ (λz=>?_) (λz=>(o _ z).2.2 p hp rfl) p1,p2,p3,p4,p5⟩
rcases kG.mp (I.stkSub _ z)with y|y
·exact p3 y
exact p4 y)
end
noncomputable def CXe(P:Program)(w:World):CXT:=λouter H s E e s'=>∃ea T C od H',e=.ref ea∧s'.os=s.os∧AllBare s'.gens∧Un (frs outer) [] H H' s.heap s'.heap∧HOk P w H' s'.heap∧Held .none s'.heap ea T C od∧(s.heap.get? ea=none∧s.heap.get? T=none)∧(H' ea=none∧H' T=none)∧E C od H'
noncomputable def q17(X:Cx)(ES:St→XK):Prop:=∀(pins:List (Addr×Obj)) (σ:St) (H:Hp) (s:Shared) (ea:Addr) (tr:Option Addr) (C:Value) (od:Option Addr),Inv X pins σ H s→Air X.env.locals s.heap ea C od tr→Ours X pins H (ea::tr.toList)→ES σ C od H→X.xe (.ref ea) s
noncomputable def qCG(CX:CXT)(X:Cx)(ES:St→XK):Prop:=∀(pins:List (Addr×Obj)) (σ:St) (H:Hp) (s:Shared) (e:Value) (s':Shared),Inv X pins σ H s→CX X.stack H s (ES σ) e s'→X.xe e s'
theorem q17.passes{X:Cx}{ES:St→XK}(t:q17 X ES):qCG (CXe X.prog X.w) X ES:=by(
intro pins σ H s e s' I hZ
obtain⟨ea,T,C,od,H',e1,ho,hg,u,hok,hd,⟨f1,f2⟩,⟨g1,g2⟩,q⟩:=hZ
subst e1
refine t pins σ H' s' ea (some T) C od (I.call' ho u hok hg λb hb=>by cases hb) (hd.air (.inl rfl)) (λb hb=>?_) q
have key:∀b,s.heap.get? b=none→H' b=none→(X.s₀.heap.get? b=none∨b∈X.ex)∧H' b=none∧∀p∈X.pn++pins,p.1≠b:=λb f g=>by
 refine⟨?_,g,λp hp z=>?_⟩
 ·by_cases y:b∈X.ex
  ·exact .inr y
  refine .inl ?_;cases z:X.s₀.heap.get? b with
  |none=>rfl
  |some ob=>obtain⟨o',z'⟩:=I.base.there b ob z y;rw[f]at z';cases z'
 have y:=(I.pin p hp).1;rw[z,f]at y;cases y
have e':b=ea∨b=T:=by simpa using hb
rcases e' with rfl|rfl
·exact key _ f1 g1
exact key _ f2 g2)
theorem q25{P:Program}{w:World}{K:PySem.W.Frag}{mg:Str→Option Value}{base:Heap}{N:List Str}{qual:Str}{scope:Scope}{f:Addr}{cd:Value}{A:Around}{outer:List Env}{s:Shared}{H:Hp}{E:XK}:
 q17 (cxOf (CXe P w) P w K mg base N qual scope f cd A outer s H E) (λ_=>E):=by(
intro pins σ H' s' ea tr C od I air ours q
refine qB0 (base:=base) I.ok.frames I.stack rfl air λh' T c hd n=>?_
have I2:=I.chg (t':=s'.toks) c ours air.recs
have out:∀b,s'.heap.objs.size≤b→s.heap.get? b=none:=λb z=>by
 cases y:s.heap.get? b with
 |none=>rfl
 |some ob=>obtain⟨o',y'⟩:=I.base.there b ob y (by intro m;cases m);exact absurd (kF y') (cH.mpr z)
have own:∀b,b∈ea::tr.toList→s.heap.get? b=none∧H' b=none:=λb hb=>⟨(ours b hb).1.elim id (λz=>by cases z),(ours b hb).2.1⟩
have hT:s.heap.get? T=none∧H' T=none:=by
 rcases n with z|z
 ·exact own T (h9 _ (by cases tr with|none=>cases z|some t=>cases z;exact kN.mpr rfl))
 exact⟨out T z,I.hok.fresh z⟩
exact⟨ea,T,C,od,H',rfl,I.os,I.bare,I2.base,I2.hok,hd,⟨(own ea (kM)).1,hT.1⟩,⟨(own ea (kM)).2,hT.2⟩,q⟩)
noncomputable def qEV(C:Addr)(m:Str)(sp:Sp)(dvs:List V)(ES:St→XK)(ta:TE)(t:TA):TE:=λσ H Q=>ta σ H λx H1=>∃a dx fs,x=.ref a∧H1 a=some (.ins C dx fs)∧fs.lookup m=none∧t σ H1 λvs H2=>sp (x::(vs++dvs)) H2 Q (ES σ)
theorem q2T{X:Cx}:q17 X (λ_ _ _ _=>False):=λ_ _ _ _ _ _ _ _ _ _ _ h=>h.elim
section
variable{X:Cx}{k:Nat}{f C:Addr}{fd:FuncData}{ps:List Str}{sp:Sp}{dvs:List V}{ds:List Value}{E:XK}{ES:St→XK}{x m:Str}{p pos apos:Pos}{e o:Expr}{es:List Expr}{ta:TE}{t:TA}
theorem qCH{pins:List (Addr×Obj)}{σ:St}{H:Hp}{s:Shared}{Q:VK}{us:List Value}{vs:List V}(F:FnOk X.prog X.w X.K X.mg X.base (CXe X.prog X.w) k f fd ps sp)(hr:Room k X.A)(hb:jO X.K fd ps ds)(hd:Vals dvs ds)(tk:q17 X ES)
 (I:Inv X pins σ H s) (r:Vals vs us) (h:sp (vs++dvs) H Q (ES σ)):wpAny (model X.prog X.w) X.A (call (.ref f) us) (EP X pins σ Q) X.xe s:=by(
have r2:Vals (vs++dvs) (us++ds):=r.append hd
have hl:(us++ds).length=ps.length:=by rw[←r2.length];exact F.len _ _ _ _ h
refine dQ (rA (F.run X.A X.stack s H ⟨us,[]⟩ (us++ds) (vs++dvs) Q (ES σ) hr I.env0 (hb s us I.kIn hl) r2 h) λr s' hq=>?_)
cases r with
|error e=>exact tk.passes pins σ H s e s' I hq
|ok fl=>
 cases fl with
 |ret u=>exact I.after hq
 |next=>exact False.elim hq
 |brk=>exact False.elim hq
 |cont=>exact False.elim hq)
theorem q04{pl:Sem Bool}(tk:q17 X ES)(he:PE X o ta)(c:Cls X.K C)(hm:Meth X.K C m f)(F:FnOk X.prog X.w X.K X.mg X.base (CXe X.prog X.w) k f fd ps sp)(hr:Room k X.A)(hb:jO X.K fd ps ds)(hd:Vals dvs ds)(ha:PA X (e::es) t)
 (hst:starEach (e::es) X.env=(false,eval e X.env)::starEach es X.env:=by rfl) (hpl:(backTo pos (starEach es X.env)).any (·.1)=false:=by rfl)
 (ht:eval (.Call (.Attribute o m apos) (e::es) [] pos) X.env=(do
  let ov←eval o X.env
  standAt apos.atName
  let(f,first)←holding [ov] (getMethod ov m pl)
  callWith pos f first (backTo pos (starEach (e::es) X.env)) (backToKw pos (keywordEach [] X.env))):=by rfl):
 PE X (.Call (.Attribute o m apos) (e::es) [] pos) (qEV C m sp dvs ES ta t):=by(
intro pins s σ H Q I h
refine gJ (pl:=pl) (thn (he pins s σ H _ I h) λu s1 hZ=>?_) ht
obtain⟨x,H1,I1,rx,a,dx,fs,ex,ea,l,q⟩:=hZ
subst ex
obtain rfl:u=Value.ref a:=rx
refine v8 I1 ea c hm l ?_
refine gN (first:=[.ref a]) (h₀:=X.base) I.ok.mod.kin hm.kp (thn (ha pos pins s1 σ H1 _ I1 q) λus s2 ⟨vs,H2,I2,r,q2⟩=>⟨I2.kIn,?_⟩) hst hpl
exact qCH (us:=.ref a::us) (vs:=.ref a::vs) F hr hb hd tk I2 (.cons rfl r) q2)
end
structure FunD(K:PySem.W.Frag)(x qual:Str)(st:Stmt)(dV:Value)(f:Addr)(fd:FuncData):Prop where
ex:∃(oc:Value) (od:Option Addr) (kV doc pm:Value) (an:Option Addr) (cdv ct:Value) (osl:Array (Option Value)),fd=PySem.W.fnOf x qual (yB st) (jR st) (qH st) dV kV doc pm an cdv ct∧K.lookup f=some ⟨oc,od,.func fd,osl⟩∧PySem.W.codeIn K cdv qual=true
section
variable{P:Program}{w:World}{K:PySem.W.Frag}{mg:Str→Option Value}{base:Heap}{dV:Value}
theorem FunD.mk'{x qual:Str}{st:Stmt}{f:Addr}{oc:Value}{od an:Option Addr}{osl:Array (Option Value)}{kV doc pm cdv ct:Value}(l:K.lookup f=some ⟨oc,od,.func (PySem.W.fnOf x qual (yB st) (jR st) (qH st) dV kV doc pm an cdv ct),osl⟩)
 (c:PySem.W.codeIn K cdv qual=true):FunD K x qual st dV f (PySem.W.fnOf x qual (yB st) (jR st) (qH st) dV kV doc pm an cdv ct):=⟨⟨oc,od,kV,doc,pm,an,cdv,ct,osl,rfl,l,c⟩⟩
theorem FunD.okE{x qual:Str}{st:Stmt}{f:Addr}{fd:FuncData}{N ps:List Str}{k:Nat}{sp:Sp}(F:FunD K x qual st dV f fd)(S:FnScope N ps (qH st))(len:∀vs H Q E,sp vs H Q E→vs.length=ps.length)
 (hbody:∀(cdv:Value) (A:Around) (outer:List Env) (s:Shared) (H:Hp) (vs:List V) (Q:VK) (E:XK),Room k (A.deeper (envOfC qual (qH st) s.heap.objs.size f cdv))→sp vs H Q E→∃t,PSs (cxOf (CXe P w) P w K mg base N qual (qH st) f cdv A outer s H E) (jR st) t∧t { nx:=λ_ H'=>Q .non H',rt:=Q } (start N vs) H):FnOk P w K mg base (CXe P w) (k+1) f fd ps sp:=by obtain⟨oc,od,kV,doc,pm,an,cdv,ct,osl,rfl,lk,hcd⟩:=F.ex;exact qAT lk hcd S len λA outer s H vs Q E hr hsp=>hbody cdv A outer s H vs Q E hr hsp
theorem FunD.ok0{x qual:Str}{st:Stmt}{f:Addr}{fd:FuncData}{N ps:List Str}{k:Nat}{sp:Sp}(F:FunD K x qual st dV f fd)(S:FnScope N ps (qH st))
 (hbody:∀(cdv:Value) (A:Around) (outer:List Env) (s:Shared) (H:Hp) (vs:List V) (Q:VK) (E:XK),Room k (A.deeper (envOfC qual (qH st) s.heap.objs.size f cdv))→sp vs H Q E→∃t,PSs (cxOf CX0 P w K mg base N qual (qH st) f cdv A outer s H E).nox (jR st) t∧t { nx:=λ_ H'=>Q .non H',rt:=Q } (start N vs) H)(len:∀vs H Q E,sp vs H Q E→vs.length=ps.length:=by intro _ _ _ _ h;(repeat obtain⟨_,h⟩:=h);all_goals subst_vars;rfl):FnOk P w K mg base CX0 (k+1) f fd ps sp:=by(
obtain⟨oc,od,kV,doc,pm,an,cdv,ct,osl,rfl,lk,hcd⟩:=F.ex
refine qAT lk hcd S len λA outer s H vs Q E hr hsp=>?_
obtain⟨t,h,q⟩:=hbody cdv A outer s H vs Q E hr hsp
exact⟨t,h.nox,q⟩)
end
noncomputable abbrev bmVE:List Value:=[.type "ValueError",.type "Exception",.type "BaseException",.type "object"]
noncomputable abbrev Cx.tr(X:Cx)(pins:List (Addr×Obj))(XE:Value→Shared→Prop):Cx:={ X with pn:=X.pn++pins,xe:=XE }
noncomputable abbrev Cx.sui(X:Cx)(e:Addr):Cx:={ X with A:=X.A.mark (some (.ref e)),calm:=false,xe:=λ_ _=>False }
theorem Chg.mono{fr fr' rs rs':List Addr}{h h':Heap}(c:Chg fr rs h h')(f:∀b∈fr,b∈fr')(r:∀b∈rs,b∈rs'):Chg fr' rs' h h':=⟨λb o a z e=>c.keep b o (λy=>a (f b y)) (λy=>z (r b y)) e,λb o z e=>c.slot b o (λy=>z (r b y)) e,c.there⟩
theorem Held.recs{f:Value}{e T:Addr}{h:Heap}{C:Value}{od:Option Addr}(x:Held f h e T C od):Recs h [e,T]:=by(
obtain⟨vs,⟨oe,a1,_,_,a4,_⟩,_,_,oT,ts,t3,t4,_⟩:=x
intro b hb
have e':b=e∨b=T:=by simpa using hb
rcases e' with rfl|rfl
·exact⟨_,_,a1,a4⟩
exact⟨_,_,t3,t4⟩)
section
variable{X:Cx}{pins:List (Addr×Obj)}{σ:St}{H:Hp}{s:Shared}{XE:Value→Shared→Prop}
theorem Inv.tr(I:Inv X pins σ H s)(XE:Value→Shared→Prop):Inv (X.tr pins XE) [] σ H s:=have ok:=I.ok
 ⟨⟨ok.mod,ok.kind,ok.glob,ok.blt,ok.above,ok.inj,ok.has,ok.cab,ok.hd,ok.frames,ok.stk,ok.exf,ok.bs,ok.bsz,ok.noex,ok.exfs,ok.funs,ok.frf⟩,I.os,I.bare,I.base,I.loc,I.cell,I.free,I.freeC,λp hp=>I.pin p (by simpa using hp),I.hok,I.len⟩
theorem Inv.untr{ps:List (Addr×Obj)}(I:Inv (X.tr pins XE) ps σ H s):Inv X pins σ H s:=have ok:=I.ok
 ⟨⟨ok.mod,ok.kind,ok.glob,ok.blt,ok.above,ok.inj,ok.has,ok.cab,ok.hd,ok.frames,ok.stk,ok.exf,ok.bs,ok.bsz,ok.noex,ok.exfs,ok.funs,ok.frf⟩,I.os,I.bare,I.base,I.loc,I.cell,I.free,I.freeC,λp hp=>I.pin p (mE _ hp),I.hok,I.len⟩
theorem Inv.sui(I:Inv X pins σ H s)(e:Addr):Inv (X.sui e) pins σ H s:=have ok:=I.ok
 ⟨⟨ok.mod,ok.kind,ok.glob,ok.blt,ok.above,ok.inj,ok.has,ok.cab,(λz=>by cases z),ok.frames,ok.stk,ok.exf,ok.bs,ok.bsz,ok.noex,ok.exfs,ok.funs,ok.frf⟩,I.os,I.bare,I.base,I.loc,I.cell,I.free,I.freeC,I.pin,I.hok,I.len⟩
theorem Inv.unsui{e:Addr}(hc:X.calm=true→X.A.handled=none)(I:Inv (X.sui e) pins σ H s):Inv X pins σ H s:=have ok:=I.ok
 ⟨⟨ok.mod,ok.kind,ok.glob,ok.blt,ok.above,ok.inj,ok.has,ok.cab,hc,ok.frames,ok.stk,ok.exf,ok.bs,ok.bsz,ok.noex,ok.exfs,ok.funs,ok.frf⟩,I.os,I.bare,I.base,I.loc,I.cell,I.free,I.freeC,I.pin,I.hok,I.len⟩
theorem SP.untr{D:Ends}{f:Flow}{s':Shared}(h:SP (X.tr pins XE) [] D f s'):SP X pins D f s':=by(
cases f with
|next=>obtain⟨σ',H',I,q⟩:=h;exact⟨σ',H',I.untr,q⟩
|brk=>obtain⟨σ',H',I,q⟩:=h;exact⟨σ',H',I.untr,q⟩
|cont=>obtain⟨σ',H',I,q⟩:=h;exact⟨σ',H',I.untr,q⟩
|ret u=>obtain⟨v,σ',H',I,r,q⟩:=h;exact⟨v,σ',H',I.untr,r,q⟩)
theorem SP.unsui{e:Addr}{D:Ends}{f:Flow}{s':Shared}(hc:X.calm=true→X.A.handled=none)(h:SP (X.sui e) pins D f s'):SP X pins D f s':=by(
cases f with
|next=>obtain⟨σ',H',I,q⟩:=h;exact⟨σ',H',I.unsui hc,q⟩
|brk=>obtain⟨σ',H',I,q⟩:=h;exact⟨σ',H',I.unsui hc,q⟩
|cont=>obtain⟨σ',H',I,q⟩:=h;exact⟨σ',H',I.unsui hc,q⟩
|ret u=>obtain⟨v,σ',H',I,r,q⟩:=h;exact⟨v,σ',H',I.unsui hc,r,q⟩)
end
noncomputable def qG9(ea:Addr)(C:Value)(od:Option Addr):Heap→Prop:=λh=>∃o vs,h.get? ea=some o∧o.cls=C∧o.dict=od∧o.data=.fields vs
noncomputable abbrev XO(ea:Addr)(C:Value)(od:Option Addr):HO:=.ext (qG9 ea C od)
noncomputable abbrev TH:=Ends→St→Hp→Addr→Value→Option Addr→Prop
noncomputable def PHs(X:Cx)(hs:List ExceptHandler)(t:TH):Prop:=∀(pins:List (Addr×Obj)) (s:Shared) (σ:St) (H:Hp) (D:Ends) (ea T:Addr) (C:Value) (od:Option Addr),Inv X pins σ H s→Held .none s.heap ea T C od→Ours X pins H [ea,T]→t D σ H ea C od→wpAny (model X.prog X.w) X.A (handleBy (.ref ea) X.env hs) (SP X pins D) X.xe s
section
variable{X:Cx}{ES:St→XK}
theorem qB1(tk:q17 X ES)(hf:X.env.frame=some X.env.locals:=by rfl):PHs X [] (λ_ σ H _ C od=>ES σ C od H):=by(
intro pins s σ H D ea T C od I hd ours q
refine wpAny_handleBy_nil ?_
unfold PySem.passOn
have rc:=hd.recs
obtain⟨vs,x,t1,t2,oT,ts,t3,t4,t5⟩:=id hd
obtain⟨oe,a1,a2,a3,a4,a5⟩:=id x
refine hI (d3 a1 a4 t1 ?_)
rw[hV (by simp)]
refine hI (zG hd λh' c hd2=>wpAny_throw ?_)
rw[hf]at hd2
exact tk pins σ H { s with heap:=h' } ea (some T) C od (I.chg (t':=s.toks) (rs:=[ea,T]) (c.mono (by simp) (by simp)) ours rc) (hd2.air (.inr rfl)) ours q)
theorem Inv.pinX{pins:List (Addr×Obj)}{σ:St}{H:Hp}{s:Shared}{ea T:Addr}{C:Value}{od:Option Addr}{f:Value}(I:Inv X pins σ H s)(hd:Held f s.heap ea T C od)(ours:Ours X pins H [ea,T]):
 ∃oe oT,Inv X (pins++[(ea,oe),(T,oT)]) σ H s∧∀h':Heap,h'.get? ea=some oe→h'.get? T=some oT→Held f h' ea T C od:=by(
have rc:=hd.recs
obtain⟨vs,⟨oe,a1,a2,a3,a4,a5⟩,t1,t2,oT,ts,t3,t4,t5⟩:=hd
refine⟨oe,oT,I.pins_of λp hp=>?_,λh' z1 z2=>⟨vs,⟨oe,z1,a2,a3,a4,a5⟩,t1,t2,oT,ts,z2,t4,t5⟩⟩
have nl:∀b o ws,s.heap.get? b=some o→o.data=.fields ws→b≠X.env.locals∧b∉X.fs:=λb o ws e d=>by
 refine⟨λz=>?_,λz=>?_⟩
 ·obtain⟨m,⟨o',es,ep,ho,hd',_⟩,_⟩:=I.loc;rw[←z,e]at ho;cases ho;rw[d]at hd';cases hd'
 obtain⟨_,o',ho,hn⟩:=I.funs.mem z;rw[e]at ho;cases ho;exact hn _ d
rcases mS.mp hp with z|z
·exact I.pin p (kP _ z)
have z:p=(ea,oe)∨p=(T,oT):=by simpa using z
rcases z with rfl|rfl
·exact⟨a1,(ours ea (by simp)).2.1,(nl _ _ _ a1 a4).1,(nl _ _ _ a1 a4).2,λv q=>by rw[a4]at q;cases q⟩
exact⟨t3,(ours T (by simp)).2.1,(nl _ _ _ t3 t4).1,(nl _ _ _ t3 t4).2,λv q=>by rw[t4]at q;cases q⟩)
theorem q2U{ty:Expr}{c:V}{cv:Value}{pins:List (Addr×Obj)}{s:Shared}{σ:St}{H:Hp}{ea T:Addr}{C:Value}{od:Option Addr}{b:Bool}{R:Result→Shared→Prop}{pos:Pos}(hc:PE (X.sui ea) ty (tC c))(rc:RelV c cv)
 (I:Inv X pins σ H s) (hh:X.calm=true→X.A.handled=none) (hd:Held .none s.heap ea T C od) (ours:Ours X pins H [ea,T]) (hx:PySem.W.exmOne X.K C cv=some b) (q:∀s',Inv X pins σ H s'→Held .none s'.heap ea T C od→R (.ok (if b then .brk else .next)) s'):
 codeAny (model X.prog X.w) (X.A.mark (some (.ref ea))) (.handlers (.ref ea) [.ExceptHandler (some ty) none [] pos] X.env) R s:=by(
obtain⟨oe,oT,I1,back⟩:=I.pinX hd ours
refine codeAny_handlers_test (gB (hc _ s σ H (λv H'=>v=c∧H'=H) (I1.sui ea) ⟨rfl,rfl⟩) (λu s1 h1=>?_) λ_ _ z=>z.elim)
obtain⟨v,H',I2,r,e1,e2⟩:=h1
subst e1 e2
have e3:u=cv:=by
 cases v with
 |non=>exact r.trans rc.symm
 |bl b=>exact r.trans rc.symm
 |ref a=>exact r.trans rc.symm
 |ty n=>exact r.trans rc.symm
 |int i=>obtain⟨t,e⟩:=r;obtain⟨t',e'⟩:=rc;subst e';unfold PySem.W.exmOne at hx;split at hx<;>cases hx
 |str i=>obtain⟨t,e⟩:=r;obtain⟨t',e'⟩:=rc;subst e';unfold PySem.W.exmOne at hx;split at hx<;>cases hx
 |byt i=>obtain⟨t,e⟩:=r;obtain⟨t',e'⟩:=rc;subst e';unfold PySem.W.exmOne at hx;split at hx<;>cases hx
 |flt i=>obtain⟨t,e⟩:=r;obtain⟨t',e'⟩:=rc;subst e';unfold PySem.W.exmOne at hx;split at hx<;>cases hx
subst e3
have p1:=(I2.pin (ea,oe) (by simp)).1
have p2:=(I2.pin (T,oT) (by simp)).1
have hd1:=back _ p1 p2
obtain⟨vs,⟨oe',z1,z2,_⟩,_⟩:=id hd1
have LT:PySem.W.Looks (model X.prog X.w) s1.heap (typeOf (.ref ea)) C:=by rw[←z2];exact(nM z1).andThen .now
have I3:Inv X pins σ H' s1:=(Inv.unsui hh I2).unpinned
exact(PySem.W.exm_one I2.kIn LT hx).here (q s1 I3 hd1))
theorem qCI{ty:Expr}{c:V}{cv:Value}{b₀:Stmt}{suite:List Stmt}{pos:Pos}{rest:List ExceptHandler}{ts:TS}{tr:TH}(hc:∀ea,PE (X.sui ea) ty (tC c))(rc:RelV c cv)(hs:∀ea,PSs (X.sui ea) (b₀::suite) ts)(hr:PHs X rest tr):
 PHs X (.ExceptHandler (some ty) none (b₀::suite) pos::rest) (λD σ H ea C od=>∃b,PySem.W.exmOne X.K C cv=some b∧if b=true then ts D σ H else tr D σ H ea C od):=by(
intro pins s σ H D ea T C od I hd ours hZ
obtain⟨b,hx,q⟩:=hZ
refine pT (q2U (hc ea) rc I I.ok.hd hd ours hx λs' I' hd'=>?_) (by intro z;cases z)
cases b with
|false=>rw[hV (by simp)]at q;exact hr pins s' σ H D ea T C od I' hd' ours q
|true=>rw[hU rfl]at q;refine c9 (zG hd' λh' c hd2=>?_);have I2:=I'.chg (t':=s'.toks) (rs:=[ea,T]) (c.mono (by simp) (by simp)) ours hd'.recs;exact gB (hs ea pins { s' with heap:=h' } σ H D (I2.sui ea) q) (λf s2 z=>z.unsui I.ok.hd) λ_ _ z=>z.elim)
noncomputable def tTry(tb:(St→XK)→TS)(th:TH):TS:=λD σ H=>tb (λσ' C od H'=>∀ea,H' ea=none→th D σ' H' ea C od) D σ H
theorem qB2{body:List Stmt}{h₀:ExceptHandler}{hs:List ExceptHandler}{pos:Pos}{tb:(St→XK)→TS}{th:TH}
 (hb:∀(pins:List (Addr×Obj)) (XE:Value→Shared→Prop) (ES:St→XK),q17 (X.tr pins XE) ES→PassesOwn (model X.prog X.w) X.A X.env XE→PSs (X.tr pins XE) body (tb ES)) (hh:PHs X (h₀::hs) th)
 (hfs:∃fr,X.stack=X.env::fr:=by exact⟨_,rfl⟩) (hf:X.env.frame=some X.env.locals:=by rfl):PS X (.Try body (h₀::hs) [] [] pos) (tTry tb th):=by(
intro pins s σ H D I q
refine wpAny_Try_except (gB (hb pins (λe s1=>wpAny (model X.prog X.w) X.A (noteFrame e X.env) (λ_ s2=>wpAny (model X.prog X.w) X.A (setFlight e none) (λ_ s3=>wpAny (model X.prog X.w) X.A (handleBy e X.env (h₀::hs)) (SP X pins D) X.xe s3) X.xe s2) X.xe s1)
 (λσ' C od H'=>∀ea,H' ea=none→th D σ' H' ea C od) ?_ PassesOwn.looking [] s σ H D (I.tr _) q) (λf s1 z=>?_) λe s1 z=>z)
·intro pins' σ' H' s' ea tr C od I' air ours y;obtain⟨fr,ek⟩:=hfs;have frames:X.A.frames=some (X.env::fr):=by rw[I.ok.frames,ek]
 have ff:s'.heap.FunFrames X.base (X.env::fr):=by rw[←ek];exact I'.stack
 refine q93 frames ff hf air λh' T c hd n=>?_;have en:frs X.stack=(X.env::fr).filterMap (·.frame):=by rw[ek];rfl
 have I2:Inv (X.tr pins _) pins' σ' H' { s' with heap:=h' }:=I'.chg (t':=s'.toks) (by show Chg (frs X.stack) _ _ _;rw[en];exact c) ours air.recs;have oT:Ours (X.tr pins λe s1=>wpAny (model X.prog X.w) X.A (noteFrame e X.env) (λ_ s2=>wpAny (model X.prog X.w) X.A (setFlight e none) (λ_ s3=>wpAny (model X.prog X.w) X.A (handleBy e X.env (h₀::hs)) (SP X pins D) X.xe s3) X.xe s2) X.xe s1) pins' H' [ea,T]:=by
  intro b hb;have hb:b=ea∨b=T:=by simpa using hb
  rcases hb with rfl|rfl
  ·exact ours b (by simp)
  rcases n with z|z
  ·exact ours b (h9 _ (by cases tr with|none=>cases z|some t=>cases z;exact kN.mpr rfl))
  refine⟨?_,I'.hok.fresh z,λp hp w=>?_⟩
  ·by_cases y:b∈X.ex
   ·exact .inr y
   refine .inl ?_;cases w:X.s₀.heap.get? b with
   |none=>rfl
   |some ob=>obtain⟨o',w'⟩:=I'.base.there b ob w y;exact absurd (kF w') (cH.mpr z)
  have w':=(I'.pin p hp).1;rw[w]at w';exact absurd (kF w') (cH.mpr z)
 refine zG hd λh2 c2 hd2=>?_;have I3:=I2.chg (t':=s'.toks) (rs:=[ea,T]) (c2.mono (by simp) (by simp)) oT hd.recs;exact hh pins _ σ' H' D ea T C od I3.untr hd2 (λb hb=>⟨(oT b hb).1,(oT b hb).2.1,λp hp=>(oT b hb).2.2 p (mE _ hp)⟩) (y ea (ours ea (by simp)).2.1)
have z:=z.untr
cases f with
|next=>obtain⟨σ',H',I',y⟩:=z;exact qR pins s1 σ' H' D I' y
|_=>exact z)
end
section
variable{M:Model}{A:Around}{E:Value→Shared→Prop}{env:Env}
variable{nm q:Str}{C N:Addr}{bs bm:List Value}{hdct:Bool}{sn:List Str}{sub:List Value}{ab:Bool}{col:Option Bool}{dd:Option Addr}{k0 k1 k2 k3 k5:Option Value}{newId:String}
theorem q9U{s:Shared}{x:Sem Value}{Q:Flow→Shared→Prop}(hb:bm.contains (.type "BaseException")=true)(hh:A.handled=none)
 (h:wpAny M A x (λv s1=>∃e od vs sl,v=.ref e∧s1.heap.get? C=some (excClassObj nm q C N bs bm hdct sn sub ab col dd k0 k1 k2 k3 k5 newId)∧s1.heap.get? e=some ⟨.ref C,od,.fields vs,sl⟩∧vs[1]?=some .none∧E (.ref e) s1) E s):
 wpAny M A (raiseStmt env (some x) none) Q E s:=by(
have hc:(Value.ref C::bm).contains (.type "BaseException")=true:=by rw[sJ,hb,lM]
unfold raiseStmt
refine hI (gB h (λv s1 h1=>?_) λ_ _ z=>z)
obtain⟨e,od,vs,sl,e1,hC,he,hv,hE⟩:=h1
subst e1
obtain⟨hp,g,d,tk,os⟩:=s1
repeat (first|with_reducible refine rK he ?_|with_reducible refine rK hC ?_|(with_reducible refine pU hC ?_;rw[hc])|wp_step)
rw[hv]
refine kJ ?_
rw[hV (by decide)]
exact kJ (wpAny_raiseNew_none hh hE))
end
section
variable{prog:Program}{w:World}{A:Around}{E:Value→Shared→Prop}{h:Heap}{g:Array GenState}{d:Drawn}{t:Nat}{os:OsState}
variable{nm q:Str}{C N:Addr}{bs bm bmB:List Value}{hdct:Bool}{sn:List Str}{sub:List Value}{ab:Bool}{col:Option Bool}{dd:Option Addr}{k0 k1 k2 k3 k5:Option Value}{B newId initId:String}
theorem q7A(F:ExcBaseFacts B newId initId bmB)(T:OwnTail h bmB bm){mN:Str→Option Value}{rest:List Value}{fI:Addr}{oI:Obj}{Q:Fin→Shared→Prop}
 (hC:h.get? C=some (excClassObj nm q C N bs bm hdct sn sub ab col dd k0 k1 k2 k3 k5 newId)) (hn:h.Ns N mN) (hi:mN "__init__"=some (.ref fI)) (hf:h.get? fI=some oI) (hc:oI.cls=.type "function") (hl:rest.length≤sizeLine)
 (hq:∀h' e,Heap.MadeExcOf h h' e (.ref C) rest→wpAny (model prog w) A (call (.ref fI) (.ref e::rest)) (λr s'=>r=.none∧Q (.done (.ret (.ref e))) s') E ⟨h',g,d,t,os⟩):
 wpAny (model prog w) A (Builtin.«type.__call__» ⟨.ref C::rest,[]⟩) Q E ⟨h,g,d,t,os⟩:=by(
repeat (first|with_reducible refine rK hC ?_|with_reducible refine wpAny_madeBy_exc hC ?_|wp_step)
refine codeAny_call_builtin_code (sK _ F.quiet) (wpAny_check_new_subT F T hC (codeAny_exc_new_subT F T hC ?_ hl))
show wpAny _ _ _ _ _ _
have up:∀b o,h.get? b=some o→((h.push ⟨.type "tuple",none,.seq rest.toArray 0,#[]⟩).push ⟨.ref C,none,.fields #[.ref h.objs.size,.none,.none,.none,.bool false,.none],#[]⟩).get? b=some o:=λb o z=>hR _ (hR _ z)
have hC1:=up _ _ hC
have hf1:=up _ _ hf
have T1:=T.keeps up
have hn1:((h.push ⟨.type "tuple",none,.seq rest.toArray 0,#[]⟩).push ⟨.ref C,none,.fields #[.ref h.objs.size,.none,.none,.none,.bool false,.none],#[]⟩).Ns N mN:=let⟨o,es,ep,z,r⟩:=hn;⟨o,es,ep,up _ _ z,r⟩
have at1:((h.push ⟨.type "tuple",none,.seq rest.toArray 0,#[]⟩).push ⟨.ref C,none,.fields #[.ref h.objs.size,.none,.none,.none,.bool false,.none],#[]⟩).get? (h.objs.size+1)=some ⟨.ref C,none,.fields #[.ref h.objs.size,.none,.none,.none,.bool false,.none],#[]⟩:=by heap_get
have self:(Value.ref C::bm).contains (.ref C)=true:=by simp
unfold isInstance
repeat (first|with_reducible refine rK at1 ?_|(with_reducible refine pU hC1 ?_;rw[self])|wp_step)
show wpAny _ _ (typeLookup (.ref C) _) _ _ _
refine wpAny_typeLookup_tail hC1 hn1 T1 F.mroIs F.init.lookup ?_
rw[hi]
refine gO (hI ?_)
unfold bindSpecial
refine hI (wpAny_typeOf (T:="function") ⟨_,hf1,hc⟩ ?_)
rw[hU (by decide)]
have tt:h.get? h.objs.size=none:=dM (kB _)
refine kJ (hI (gB (hq _ (h.objs.size+1) ⟨up,dM (dA _),h.objs.size,at1,tt,hR _ (sZ rfl rfl)⟩) (λr s' z=>?_) λ_ _ z=>z))
obtain⟨e1,hQ⟩:=z
subst e1
wp_walk
exact hQ)
theorem qEW(F:ExcBaseFacts B newId initId bmB)(T:OwnTail h bmB bm){mN:Str→Option Value}{rest:List Value}{fI:Addr}{oI:Obj}{Q:Value→Shared→Prop}
 (hC:h.get? C=some (excClassObj nm q C N bs bm hdct sn sub ab col dd k0 k1 k2 k3 k5 newId)) (hn:h.Ns N mN) (hi:mN "__init__"=some (.ref fI)) (hf:h.get? fI=some oI) (hc:oI.cls=.type "function") (hl:rest.length≤sizeLine)
 (hq:∀h' e,Heap.MadeExcOf h h' e (.ref C) rest→wpAny (model prog w) (A.under (.builtin "type.__call__" ⟨.ref C::rest,[]⟩)) (call (.ref fI) (.ref e::rest)) (λr s'=>r=.none∧Q (.ref e) s') E ⟨h',g,d,t,os⟩):
 wpAny (model prog w) A (call (.ref C) rest) Q E ⟨h,g,d,t,os⟩:=by(
have g1:=tc_lookup
have g2:=tc_bind (.ref C)
have g3:(⟨h,g,d,t,os⟩:Shared).TypeIs (.ref C) "type":=⟨_,hC,rfl⟩
refine dQ (codeAny_of_tree ?_)
show wpAny _ _ (callAny (.ref C) _) _ _ _
repeat (any_goals (first|assumption|with_reducible refine rK hC ?_|wp_step))
exact⟨rfl,codeAny_call_builtin_at (sK _ (by decide+kernel)) entry_typeCall (wpAny_check_type_call_sub hC (q7A F T hC hn hi hf hc hl λh' e m=>hq h' e m))⟩)
end
noncomputable def NewX(ea:Addr)(C:Value)(od:Option Addr):Heap→Prop:=λh=>∃vs sl,h.get? ea=some ⟨C,od,.fields vs,sl⟩∧vs[2]?=some .none∧vs[1]?=some .none
noncomputable abbrev XN(ea:Addr)(C:Value)(od:Option Addr):HO:=.ext (NewX ea C od)
noncomputable def del(H:Hp)(a:Addr):Hp:=λb=>if b=a then none else H b
theorem q8A{H:Hp}{a b:Addr}(h:b≠a):del H a b=H b:=hV h
theorem qB3{H:Hp}{a:Addr}:del H a a=none:=hU rfl
noncomputable def qB4(X:Cx)(pins:List (Addr×Obj))(a:Addr):Prop:=(X.s₀.heap.get? a=none∨a∈X.ex)∧∀p∈X.pn++pins,p.1≠a
section
variable{X:Cx}{pins:List (Addr×Obj)}{σ:St}{H:Hp}{s:Shared}{a:Addr}
theorem Inv.young(I:Inv X pins σ H s)(e:s.heap.get? a=none):qB4 X pins a:=by(
refine⟨?_,λp hp z=>?_⟩
·by_cases y:a∈X.ex
 ·exact .inr y
 refine .inl ?_;cases z:X.s₀.heap.get? a with
 |none=>rfl
 |some ob=>obtain⟨o',z'⟩:=I.base.there a ob z y;rw[e]at z';cases z'
have y:=(I.pin p hp).1
rw[z,e]at y
cases y)
theorem Inv.trackG{o:HO}(I:Inv X pins σ H s)(n:H a=none)(y:qB4 X pins a)(nl:a≠X.env.locals)(nc:∀x c,X.env.cells.lookup x=some c→c≠a)(new:jF X.prog X.w (upd H a o) s.heap a o):Inv X pins σ (upd H a o) s:=by(
have ne:∀b o',X.s₀.heap.get? b=some o'→b∉X.ex→b≠a:=λb o' z x q=>by
 subst q;rcases y.1 with w|w
 ·rw[z]at w;cases w
 exact x w
have nt:∀b u,H b=some u→b≠a:=λb u z q=>by rw[q,n]at z;cases z
refine⟨I.ok,I.os,I.bare,⟨I.base.keep,I.base.slot,λb o' z m x=>?_,I.base.there,λb xs z=>?_,λb o' u z=>?_,λb ps z=>?_⟩,I.loc,I.cell,?_,λx c z=>?_,λp hp=>?_,λb u z=>?_,I.len⟩
·rw[qD (ne b o' z x)];exact I.base.free b o' z m x
·have w:=I.base.tups b xs z;rw[qD (nt _ _ w)];exact w
·have w:=I.base.frzs b o' u z;rw[qD (nt _ _ w)];exact w
·obtain⟨more,w⟩:=I.base.tbls b ps z;exact⟨more,by rw[qD (nt _ _ w)];exact w⟩
·rw[qD (rG nl)];exact I.free
·rw[qD (nc x c z)];exact I.freeC x c z
·obtain⟨p1,p2,p3,p4,p5⟩:=I.pin p hp;exact⟨p1,by rw[qD (y.2 p hp)];exact p2,p3,p4,p5⟩
by_cases q:b=a
·subst q;rw[qJ]at z;cases z;exact new
rw[qD q]at z
refine(I.hok b u z).stay (λ_ _ _ g=>g) (λc g=>?_) λc xs g=>?_
·rw[qD (nt _ _ g)];exact g
rw[qD (nt _ _ g)];exact g)
theorem Inv.nofields{o:Obj}{vs:Array Value}(I:Inv X pins σ H s)(e:s.heap.get? a=some o)(d:o.data=.fields vs):a≠X.env.locals∧∀x c,X.env.cells.lookup x=some c→c≠a:=by(
refine⟨λz=>?_,λx c z q=>?_⟩
·obtain⟨m,⟨o',es,ep,ho,hd',_⟩,_⟩:=I.loc;rw[←z,e]at ho;cases ho;rw[d]at hd';cases hd'
obtain⟨v,o',ho,hd⟩:=I.cell x c z
rw[q,e]at ho
cases ho
rw[d]at hd
cases hd)
theorem Inv.drop{φ:Heap→Prop}(I:Inv X pins σ H s)(e:H a=some (.ext φ)):Inv X pins σ (del H a) s:=by(
have nd:∀b u,H b=some u→(∀ψ,u≠ .ext ψ)→del H a b=some u:=λb u z w=>by
 have q:b≠a:=λq=>by rw[q,e]at z;cases z;exact w _ rfl
 rw[q8A q];exact z
have nn:∀b,H b=none→del H a b=none:=λb z=>by
 unfold del;split
 ·rfl
 exact z
refine⟨I.ok,I.os,I.bare,⟨I.base.keep,I.base.slot,λb o' z m x=>nn b (I.base.free b o' z m x),I.base.there,λb xs z=>nd _ _ (I.base.tups b xs z) (λ_ q=>by cases q),λb o' u z=>nd _ _ (I.base.frzs b o' u z) (λ_ q=>by cases q),λb ps z=>?_⟩,I.loc,I.cell,nn _ I.free,λx c z=>nn _ (I.freeC x c z),λp hp=>?_,λb u z=>?_,I.len⟩
·obtain⟨more,w⟩:=I.base.tbls b ps z;exact⟨more,nd _ _ w (λ_ q=>by cases q)⟩
·obtain⟨p1,p2,p3,p4,p5⟩:=I.pin p hp;exact⟨p1,nn _ p2,p3,p4,p5⟩
have z':H b=some u:=by
 unfold del at z;split at z
 ·cases z
 exact z
exact(I.hok b u z').stay (λ_ _ _ g=>g) (λc g=>nd _ _ g (λ_ q=>by cases q)) λc xs g=>nd _ _ g (λ_ q=>by cases q))
end
theorem qCJ{K:PySem.W.Frag}{h:Heap}{N:Addr}{m:Str→Option Value}{n:Str}{v:Value}(X:K.In h)(G:h.Ns N m)(e:PySem.W.nsIn K N n=some (some v)):m n=some v:=by(
obtain⟨o,es,ep,ho,hd,_,hf⟩:=G
unfold PySem.W.nsIn at e
split at e
·rename_i q;have w:=X _ _ q;rw[ho]at w;cases w;cases hd;split at e
 ·rename_i en he;cases e;rw[←hf];unfold nsFind findBy;rw[←sE,he];exact rfl
 split at e<;>cases e
cases e)
theorem qGA{K:PySem.W.Frag}{h:Heap}{f:Addr}(X:K.In h)(e:PySem.W.isFn K (.ref f)=true):∃o,h.get? f=some o∧o.cls=.type "function":=by obtain⟨o,ho,hc⟩:=mP.mp (mF.mp e);exact⟨o,X _ _ ho,hc⟩
noncomputable def xinI(K:PySem.W.Frag)(C fI:Addr):Bool:=match K.lookup C with
|some ⟨.type "type",_,.cls cd,sl⟩=>(match cd.mro,sl.toList with
 | .ref C'::bm,[_,_,_,_,some (.builtin n),_]=>C'==C&&n=="ValueError.__new__"&& !cd.hasDel&&PySem.W.tailIn K bmVE bm&&PySem.W.nsOkIn K cd.ns&&PySem.W.nsIn K cd.ns "__init__"==some (some (.ref fI))&&PySem.W.isFn K (.ref fI)
 |_,_=>false)
|_=>false
theorem q5T{K:PySem.W.Frag}{C fI:Addr}(q:xinI K C fI=true):∃bm N nm qn bs hd sn sub ab col dd k0 k1 k2 k3 k5,K.lookup C=some (excClassObj nm qn C N bs bm hd sn sub ab col dd k0 k1 k2 k3 k5 "ValueError.__new__")∧PySem.W.tailIn K bmVE bm=true∧PySem.W.nsOkIn K N=true∧PySem.W.nsIn K N "__init__"=some (some (.ref fI))∧PySem.W.isFn K (.ref fI)=true:=by(
unfold xinI at q
split at q
·rename_i dd cd sl ho;split at q
 ·rename_i C' bm k0 k1 k2 k3 n k5 hm hs;obtain⟨nm,bs,mro,ns,qn,hd,sn,sub,ab,col,dl⟩:=cd;obtain⟨l⟩:=sl;simp only[kO,mF,wI]at q hm hs;obtain⟨⟨⟨⟨⟨⟨e1,e2⟩,e3⟩,e4⟩,e5⟩,e6⟩,e7⟩:=q;subst e1 e2 e3 hm hs;exact⟨bm,ns,nm,qn,bs,hd,sn,sub,ab,col,dd,k0,k1,k2,k3,k5,ho,e4,e5,e6,e7⟩
 cases q
cases q)
section
variable{X:Cx}{k:Nat}{fI C:Addr}{fd:FuncData}{ps:List Str}{sp:Sp}{dvs:List V}{ds:List Value}{ES:St→XK}{x:Str}{np cpos pos:Pos}{e:Expr}{es:List Expr}{t:TA}
theorem q9V{pins:List (Addr×Obj)}{σ:St}{H:Hp}{s:Shared}{us:List Value}{vs:List V}{Q:Addr→Hp→Prop}{R:Value→Shared→Prop}(hx:xinI X.K C fI=true)(F:FnOk X.prog X.w X.K X.mg X.base (CXe X.prog X.w) k fI fd ps sp)(hr:Room (k+1) X.A)
 (hb:jO X.K fd ps ds) (hd:Vals dvs ds) (tk:q17 X ES) (I:Inv X pins σ H s) (r:Vals vs us) (hl:us.length≤sizeLine)
 (h:∀ea,H ea=none→sp (.ref ea::(vs++dvs)) (upd H ea (XN ea (.ref C) none)) (λv H2=>v=.non∧Q ea H2) (ES σ))
 (fin:∀ea H2 s',Inv X pins σ H2 s'→qB4 X pins ea→Q ea H2→R (.ref ea) s'):wpAny (model X.prog X.w) X.A (call (.ref C) us) R X.xe s:=by(
obtain⟨bm,N,nm,qn,bs,hdc,sn,sub,ab,col,dd,k0,k1,k2,k3,k5,lk,tl,ok,ni,fn⟩:=q5T hx
have kb:=I.kIn
have hN:s.heap.Ns N (s.heap.nsMap N):=.of_isNs (PySem.W.isNs_of_in kb ok)
have hi:s.heap.nsMap N "__init__"=some (.ref fI):=qCJ kb hN ni
obtain⟨oI,f1,f2⟩:=qGA kb fn
obtain⟨hp,g,d,tks,os⟩:=s
refine qEW cI (cJ kb tl) (kb _ _ lk) hN hi f1 f2 hl λh' ea m=>?_
have yg:=I.young m.new
have I1:Inv X pins σ H ⟨h',g,d,tks,os⟩:=I.kept (t':=tks) m.keeps
obtain⟨tt,m1,_,_⟩:=m.there
have nf:=I1.nofields m1 rfl
have hn:=I.hok.free m.new
have I2:Inv X pins σ (upd H ea (XN ea (.ref C) none)) ⟨h',g,d,tks,os⟩:=I1.trackG hn yg nf.1 nf.2 ⟨⟨_,_,m1,by simp,rfl⟩,⟨_,m1⟩,λh1 h2 ⟨a,b,z1,z2⟩ kk=>⟨a,b,kk _ z1,z2⟩⟩
have r2:Vals (V.ref ea::(vs++dvs)) (Value.ref ea::(us++ds)):=.cons rfl (r.append hd)
have hlen:(Value.ref ea::us++ds).length=ps.length:=by have e':=r2.length;rw[F.len _ _ _ _ (h ea hn)]at e';exact e'.symm
refine dQ (rA (F.run _ X.stack _ _ ⟨Value.ref ea::us,[]⟩ (Value.ref ea::(us++ds)) _ _ (ES σ) (hr.make C us []) (I2.env0.make C us []) (hb _ (Value.ref ea::us) I2.kIn hlen) r2 (h ea hn)) λr s' hq=>?_)
cases r with
|error e=>exact tk.passes pins σ _ _ e s' I2 hq
|ok fl=>
 cases fl with
 |ret u=>obtain⟨v,H',I3,rv,ev,q3⟩:=I2.after hq;subst ev;exact⟨rv,fin ea H' s' I3 yg q3⟩
 |next=>exact False.elim hq
 |brk=>exact False.elim hq
 |cont=>exact False.elim hq)
noncomputable def qCK(C:Addr)(sp:Sp)(dvs:List V)(ES:St→XK)(t:TA):TS:=λ_ σ H=>t σ H λvs H1=>vs.length≤sizeLine∧∀ea,H1 ea=none→sp (.ref ea::(vs++dvs)) (upd H1 ea (XN ea (.ref C) none)) (λv H2=>v=.non∧∃od,H2 ea=some (XN ea (.ref C) od)∧ES σ (.ref C) od (del H2 ea)) (ES σ)
theorem q9W(tk:q17 X ES)(hc:X.calm=true)(hx:xinI X.K C fI=true)(F:FnOk X.prog X.w X.K X.mg X.base (CXe X.prog X.w) k fI fd ps sp)(hr:Room (k+1) X.A)(hg:Gl X x)(hm:X.mg x=some (.ref C))(hk:PySem.W.keepIn X.K (.ref C)=true)(hb:jO X.K fd ps ds)(hd:Vals dvs ds)
 (ha:PA X (e::es) t) (hdb:(x==("__debug__":Str))=false:=by decide) (he:starEach (e::es) X.env=(false,eval e X.env)::starEach es X.env:=by rfl) (hpl:(backTo cpos (starEach es X.env)).any (·.1)=false:=by rfl):
 PS X (.Raise (some (.Call (.Name x np) (e::es) [] cpos)) none pos) (qCK C sp dvs ES t):=by(
intro pins s σ H D I hq
obtain⟨bm,N,nm,qn,bs,hdc,sn,sub,ab,col,dd,k0,k1,k2,k3,k5,lk,tl,ok,ni,fn⟩:=q5T hx
rw[arm_exec_Raise]
refine hI (rX (q9U (C:=C) (nm:=nm) (q:=qn) (N:=N) (bs:=bs) (bm:=bm) (hdct:=hdc) (sn:=sn) (sub:=sub) (ab:=ab) (col:=col) (dd:=dd) (k0:=k0) (k1:=k1) (k2:=k2) (k3:=k3) (k5:=k5) (newId:="ValueError.__new__")
 ((cJ I.mod.kin tl).hasType (by decide)) (I.ok.hd hc) ?_))
refine hI (gM (vK I hg hm ?_ hdb))
refine gN (h₀:=X.base) I.ok.mod.kin hk (thn (ha cpos pins s σ H _ I hq) λus s1 ⟨vs,H1,I1,r,hz,q⟩=>⟨I1.kIn,?_⟩) he hpl
refine q9V (Q:=λea H2=>∃od,H2 ea=some (XN ea (.ref C) od)∧ES σ (.ref C) od (del H2 ea)) hx F hr hb hd tk I1 r (by show us.length≤sizeLine;rw[←r.length];exact hz) q λea H2 s' I' yg q'=>?_
obtain⟨od,hX,hE⟩:=q'
obtain⟨ws,sl,z1,z2,z3⟩:=(I'.hok ea _ hX).1
refine hI (rX (kJ ⟨ea,od,ws,sl,rfl,I'.kIn _ _ lk,z1,z3,?_⟩))
refine tk pins σ (del H2 ea) s' ea none (.ref C) od (I'.drop hX) ⟨ws,⟨_,z1,rfl,rfl,rfl,z2⟩,z3⟩ (λb hb=>?_) hE
rw[kN.mp hb]
exact⟨yg.1,qB3,yg.2⟩)
end
noncomputable def q3W:List Value→Bool
| .ref _::r=>q3W r
|l=>l==bmVE
theorem q5C(self:Value):∀{l:List Value},q3W l=true→refuseLoop self "__setattr__" l=pure ()
| .ref c::r,e=>by rw[refuseLoop_ref];exact q5C self (l:=r) e
| [],e=>by cases e
| .type n::r,e=>by have z:(Value.type n::r)=bmVE:=mF.mp e;rw[z];exact PySem.F.store_ValueError.passes self
| .none::r,e=>by cases(mF.mp (show(Value.none::r==bmVE)=true from e))
| .bool b::r,e=>by cases(mF.mp (show(Value.bool b::r==bmVE)=true from e))
| .int b t::r,e=>by cases(mF.mp (show(Value.int b t::r==bmVE)=true from e))
| .float b t::r,e=>by cases(mF.mp (show(Value.float b t::r==bmVE)=true from e))
| .str b t::r,e=>by cases(mF.mp (show(Value.str b t::r==bmVE)=true from e))
| .bytes b t::r,e=>by cases(mF.mp (show(Value.bytes b t::r==bmVE)=true from e))
| .builtin b::r,e=>by cases(mF.mp (show(Value.builtin b::r==bmVE)=true from e))
| .ellipsis::r,e=>by cases(mF.mp (show(Value.ellipsis::r==bmVE)=true from e))
| .notImplemented::r,e=>by cases(mF.mp (show(Value.notImplemented::r==bmVE)=true from e))
theorem qB5:∀{l:List Value},q3W l=true→l.contains (.type "object")=true
| .ref c::r,e=>by rw[sJ,qB5 (l:=r) e,lM]
| [],e=>by cases e
| .type n::r,e=>by have z:(Value.type n::r)=bmVE:=mF.mp e;rw[z];decide
| .none::r,e=>by cases(mF.mp (show(Value.none::r==bmVE)=true from e))
| .bool b::r,e=>by cases(mF.mp (show(Value.bool b::r==bmVE)=true from e))
| .int b t::r,e=>by cases(mF.mp (show(Value.int b t::r==bmVE)=true from e))
| .float b t::r,e=>by cases(mF.mp (show(Value.float b t::r==bmVE)=true from e))
| .str b t::r,e=>by cases(mF.mp (show(Value.str b t::r==bmVE)=true from e))
| .bytes b t::r,e=>by cases(mF.mp (show(Value.bytes b t::r==bmVE)=true from e))
| .builtin b::r,e=>by cases(mF.mp (show(Value.builtin b::r==bmVE)=true from e))
| .ellipsis::r,e=>by cases(mF.mp (show(Value.ellipsis::r==bmVE)=true from e))
| .notImplemented::r,e=>by cases(mF.mp (show(Value.notImplemented::r==bmVE)=true from e))
noncomputable def veIn(K:PySem.W.Frag)(C:Addr):Bool:=(PySem.W.clsIn K C).any (λcd=>q3W cd.mro)
structure XAt(K:PySem.W.Frag)(C:Addr):Prop where
hd:PySem.W.hasDictIn K C=true
sa:PySem.W.findIn K (.ref C) "__setattr__"=some (some (.builtin "object.__setattr__"))
mro:veIn K C=true
structure XRd(K:PySem.W.Frag)(C:Addr):Prop where
ga:PySem.W.findIn K (.ref C) "__getattribute__"=some (some (.builtin "BaseException.__getattribute__"))
gn:PySem.W.findIn K (.ref C) "__getattr__"=some none
mb:PySem.W.mroIn K C (.type "BaseException")=some true
hd:PySem.W.hasDictIn K C=true
cls:PySem.W.findIn K (.ref C) "__class__"=some (some (.builtin "object.__class__"))
cget:PySem.W.specialIn K (.builtin "object.__class__") "__get__"=some (some (.builtin "getset_descriptor.__get__"))
ctk:PySem.W.takesIn K (.builtin "object.__class__")=some true
mo:PySem.W.mroIn K C (.type "object")=some true
noncomputable def XAny(H:Hp)(ea:Addr)(C:Value)(od:Option Addr):Prop:=H ea=some (XO ea C od)∨H ea=some (XN ea C od)
section
variable{X:Cx}{pins:List (Addr×Obj)}{σ:St}{H:Hp}{s:Shared}{ea C:Addr}{od:Option Addr}
theorem XAny.at{C:Value}(x:XAny H ea C od)(I:Inv X pins σ H s):∃o vs,s.heap.get? ea=some o∧o.cls=C∧o.dict=od∧o.data=.fields vs:=by(
rcases x with e|e
·exact(I.hok ea _ e).1
obtain⟨vs,sl,z,_⟩:=(I.hok ea _ e).1
exact⟨_,vs,z,rfl,rfl,rfl⟩)
theorem qCL{A:Around}{E:Value→Shared→Prop}{K:PySem.W.Frag}{prog:Program}{w:World}{s:Shared}{x:Addr}{ox:Obj}{od:Option Obj}{name:Str}{tk:Tok}{fill b:Bool}{Q:Value→Shared→Prop}(X:K.In s.heap)(J:PySem.W.InstAt s.heap x ox C od)(c:XRd K C)
 (h:∀A',wpAny (model prog w) A' (Builtin.«object.__getattribute__» ⟨[.ref x,.str name tk],[]⟩) (λfin s'=>∃v,fin=.done (.ret v)∧PySem.W.handedIn v=true∧Q v s') (λ_ _=>False) s):wpAny (model prog w) A (getAttrBy (.ref x) (.str name tk) fill b) Q E s:=by(
obtain⟨hh,g,d,t,os⟩:=s
have L0:=J.type (M:=model prog w)
have L1:=dO (M:=model prog w) X c.ga
have L2:=dO (M:=model prog w) X c.gn
have SF:=PySem.F.excAttr_ValueError.ga
unfold getAttrBy
refine gO (hI (L0.at (hI (L1.at ?_))))
show wpAny _ _ (getAttrByItsOwn (.ref x) (.str name tk) (.ref C) (.builtin "BaseException.__getattribute__") fill b) _ _ _
unfold getAttrByItsOwn
refine hI ?_
show wpAny _ _ (typeLookup (.ref C) "__getattr__") _ _ _
refine L2.at ?_
refine hI (cT (gO ?_))
have e1:callGetattribute (.ref x) (.str name tk) (.builtin "BaseException.__getattribute__") b=boundAndCalled (.builtin "BaseException.__getattribute__") (.ref x) (.str name tk):=by unfold callGetattribute;rw[hV (by cases b<;>exact Bool.noConfusion)]
rw[e1]
unfold boundAndCalled
rw[SF.bind (.ref x)]
refine hI (kJ ?_)
refine dQ (rP SF.plain PySem.F.entry_bexc_ga ?_)
have su:PySem.W.Looks (model prog w) hh (isInstance (.ref x) (.type "BaseException")) true:=J.type.andThen (pV X c.mb)
have hk:builtinKind "BaseException.__getattribute__"=some .slot:=by decide+kernel
have hs:splitId "BaseException.__getattribute__"=some ("BaseException","__getattribute__"):=by decide+kernel
refine @cK (model prog w) _ _ ⟨hh,g,d,t,os⟩ "BaseException.__getattribute__" "BaseException" "__getattribute__" (.ref x) [.str name tk] [] _ hk hs su (PySem.F.args_bexc_ga (.ref x) (.str name tk)) ?_
refine gB (h _) (λfin s' z=>?_) (λ_ _ z=>z.elim)
obtain⟨v,rfl,z1,z2⟩:=z
exact PySem.W.handed_on z1 z2)
theorem qB6{prog:Program}{w:World}{A:Around}{R:Result→Shared→Prop}{K:PySem.W.Frag}{s:Shared}{x:Addr}{ox:Obj}{od:Option Obj}{name:Str}{tk:Tok}{v:Value}(X:K.In s.heap)(J:PySem.W.InstAt s.heap x ox C od)
 (hp:(PySem.W.clsIn K C).any (λcd=>q3W cd.mro)=true) (hn:qO K C name)
 (h:wpAny (model prog w) A.in1 (Builtin.ObjectAttr.storeInOwnDict (.ref x) (.ref C) (.str name tk) name v false)
  (λfin s'=>match fin with| .done f=>R (.ok f) s'| .again c'=>c'.quiet=true∧codeAny (model prog w) A c' R s') (λe s'=>R (.error e) s') s):
 codeAny (model prog w) A (.call (.builtin "object.__setattr__") ⟨[.ref x,.str name tk,v],[]⟩) R s:=by(
have SF:=PySem.F.store_object
obtain⟨cd,hc,ho⟩:=dW hp
have ne:cd.mro.isEmpty=false:=by
 cases q:cd.mro with
 |nil=>rw[q]at ho;cases ho
 |cons _ _=>rfl
have su:PySem.W.Looks (model prog w) s.heap (isInstance (.ref x) (.type "object")) true:=J.type.andThen (pV X (by unfold PySem.W.mroIn;rw[hc,rS,hV (by rw[ne];decide),qB5 ho]))
have hm:PySem.W.Looks (model prog w) s.heap (mroOf (.ref C)) cd.mro:=(wV X hc).andThen .now
refine rP SF.slot.plain SF.entry (@cK (model prog w) _ _ s "object.__setattr__" "object" "__setattr__" (.ref x) [.str name tk,v] [] _ SF.kind SF.split su (SF.args (.ref x) (.str name tk) v) ?_)
rw[PySem.W.osa_eq,refuse_eq]
refine hI (hI (J.type.here (hI (hm.here ?_))))
rw[q5C _ ho]
refine kJ (hI (J.type.here (hI ((dO X hn).here (hI (kJ ?_))))))
exact h)
theorem qCM{A:Around}{E:Value→Shared→Prop}{f:Str}{y:V}{u:Value}{Q:Unit→Shared→Prop}(I:Inv X pins σ H s)(x:H ea=some (XN ea (.ref C) none))(c:XAt X.K C)(n:qO X.K C f)(ry:RelV y u)
 (q:∀dx s',H dx=none→dx≠ea→Inv X pins σ (upd (upd H ea (XN ea (.ref C) (some dx))) dx (.xd [(f,y)])) s'→Q () s'):wpAny (model X.prog X.w) A (setAttr (.ref ea) f u) Q E s:=by(
obtain⟨vs,sl,e1,e2,e3⟩:=(I.hok ea _ x).1
have J:PySem.W.InstAt s.heap ea ⟨.ref C,none,.fields vs,sl⟩ C none:=⟨e1,rfl,rfl,True.intro⟩
refine sR I.kIn J c.sa (qB6 (s:={ s with toks:=s.toks+1 }) I.kIn J c.mro n ?_)
obtain⟨cd,hc,hd⟩:=dW c.hd
refine hI (kJ (hI (hI (pM e1 (hI (sF (s:={ s with toks:=s.toks+1 }) (wV I.kIn hc) ?_))))))
rw[hd]
rw[hV (by decide)]
dsimp only
rw[hV (by simp[typeHasDict])]
have hlt:ea<s.heap.objs.size:=kF e1
have a1:(s.heap.push { cls:=.type "dict",data:=.dict #[] }).get? ea=some ⟨.ref C,none,.fields vs,sl⟩:=hR _ e1
refine hI (wpAny_alloc' (hI (wpAny_update' a1 (kJ ?_))))
have a2:((s.heap.push { cls:=.type "dict",data:=.dict #[] }).update ea λo=>{ cls:=o.cls,dict:=some s.heap.objs.size,data:=o.data,slots:=o.slots }).get? s.heap.objs.size=some { cls:=.type "dict",data:=.dict #[] }:=(rW _ _ _ _ (dN hlt)).trans (sZ rfl rfl)
have a3:((s.heap.push { cls:=.type "dict",data:=.dict #[] }).update ea λo=>{ cls:=o.cls,dict:=some s.heap.objs.size,data:=o.data,slots:=o.slots }).get? ea=some ⟨.ref C,some s.heap.objs.size,.fields vs,sl⟩:=gK _ a1 rfl
have em:((s.heap.push { cls:=.type "dict",data:=.dict #[] }).update ea λo=>{ cls:=o.cls,dict:=some s.heap.objs.size,data:=o.data,slots:=o.slots }).Ns s.heap.objs.size (λ_=>none):=⟨_,#[],_,a2,rfl,λe he=>absurd he (by simp),λ_=>rfl⟩
show wpAny _ _ (Builtin.ObjectAttr.storeInDict s.heap.objs.size (.str f s.toks) f u) _ _ _
unfold Builtin.ObjectAttr.storeInDict Builtin.ObjectAttr.newKeyGuard
refine hI (kJ (hI (wpAny_nsSet1 (sT em) λh' hn' hs=>?_)))
obtain⟨oD,esD,epD,z1,z2,z3⟩:=hn'.count (Within.cons f u Within.nil)
refine hI (wpAny_lookBehind z1 (by rw[z2];exact pastItsLine_dict (kY z3 (by rw[kX,pD,mT];lia))) ?_)
refine kJ ?_
have fr:=I.fresh
have ne:s.heap.objs.size≠ea:=dN hlt
have k:∀b o,b≠ea→s.heap.get? b=some o→h'.get? b=some o:=λb o w z=>(hs.2 b (kW (kF z))).trans ((rW _ _ _ _ w).trans (hR _ z))
have b3:h'.get? ea=some ⟨.ref C,some s.heap.objs.size,.fields vs,sl⟩:=(hs.2 ea (rG ne)).trans a3
have I1:=I.write (t':=s.toks+1+1) (x:=ea) (e:=ea) (o:=XN ea (.ref C) (some s.heap.objs.size)) (h':=h') (by rw[x];exact True.intro) (.inl rfl) k ⟨_,b3⟩
 ⟨⟨vs,sl,b3,e2,e3⟩,⟨_,b3⟩,λh1 h2 ⟨a,b,w1,w2⟩ kk=>⟨a,b,kk _ w1,w2⟩⟩
have yg:=I.young (a:=s.heap.objs.size) (dM (kB _))
have I2:=I1.trackG (a:=s.heap.objs.size) (o:=.xd [(f,y)]) (by rw[qD ne];exact fr) yg (dN I.lt) (λx' c' w q'=>by obtain⟨v,o',ho,_⟩:=I.cell x' c' w;exact absurd (kF ho) (by rw[q'];exact g9 _)) ⟨_,hn',λg=>?_⟩
·exact q s.heap.objs.size _ fr ne I2
show RelO (List.lookup g [(f,y)]) (if g=f then some u else none)
by_cases w:g=f
·subst w;rw[hU rfl,gD,beq_self_eq_true];exact ry
rw[hV w,gD,beq_false_of_ne w]
exact True.intro)
end
noncomputable def qGB(K:PySem.W.Frag)(ta tv:TE)(f:Str):TS:=λD σ H=>tv σ H λy H1=>ta σ H1 λx H2=>∃ea C,x=.ref ea∧H2 ea=some (XN ea (.ref C) none)∧XAt K C∧qO K C f∧∀dx,H2 dx=none→dx≠ea→D.nx σ (upd (upd H2 ea (XN ea (.ref C) (some dx))) dx (.xd [(f,y)]))
section
variable{X:Cx}{o e value:Expr}{f:Str}{pos pos' apos p:Pos}{ta tv:TE}
theorem qCN(ha:PE X o ta)(hv:PE X value tv)(hs:swapsWith value (some (.Attribute o f pos')) pos.line X.env=pure false):PS X (.Assign [.Attribute o f pos'] value pos) (qGB X.K ta tv f):=by(
intro pins s σ H D I h
refine wJ (thn (hv pins s σ H _ I h) λu s1 ⟨y,H1,I1,ry,h1⟩=>thn (ha pins s1 σ H1 _ I1 h1) λov s2 hZ=>?_) hs
obtain⟨x,H2,I2,rx,ea,C,ex,hx,c,n,q⟩:=hZ
subst ex
obtain rfl:ov=Value.ref ea:=rx
exact qCM I2 hx c n ry λdx s3 g1 g2 I3=>⟨σ,_,I3,q dx g1 g2⟩)
end
noncomputable def clsV:V→Option Value
| .ref a=>some (.ref a)
| .ty n=>some (.type n)
|_=>none
theorem qB7{c:V}{cv u:Value}(h:clsV c=some cv)(r:RelV c u):u=cv:=by cases c<;>first|(cases h;exact r)|cases h
noncomputable def KndT(K:PySem.W.Frag)(H:Hp)(x:V)(t:Value):Prop:=TyOf K H x t∨∃ea C od,x=.ref ea∧t=.ref C∧XAny H ea (.ref C) od∧XRd K C∧(od=none∨∃dx fs,od=some dx∧H dx=some (.xd fs))
theorem qEX{K:PySem.W.Frag}{x D:Addr}{ox:Obj}{od:Option Obj}(c:XRd K D):PySem.W.KitX K (.ref x) (.ref D) (λh=>PySem.W.InstAt h x ox D od) where
ty:=λ_ _ _ I=>I.type
it:=λ_ _ X _=>by
 obtain⟨cd,hc,_⟩:=dW c.hd;unfold PySem.W.clsIn at hc;split at hc
 ·rename_i ho;intro A' Q' E' s' k q;unfold isType loadHead;exact hI (pM (k _ _ (X _ _ ho)) (kJ q))
 cases hc
ne:=λh tp dd its n sl X htp=>by
 obtain⟨cd,hc,_⟩:=dW c.hd;refine Bool.eq_false_iff.mpr λq=>?_;have e:D=tp:=Value.ref.inj (mF.mp q);subst e;unfold PySem.W.clsIn at hc;split at hc
 ·rename_i ho;have z:=(X _ _ ho).symm.trans htp;cases z
 cases hc
ca:=fun {prog w _ _ _ s} X I k=>by
 have hf:PySem.W.findObj K D od "__class__"=some (.bind (.builtin "getset_descriptor.__get__") (.builtin "object.__class__")):=by obtain⟨cd,hc,_⟩:=dW c.hd;unfold PySem.W.findObj;rw[hc,rS,c.cls,rS];dsimp only;rw[c.cget,rS];dsimp only;rw[c.ctk,rS]
 unfold getAttr? getAttrBy?;refine hI (wpAny_mkText (hI (cT (qCL (s:={ s with toks:=s.toks+1 }) X I c λA'=>?_))));have L0:=I.type (M:=model prog w);have L1:=PySem.W.looks_find (M:=model prog w) X I hf;obtain⟨hh,gg,d,t,os⟩:=s;refine hI (kJ (hI (kJ (hI (L0.at (hI (L1.at ?_)))))));show wpAny _ _ (holding [.builtin "object.__class__"] (call (.builtin "getset_descriptor.__get__") [.builtin "object.__class__",.ref x,.ref D]) >>= ret) _ _ _;exact hI (gO (dQ (PySem.W.class_get (s:=⟨hh,gg,d,t+1,os⟩) (ox:=ox) (od:=od) X I c.mo (kJ ⟨_,rfl,rfl,kJ k⟩))))
theorem jX{X:Cx}:q1Y X (.builtin "isinstance") (λxs H Q=>∃x c cv t b,xs=[x,c]∧clsV c=some cv∧KndT X.K H x t∧PySem.W.kitOne X.K t cv=some b∧Q (.bl b) H):=by(
intro pins s σ H xs us Q I r h
obtain⟨x,c,cv,t,b,rfl,hc,ty,e,q⟩:=h
obtain⟨u,w',rfl,ru,rw'⟩:=qAN r
cases qB7 hc rw'
rcases ty with ty|⟨ea,C,od,rfl,rfl,hx,ca,hd⟩
·exact q9L I ru ty e λtk=>⟨.bl b,H,I.tok tk,rfl,q⟩
obtain rfl:u=Value.ref ea:=ru
obtain⟨o,vs,e1,e2,e3,e4⟩:=hx.at I
have hno:PySem.W.notCls o=true:=by rw[PySem.W.notCls,e4]
have J:∃oD,PySem.W.InstAt s.heap ea o C oD:=by
 rcases hd with rfl|⟨dx,fs,rfl,hdx⟩
 ·exact⟨none,e1,e2,hno,by rw[e3];exact True.intro⟩
 obtain⟨mA,n1,rl⟩:=I.hok dx _ hdx;obtain⟨oD,g1,g2⟩:=q4Z n1;exact⟨some oD,e1,e2,hno,by rw[e3];exact g1⟩
obtain⟨oD,J⟩:=J
exact m6 (qEX ca) I.kIn J e (λz=>nomatch z) λtk=>⟨.bl b,H,I.tok tk,rfl,q⟩)
noncomputable abbrev TJ:=St→Hp→Str→VK→Prop
noncomputable def PJ(X:Cx)(es:List Expr)(t:TJ):Prop:=∀(pins:List (Addr×Obj)) (s:Shared) (σ:St) (H:Hp) (out:Str) (Q:VK),Inv X pins σ H s→t σ H out Q→wpAny (model X.prog X.w) X.A (joinParts out (evalEach es X.env)) (EP X pins σ Q) X.xe s
noncomputable def jNil:TJ:=λ_ H out Q=>out.length≤sizeLine∧Q (.str out) H
noncomputable def jStr(te:TE)(t:TJ):TJ:=λσ H out Q=>te σ H λx H1=>∃y,x=.str y∧(out++y).length≤sizeLine∧t σ H1 (out++y) Q
noncomputable def jInt(te:TE)(t:TJ):TJ:=λσ H out Q=>te σ H λx H1=>∃i,x=.int i∧i.natAbs.log2<1920∧(out++Str.ofString (toString i)).length≤sizeLine∧t σ H1 (out++Str.ofString (toString i)) Q
section
variable{X:Cx}{e:Expr}{es:List Expr}{te:TE}{t:TJ}{pos:Pos}
theorem qEY:PJ X [] jNil:=λpins s σ H out Q I ⟨h,q⟩=>joinParts_nil ⟨.str out,H,I.tok _,⟨_,rfl⟩,q⟩ h
theorem qB8(he:PE X e te)(hr:PJ X es t):PJ X (e::es) (jStr te t):=by(
intro pins s σ H out Q I h
refine joinParts_cons (thn (he pins s σ H _ I h) λu s1 hZ=>?_)
obtain⟨x,H1,I1,r,y,ex,hz,q⟩:=hZ
subst ex
obtain⟨tk,rfl⟩:=r
exact⟨hz,hr pins s1 σ H1 _ Q I1 q⟩)
theorem qEZ(he:PE X e te)(hr:PJ X es t):PJ X (.FormattedValue e (-1) none pos::es) (jInt te t):=by(
intro pins s σ H out Q I h
refine joinParts_cons (FormattedValue_plain (thn (he pins s σ H _ I h) λu s1 hZ=>?_))
obtain⟨x,H1,I1,r,i,ex,hl,hz,q⟩:=hZ
subst ex
obtain⟨tk,rfl⟩:=r
exact formatField_int_small hl ⟨hz,hr pins _ σ H1 _ Q (I1.tok _) q⟩)
noncomputable def tFs(t:TJ):TE:=λσ H Q=>t σ H Str.empty Q
theorem qGC{e2:Expr}{rest:List Expr}(h:PJ X (e::e2::rest) t):PE X (.JoinedStr (e::e2::rest) pos) (tFs t):=λpins s σ H Q I hq=>JoinedStr_many (h pins s σ H Str.empty Q I hq)
end
structure BIni(K:PySem.W.Frag)(W:Addr):Prop where
rd:PySem.W.readsIn K W (.type "type")=true
fd:PySem.W.findCls K (.ref W) (.type "type") "__init__"=some (.val (.builtin "ValueError.__init__"))
ga:PySem.W.specialIn K (.ref W) "__getattribute__"=some (some (.builtin "type.__getattribute__"))
noncomputable def qGD(K:PySem.W.Frag)(t:TA):TE:=λσ H Q=>t σ H λvs H1=>∃ea C od y fI,vs=[.ref ea,.str y]∧H1 ea=some (XN ea (.ref C) od)∧xinI K C fI=true∧Q .non H1
section
variable{X:Cx}{x:Str}{p pos apos:Pos}{e:Expr}{es:List Expr}{t:TA}{W:Addr}
theorem q9X{pins:List (Addr×Obj)}{σ:St}{H:Hp}{s:Shared}{ea C fI:Addr}{od:Option Addr}{y:Str}{tk:Tok}{Q:VK}(I:Inv X pins σ H s)(hx:H ea=some (XN ea (.ref C) od))(hc:xinI X.K C fI=true)(q:Q .non H):
 wpAny (model X.prog X.w) X.A (call (.builtin "ValueError.__init__") [.ref ea,.str y tk]) (EP X pins σ Q) X.xe s:=by(
obtain⟨bm,N,nm,qn,bs,hdc,sn,sub,ab,col,dd,k0,k1,k2,k3,k5,lk,tl,ok,ni,fn⟩:=q5T hc
obtain⟨vs,sl,e1,e2,e3⟩:=(I.hok ea _ hx).1
have kb:=I.kIn
have F:=cI
have mk:∀h' tk',(∀b o,b≠ea→s.heap.get? b=some o→h'.get? b=some o)→(∃ws,h'.get? ea=some ⟨.ref C,od,.fields ws,sl⟩∧ws[2]?=some .none∧ws[1]?=some .none)→Inv X pins σ H { s with heap:=h',toks:=tk' }:=λh' tk' k ⟨ws,w1,w2,w3⟩=>by
 have J:=I.write (t':=tk') (x:=ea) (e:=ea) (o:=XN ea (.ref C) od) (h':=h') (by rw[hx];exact True.intro) (.inl rfl) k ⟨_,w1⟩ ⟨⟨ws,sl,w1,w2,w3⟩,⟨_,w1⟩,λh1 h2 ⟨a,b,z1,z2⟩ kk=>⟨a,b,kk _ z1,z2⟩⟩;have e:upd H ea (XN ea (.ref C) od)=H:=by
  funext b;by_cases w:b=ea
  ·subst w;rw[qJ,hx]
  rw[qD w]
 rw[e]at J;exact J
obtain⟨hp,g,d,tks,os⟩:=s
refine dQ (rP F.init.plain F.initEntry (wpAny_check_init_subT F (cJ kb tl) (kb _ _ lk) e1 rfl ?_))
wp_walk
have e2l:=lt2 e2
obtain⟨x0,h0⟩:∃x0,vs[0]?=some x0:=⟨vs[0]'(by lia),Array.getElem?_eq_getElem (by lia)⟩
rw[h0]
refine kJ ?_
have e1':=hR { cls:=Value.type "tuple",data:=Data.seq #[Value.str y tk] } e1
refine hI (cG e1' rfl (by lia) ?_)
have fin:∀A':Around,wpAny (model X.prog X.w) A' (match x0 with|Value.ref a_1=>letGo [x0] |x=>pure ()) (λ_ s'=>s'=_) (λ_ _=>False) { heap:=Heap.update (Heap.push hp { cls:=Value.type "tuple",data:=Data.seq #[Value.str y tk] }) ea (Obj.mapFields λx=>x.setIfInBounds 0 (Value.ref hp.objs.size)),gens:=g,drawn:=d,toks:=tks,os:=os }:=λA'=>by cases x0<;>first|exact wpAny_letGo rfl|exact kJ rfl
refine gB (fin _) (λ_ s' es=>?_) λ_ _ z=>z.elim
subst es
refine kJ ⟨.non,H,mk _ tks (λb o w z=>?_) ⟨vs.setIfInBounds 0 (Value.ref hp.objs.size),?_,(dS (by decide)).trans e2,?_⟩,rfl,q⟩
·exact(rW _ _ _ _ w).trans (hR _ z)
·exact gK _ e1' rfl
rw[dS (by decide)]
exact e3)
theorem qB9(b:BIni X.K W)(hg:Gl X x)(hm:X.mg x=some (.ref W))(ha:PA X (e::es) t)(hdb:(x==("__debug__":Str))=false:=by decide)
 (he:starEach (e::es) X.env=(false,eval e X.env)::starEach es X.env:=by rfl) (hpl:(backTo pos (starEach es X.env)).any (·.1)=false:=by rfl) {pl:Sem Bool}
 (ht:eval (.Call (.Attribute (.Name x p) "__init__" apos) (e::es) [] pos) X.env=(do
  let ov←eval (.Name x p) X.env
  standAt apos.atName
  let(f,first)←holding [ov] (getMethod ov "__init__" pl)
  callWith pos f first (backTo pos (starEach (e::es) X.env)) (backToKw pos (keywordEach [] X.env))):=by rfl):
 PE X (.Call (.Attribute (.Name x p) "__init__" apos) (e::es) [] pos) (qGD X.K t):=by(
intro pins s σ H Q I h
refine gJ (pl:=pl) (vK I hg hm ?_ hdb) ht
refine sL I.kIn b.ga (nB I.kIn b.rd b.fd rfl ?_)
refine wL (thn (ha pos pins _ σ H _ (I.tok _) h) λus s1 hZ=>?_) he hpl
obtain⟨vs,H1,I1,r,ea,C,od,y,fI,e1,hx,hc,q⟩:=hZ
subst e1
obtain⟨u,w',rfl,ru,rw'⟩:=qAN r
obtain rfl:u=Value.ref ea:=ru
obtain⟨tk,rfl⟩:=rw'
exact q9X I1 hx hc q)
end
end L2
namespace L2
open PySem
structure Keep(F:List Addr)(H H':Hp):Prop where
k:∀b o,b∉F→H b=some o→H' b=some o
tp:∀b xs,H b=some (.tup xs)→H' b=some (.tup xs)
theorem Keep.refl{F:List Addr}{H:Hp}:Keep F H H:=⟨λ_ _ _ e=>e,λ_ _ e=>e⟩
theorem Keep.trans{F:List Addr}{H H1 H2:Hp}(a:Keep F H H1)(b:Keep F H1 H2):Keep F H H2:=⟨λx o n e=>b.k x o n (a.k x o n e),λx xs e=>b.tp x xs (a.tp x xs e)⟩
theorem Keep.mono{F F':List Addr}{H H':Hp}(a:Keep F H H')(s:∀b∈F,b∈F'):Keep F' H H':=⟨λx o n e=>a.k x o (λm=>n (s x m)) e,a.tp⟩
theorem Keep.upd{F:List Addr}{H:Hp}{p:Addr}{o u:HO}(h:H p=some u)(nt:∀xs,u≠ .tup xs)(m:p∈F):Keep F H (upd H p o):=by(
refine⟨λb x n e=>?_,λb xs e=>?_⟩
·rw[qD (λ(z:b=p)=>n (z▸m))];exact e
rw[qD (jN e h (λz=>nt xs z.symm))];exact e)
theorem Keep.same{F:List Addr}{H H':Hp}(s:Same H H'):Keep F H H':=⟨λb o _ e=>s b o e,λb xs e=>s b _ e⟩
theorem Keep.none{F:List Addr}{H H':Hp}(a:Keep F H H'){b:Addr}(n:b∉F)(e:H' b=Option.none):H b=Option.none:=by(
cases q:H b with
|none=>rfl
|some o=>rw[a.k b o n q]at e;cases e)
structure CM where
bl:Int
pg:Int
mo:Int
lim:List (Key×V)
bo:List V
cl:List Int
dc:List Int
br:List Bool
lf:Option Int
rc:List (Str×Int×Bool)
structure CA where
dx:Addr
li:Addr
bo:Addr
cl:Addr
dc:Addr
br:Addr
rc:Addr
noncomputable def lfV:Option Int→V
| .none=>.non
| .some i=>.int i
noncomputable def chF(a:CA)(m:CM):List (Str×V):=[("blocks",.int m.bl),("pages",.int m.pg),("most",.int m.mo),("limits",.ref a.li),("borne",.ref a.bo),("clearings",.ref a.cl),("deed_counts",.ref a.dc),("broken",.ref a.br),("deeds_left",lfV m.lf),("record",.ref a.rc)]
noncomputable def trip(H:Hp)(v:V)(d:Str×Int×Bool):Prop:=∃p,v=.ref p∧H p=some (.tup [.str d.1,.int d.2.1,.bl d.2.2])
noncomputable abbrev Recd(H:Hp):List V→List (Str×Int×Bool)→Prop:=Paired (trip H)
theorem Recd.keep{F:List Addr}{H H':Hp}(k:Keep F H H'){rs:List V}{ds:List (Str×Int×Bool)}(r:Recd H rs ds):Recd H' rs ds:=Paired.mapP r λv d ⟨p,e,h⟩=>⟨p,e,k.tp _ _ h⟩
theorem _root_.PySem.Paired.len{α β:Type}{F:α→β→Prop}:∀{l₁:List α} {l₂:List β},Paired F l₁ l₂→l₁.length=l₂.length
|_,_,.nil=>rfl
|_,_,.cons _ t=>rD (· + 1) t.len
theorem Paired.snoc{α β:Type}{F:α→β→Prop}:∀{l₁:List α} {l₂:List β} {a:α} {b:β},Paired F l₁ l₂→F a b→Paired F (l₁++[a]) (l₂++[b])
|_,_,_,_,.nil,h=>.cons h .nil
|_,_,_,_,.cons r t,h=>.cons r (Paired.snoc t h)
noncomputable def foot(c:Addr)(a:CA):List Addr:=[c,a.bo,a.cl,a.dc,a.br,a.rc]
structure ChipAt(C:Addr)(H:Hp)(c:Addr)(a:CA)(m:CM):Prop where
ins:H c=some (.ins C a.dx (chF a m))
li:H a.li=some (.dK m.lim)
bo:H a.bo=some (.lst m.bo)
cl:H a.cl=some (.lst (m.cl.map V.int))
dc:H a.dc=some (.lst (m.dc.map V.int))
br:H a.br=some (.lst (m.br.map V.bl))
rc:∃rs,H a.rc=some (.lst rs)∧Recd H rs m.rc
nd:[a.bo,a.cl,a.dc,a.br,a.rc].Nodup
structure CM.Ok(m:CM):Prop where
bl1:2≤m.bl
bl2:m.bl≤16
pg1:1≤m.pg
pg2:m.pg≤16
nbo:(m.bo.length:Int)=m.bl*m.pg
ncl:(m.cl.length:Int)=m.bl
ndc:(m.dc.length:Int)=m.bl
nbr:(m.br.length:Int)=m.bl
lim:∀b v,valV m.lim (Sum.inl b)=some v→∃n,v=.int n
nrc:m.rc.length≤1000000
section
variable{C c:Addr}{a:CA}{m:CM}{H H':Hp}
theorem ChipAt.ne(h:ChipAt C H c a m):c≠a.bo∧c≠a.cl∧c≠a.dc∧c≠a.br∧c≠a.rc:=by obtain⟨rs,e,_⟩:=h.rc;exact⟨jN h.ins h.bo (by intro z;cases z),jN h.ins h.cl (by intro z;cases z),jN h.ins h.dc (by intro z;cases z),jN h.ins h.br (by intro z;cases z),jN h.ins e (by intro z;cases z)⟩
theorem ChipAt.nel(h:ChipAt C H c a m):a.li≠c∧a.li≠a.bo∧a.li≠a.cl∧a.li≠a.dc∧a.li≠a.br∧a.li≠a.rc:=by obtain⟨rs,e,_⟩:=h.rc;exact⟨jN h.li h.ins (by intro z;cases z),jN h.li h.bo (by intro z;cases z),jN h.li h.cl (by intro z;cases z),jN h.li h.dc (by intro z;cases z),jN h.li h.br (by intro z;cases z),jN h.li e (by intro z;cases z)⟩
theorem ChipAt.dst(h:ChipAt C H c a m):(a.bo≠a.cl∧a.bo≠a.dc∧a.bo≠a.br∧a.bo≠a.rc)∧(a.cl≠a.dc∧a.cl≠a.br∧a.cl≠a.rc)∧(a.dc≠a.br∧a.dc≠a.rc)∧a.br≠a.rc:=by(
have:=h.nd
simp only[mM,kG,mC,not_or,gS]at this
obtain⟨⟨a1,a2,a3,a4⟩,⟨b1,b2,b3⟩,⟨c1,c2⟩,d1,_⟩:=this
exact⟨⟨a1,a2,a3,a4⟩,⟨b1,b2,b3⟩,⟨c1,c2⟩,d1⟩)
theorem ChipAt.keep{F:List Addr}(h:ChipAt C H c a m)(k:Keep F H H')(n:∀b∈a.li::foot c a,b∉F):ChipAt C H' c a m:=by obtain⟨rs,e,r⟩:=h.rc;exact⟨k.k _ _ (n _ (by simp[foot])) h.ins,k.k _ _ (n _ (by simp)) h.li,k.k _ _ (n _ (by simp[foot])) h.bo,k.k _ _ (n _ (by simp[foot])) h.cl,k.k _ _ (n _ (by simp[foot])) h.dc,k.k _ _ (n _ (by simp[foot])) h.br,⟨rs,k.k _ _ (n _ (by simp[foot])) e,r.keep k⟩,h.nd⟩
theorem ChipAt.same(h:ChipAt C H c a m)(s:Same H H'):ChipAt C H' c a m:=h.keep (F:=[]) (Keep.same s) (by simp)
theorem ChipAt.setBo(h:ChipAt C H c a m)(v:List V):ChipAt C (upd H a.bo (.lst v)) c a { m with bo:=v }:=by(
obtain⟨n1,n2,n3,n4,n5⟩:=h.ne
obtain⟨l0,l1,l2,l3,l4,l5⟩:=h.nel
obtain⟨⟨a1,a2,a3,a4⟩,⟨b1,b2,b3⟩,⟨c1,c2⟩,d1⟩:=h.dst
obtain⟨rs,e,r⟩:=h.rc
have k:Keep [a.bo] H (upd H a.bo (.lst v)):=Keep.upd h.bo (λ_ z=>by cases z) (by simp)
exact⟨by rw[qD n1];exact h.ins,by rw[qD l1];exact h.li,qJ,by rw[qD a1.symm];exact h.cl,by rw[qD a2.symm];exact h.dc,by rw[qD a3.symm];exact h.br,⟨rs,by rw[qD a4.symm];exact e,r.keep k⟩,h.nd⟩)
theorem ChipAt.setDc(h:ChipAt C H c a m)(v:List Int):ChipAt C (upd H a.dc (.lst (v.map V.int))) c a { m with dc:=v }:=by(
obtain⟨n1,n2,n3,n4,n5⟩:=h.ne
obtain⟨l0,l1,l2,l3,l4,l5⟩:=h.nel
obtain⟨⟨a1,a2,a3,a4⟩,⟨b1,b2,b3⟩,⟨c1,c2⟩,d1⟩:=h.dst
obtain⟨rs,e,r⟩:=h.rc
have k:Keep [a.dc] H (upd H a.dc (.lst (v.map V.int))):=Keep.upd h.dc (λ_ z=>by cases z) (by simp)
exact⟨by rw[qD n3];exact h.ins,by rw[qD l3];exact h.li,by rw[qD a2];exact h.bo,by rw[qD b1];exact h.cl,qJ,by rw[qD c1.symm];exact h.br,⟨rs,by rw[qD c2.symm];exact e,r.keep k⟩,h.nd⟩)
theorem ChipAt.setBr(h:ChipAt C H c a m)(v:List Bool):ChipAt C (upd H a.br (.lst (v.map V.bl))) c a { m with br:=v }:=by(
obtain⟨n1,n2,n3,n4,n5⟩:=h.ne
obtain⟨l0,l1,l2,l3,l4,l5⟩:=h.nel
obtain⟨⟨a1,a2,a3,a4⟩,⟨b1,b2,b3⟩,⟨c1,c2⟩,d1⟩:=h.dst
obtain⟨rs,e,r⟩:=h.rc
have k:Keep [a.br] H (upd H a.br (.lst (v.map V.bl))):=Keep.upd h.br (λ_ z=>by cases z) (by simp)
exact⟨by rw[qD n4];exact h.ins,by rw[qD l4];exact h.li,by rw[qD a3];exact h.bo,by rw[qD b2];exact h.cl,by rw[qD c1];exact h.dc,qJ,⟨rs,by rw[qD d1.symm];exact e,r.keep k⟩,h.nd⟩)
theorem ChipAt.addRc{p:Addr}{rs:List V}{d:Str×Int×Bool}(h:ChipAt C H c a m)(e:H a.rc=some (.lst rs))(hp:H p=some (.tup [.str d.1,.int d.2.1,.bl d.2.2])):ChipAt C (upd H a.rc (.lst (rs++[.ref p]))) c a { m with rc:=m.rc++[d] }:=by(
obtain⟨n1,n2,n3,n4,n5⟩:=h.ne
obtain⟨l0,l1,l2,l3,l4,l5⟩:=h.nel
obtain⟨⟨a1,a2,a3,a4⟩,⟨b1,b2,b3⟩,⟨c1,c2⟩,d1⟩:=h.dst
obtain⟨rs',e',r⟩:=h.rc
rw[e]at e'
cases e'
have k:Keep [a.rc] H (upd H a.rc (.lst (rs++[.ref p]))):=Keep.upd e (λ_ z=>by cases z) (by simp)
exact⟨by rw[qD n5];exact h.ins,by rw[qD l5];exact h.li,by rw[qD a4];exact h.bo,by rw[qD b3];exact h.cl,by rw[qD c2];exact h.dc,by rw[qD d1];exact h.br,⟨_,qJ,Paired.snoc (r.keep k) ⟨p,rfl,k.tp _ _ hp⟩⟩,h.nd⟩)
end
noncomputable def CM.spent(m:CM)(b:Int):Bool:=match valV m.lim (Sum.inl b)with
|some (.int n)=>decide (n≤m.dc.getD b.toNat 0)
|_=>false
noncomputable def CM.deed(m:CM)(w:Str)(pl b:Int)(f:Bool):CM:={ m with lf:=m.lf.map (· - 1),dc:=m.dc.set b.toNat (m.dc.getD b.toNat 0+1),rc:=m.rc++[(w,pl,!f)],br:=if f then m.br.set b.toNat true else m.br }
noncomputable def CM.new(bl pg mo:Int)(lim:List (Key×V)):CM:=⟨bl,pg,mo,lim,List.replicate (bl*pg).toNat .non,List.replicate bl.toNat 0,List.replicate bl.toNat 0,List.replicate bl.toNat false,none,[]⟩
theorem q5U{x:V}{lo hi:Int}(h:inB x lo hi=true):∃p,x=.int p∧lo≤p∧p≤hi:=by(
cases x with
|int p=>have h:(decide (lo≤p)&&decide (p≤hi))=true:=h;rw[kO]at h;exact⟨p,rfl,mK h.1,mK h.2⟩
|_=>cases h)
theorem qF0{p lo hi:Int}(h:¬inB (.int p) lo hi=true):¬(lo≤p∧p≤hi):=λz=>h (by show(decide (lo≤p)&&decide (p≤hi))=true;rw[hW z.1,hW z.2];rfl)
theorem qF1{m:CM}{p:Int}(ok:m.Ok)(p0:0≤p)(p1:p≤m.bl*m.pg-1):0≤p / m.pg∧p / m.pg<m.bl:=by have:=ok.pg1;exact⟨Int.ediv_nonneg p0 (by lia),Int.ediv_lt_of_lt_mul (by lia) (by lia)⟩
theorem lf0{m:CM}:decide (lfV m.lf=V.int 0)=decide (m.lf=some 0):=by(
cases e:m.lf with
|none=>rfl
|some i=>
 show decide (V.int i=V.int 0)=_;by_cases z:i=0
 ·subst z;rfl
 rw[hZ (λq=>z (by injection q)),hZ (λq=>z (by injection q))])
theorem qCO{m:CM}:scal (lfV m.lf) (.int 0)=true:=by cases m.lf<;>rfl
theorem getB{m:CM}{b:Int}(h0:0≤b)(h:b<(m.br.length:Int)):atI (m.br.map V.bl) b=some (.bl (m.br.getD b.toNat false)):=by(
obtain⟨j,rfl⟩:=dX h0
refine q0V ?_
have hj:j<m.br.length:=by lia
simp[hj])
theorem getI{xs:List Int}{b:Int}(h0:0≤b)(h:b<(xs.length:Int)):atI (xs.map V.int) b=some (.int (xs.getD b.toNat 0)):=by(
obtain⟨j,rfl⟩:=dX h0
refine q0V ?_
have hj:j<xs.length:=by lia
simp[hj])
theorem getV{xs:List V}{b:Int}(h0:0≤b)(h:b<(xs.length:Int)):atI xs b=some (xs.getD b.toNat .non):=by(
obtain⟨j,rfl⟩:=dX h0
refine q0V ?_
have hj:j<xs.length:=by lia
simp[hj])
theorem ixOk{n:Nat}{b:Int}(h0:0≤b)(h:b<(n:Int)):ixN n b=some b.toNat:=by unfold ixN;rw[hU h0,hU h]
theorem qBA{C:Addr}{H:Hp}{f:Str}{b:Int}{E:XK}{ea:Addr}(hea:H ea=none)(q:∀dx H',Same H H'→H' dx=some (.xd [(f,.int b)])→E (.ref C) (some dx) H')(dx:Addr)(h1:(upd H ea (XN ea (.ref C) none)) dx=none)(h2:dx≠ea):
 ∃od,(upd (upd (upd H ea (XN ea (.ref C) none)) ea (XN ea (.ref C) (some dx))) dx (.xd [(f,.int b)])) ea=some (XN ea (.ref C) od)∧E (.ref C) od (del (upd (upd (upd H ea (XN ea (.ref C) none)) ea (XN ea (.ref C) (some dx))) dx (.xd [(f,.int b)])) ea):=by(
refine⟨some dx,by rw[qD h2.symm,qJ],q dx _ (λb' o e=>?_) (by rw[q8A h2,qJ])⟩
have n1:b'≠ea:=qF e hea
have n2:b'≠dx:=λz=>by rw[qD h2]at h1;rw[z,h1]at e;cases e
rw[q8A n1,qD n2,qD n1,qD n1]
exact e)
theorem CM.Ok.deed{m:CM}(ok:m.Ok){w:Str}{pl b:Int}{f:Bool}(h:m.rc.length<1000000):(m.deed w pl b f).Ok:=by(
refine⟨ok.bl1,ok.bl2,ok.pg1,ok.pg2,ok.nbo,ok.ncl,?_,?_,ok.lim,?_⟩
·show((m.dc.set _ _).length:Int)=m.bl;rw[m7];exact ok.ndc
·show(((if f then m.br.set b.toNat true else m.br)).length:Int)=m.bl;cases f with
 |true=>rw[hU rfl,m7];exact ok.nbr
 |false=>exact ok.nbr
show(m.rc++[_]).length≤1000000
rw[kZ,rF]
lia)
theorem qGE{n:Int}(h:n.natAbs<10 ^ 20):n.natAbs.log2<1920:=by(
by_cases z:n.natAbs=0
·rw[z];decide
exact(Nat.log2_lt z).mpr (kQ h (by decide+kernel)))
theorem qF2{x y:Str}{i:Int}(hx:x.length≤100)(hy:y.length≤100)(h:i.natAbs<10 ^ 20):(Str.empty++x).length≤sizeLine∧(Str.empty++x++Str.ofString (toString i)).length≤sizeLine∧(Str.empty++x++Str.ofString (toString i)++y).length≤sizeLine:=by(
have h1:(Str.ofString (toString i)).length≤21:=by have:=int_text_length_le10 (a:=i) (k:=20) (by decide) h;rw[ofString_length];exact this
have h0:Str.empty.length=0:=rfl
rw[mT]
simp only[strLen_append]
lia)
noncomputable def spBF(K:PySem.W.Frag)(C fI:Addr)(f:Str):Sp:=λvs H Q _=>∃ea b,vs=[.ref ea,.int b]∧xinI K C fI=true∧XAt K C∧qO K C f∧b.natAbs<10 ^ 20∧H ea=some (XN ea (.ref C) none)∧∀dx,H dx=none→dx≠ea→Q .non (upd (upd H ea (XN ea (.ref C) (some dx))) dx (.xd [(f,.int b)]))
noncomputable def qCP:Sp:=λvs H Q _=>∃x y,vs=[x,y]∧Knd H x∧Knd H y∧Q (.bl (inB x 2 16&&inB y 1 16)) H
noncomputable def limM(bl:Int):List (V×V)→List (Key×V)→Option (List (Key×V))
| [],acc=>some acc
|(b,d)::r,acc=>match b with
 | .int i=>if 0≤i∧i≤bl-1 then(if(valV acc (Sum.inl i)).isSome=true then none else if inB d 0 1000000=true then limM bl r (putK acc (Sum.inl i) d)else none)else none
 |_=>none
noncomputable def vU(H:Hp)(v:V)(d:V×V):Prop:=∃p,v=.ref p∧H p=some (.tup [d.1,d.2])∧Knd H d.1∧Knd H d.2
theorem vU.same{H H':Hp}(s:Same H H'){v:V}{d:V×V}(h:vU H v d):vU H' v d:=let⟨p,e,h1,k1,k2⟩:=h;⟨p,e,s _ _ h1,k1.same s,k2.same s⟩
theorem Paired.at{α β:Type}{F:α→β→Prop}:∀{l₁:List α} {l₂:List β} {i:Nat} {a:α},Paired F l₁ l₂→l₁[i]?=some a→∃b,l₂[i]?=some b∧F a b
|_,_,0,_,.cons r _,e=>by simp at e;subst e;exact⟨_,rfl,r⟩
|_,_,i+1,_,.cons _ t,e=>by have e2:=cW.symm.trans e;obtain⟨b,h1,h2⟩:=Paired.at t e2;exact⟨b,cW.trans h1,h2⟩
|_,_,_,_,.nil,e=>by simp at e
theorem q9Y{bl:Int}{its:List (V×V)}{i:Nat}{acc:List (Key×V)}{bd:V×V}(h:its[i]?=some bd):limM bl (its.drop i) acc=limM bl (bd::its.drop (i+1)) acc:=by rw[List.drop_eq_getElem_cons (kD.mp h).1,(kD.mp h).2]
theorem q94{bl:Int}:∀{its:List (V×V)} {acc lim:List (Key×V)},limM bl its acc=some lim→(∀b v,valV acc (Sum.inl b)=some v→∃n,v=V.int n)→∀b v,valV lim (Sum.inl b)=some v→∃n,v=V.int n
| [],acc,lim,h,k=>by cases h;exact k
|(b,d)::r,acc,lim,h,k=>by
 cases b with
 |int i=>
  have h:(if 0≤i∧i≤bl-1 then(if(valV acc (Sum.inl i)).isSome=true then none else if inB d 0 1000000=true then limM bl r (putK acc (Sum.inl i) d)else none)else none)=some lim:=h;split at h
  ·split at h
   ·cases h
   split at h
   ·rename_i hd;refine q94 h λb' v hv=>?_;rw[q72]at hv;split at hv
    ·cases hv;obtain⟨p,e,_⟩:=q5U hd;exact⟨p,e⟩
    exact k b' v hv
   cases h
  cases h
 |_=>cases h
theorem qF3{bl pg mo:Int}{lim:List (Key×V)}(b1:2≤bl)(b2:bl≤16)(p1:1≤pg)(p2:pg≤16)(hl:∀b v,valV lim (Sum.inl b)=some v→∃n,v=V.int n):(CM.new bl pg mo lim).Ok:=by(
have h:0≤bl*pg:=n9 (by lia) (by lia)
refine⟨b1,b2,p1,p2,?_,?_,?_,?_,hl,by show 0≤1000000;decide⟩
·show((List.replicate (bl*pg).toNat V.non).length:Int)=bl*pg;rw[mR];lia
·show((List.replicate bl.toNat (0:Int)).length:Int)=bl;rw[mR];lia
·show((List.replicate bl.toNat (0:Int)).length:Int)=bl;rw[mR];lia
show((List.replicate bl.toNat false).length:Int)=bl
rw[mR]
lia)
theorem q7B{bl:Int}{bd:V×V}{r:List (V×V)}{acc:List (Key×V)}(h:¬inB bd.1 0 (bl-1)=true):limM bl (bd::r) acc=none:=by(
obtain⟨b,d⟩:=bd
cases b with
|int i=>exact hV (qF0 h)
|_=>rfl)
theorem q3X{bl:Int}{i:Int}{d:V}{r:List (V×V)}{acc:List (Key×V)}(h:0≤i∧i≤bl-1)(h2:(valV acc (Sum.inl i)).isSome=true):limM bl ((.int i,d)::r) acc=none:=(hU h).trans (hU h2)
theorem q3Y{bl:Int}{i:Int}{d:V}{r:List (V×V)}{acc:List (Key×V)}(h:0≤i∧i≤bl-1)(h2:¬(valV acc (Sum.inl i)).isSome=true)(h3:¬inB d 0 1000000=true):limM bl ((.int i,d)::r) acc=none:=(hU h).trans ((hV h2).trans (hV h3))
theorem q0W{bl:Int}{i:Int}{d:V}{r:List (V×V)}{acc:List (Key×V)}(h:0≤i∧i≤bl-1)(h2:¬(valV acc (Sum.inl i)).isSome=true)(h3:inB d 0 1000000=true):limM bl ((.int i,d)::r) acc=limM bl r (putK acc (Sum.inl i) d):=(hU h).trans ((hV h2).trans (hU h3))
noncomputable def Up(x:Addr)(H H':Hp):Prop:=∀b o,b≠x→H b=some o→H' b=some o
section
variable{x C dx:Addr}{fs:List (Str×V)}{H H':Hp}
theorem Up.knd(u:Up x H H')(hx:H x=some (.ins C dx fs)){v:V}(k:Knd H v):Knd H' v:=by(
cases k with
|non=>exact .non
|bl b=>exact .bl b
|int i=>exact .int i
|str x=>exact .str x
|lst e=>exact .lst (u _ _ (jN e hx (by intro z;cases z)) e)
|tup e=>exact .tup (u _ _ (jN e hx (by intro z;cases z)) e))
theorem Up.pair(u:Up x H H')(hx:H x=some (.ins C dx fs)){v:V}{d:V×V}(h:vU H v d):vU H' v d:=let⟨p,e,h1,k1,k2⟩:=h;⟨p,e,u _ _ (jN h1 hx (by intro z;cases z)) h1,u.knd hx k1,u.knd hx k2⟩
theorem Up.seq(u:Up x H H')(hx:H x=some (.ins C dx fs)){K:PySem.W.Frag}{a:Addr}{xs:List V}(h:SqL K H a xs):SqL K H' a xs:=by(
rcases h with(h|⟨o,h⟩)|h
·exact .inl (.inl (u _ _ (jN h hx (by intro z;cases z)) h))
·exact .inl (.inr ⟨o,u _ _ (jN h hx (by intro z;cases z)) h⟩)
exact .inr h)
theorem Up.of{o:HO}(s:Same H H'):Up x H (upd H' x o):=λb u n e=>by rw[qD n];exact s b u e
theorem Up.free(u:Up x H H'){b:Addr}(n:b≠x)(e:H' b=none):H b=none:=by(
cases q:H b with
|none=>rfl
|some o=>rw[u b o n q]at e;cases e)
end
end L2
namespace L2
open PySem PySem.Spec PyProof.Rows
noncomputable def tMid(t u:TS):TS:=λD σ H=>∃M:St→Hp→Prop,t { D with nx:=M } σ H∧∀σ' H',M σ' H'→u D σ' H'
section
variable{X:Cx}{st:Stmt}{rest:List Stmt}{t u:TS}{e:Expr}{te:TE}{tt:TT}
theorem q3E(h1:PS X st t)(h2:PSs X rest u):PSs X (st::rest) (tMid t u):=by(
intro pins s σ H D I hZ
obtain⟨M,a,b⟩:=hZ
refine hI (thn (h1 pins s σ H _ I a) λf s1 z=>?_)
cases f with
|next=>obtain⟨σ',H',I',q⟩:=z;exact h2 pins s1 σ' H' D I' (b σ' H' q)
|brk=>exact kJ z
|cont=>exact kJ z
|ret v=>exact kJ z)
end
theorem vV{a b:Int}:decide (V.int a=V.int b)=decide (a=b):=by(
by_cases e:a=b
·subst e;simp
rw[hZ e,hZ (λz=>e (by injection z))])
theorem uP(x n:Int)(h:0<n):0≤x%n∧x%n<n:=⟨Int.emod_nonneg _ (by lia),Int.emod_lt_of_pos _ h⟩
section
variable{X:Cx}{pins:List (Addr×Obj)}{σ:St}{H:Hp}{s:Shared}{h':Heap}
theorem Inv.turnedN{t':Nat}{fp:List Addr}(I:Inv X pins σ H s)(k:∀b o,b∉fp→s.heap.get? b=some o→h'.get? b=some o)(hf:∀b∈fp,FpOk X pins H b):Inv X pins σ H { s with heap:=h',toks:=t' }:=by(
have nit:∀b u,H b=some u→b∉fp:=λb u e z=>by rw[(hf b z).1]at e;cases e
refine I.step (g':=s.gens) (d':=s.drawn) (ch:=fp) (λb hb=>?_) (λb o _ _ hc e _=>k b o hc e) (λb o _ _ hc e _=>⟨o.slots,k b o hc e⟩) (λ_ _ _ _ n=>n)
 (λb o hc e=>⟨o,k b o hc e⟩) (λ_ _ e=>e) (λ_ _ _ e=>e) (λb ps e=>⟨#[],by rw[e];simp⟩) (λm hm=>?_) (λb u e=>?_) I.bare
·obtain⟨f0,f1,f2,f3,f4,f5⟩:=hf b hb;exact⟨f3,f1,f4,f5⟩
·obtain⟨o,es,ep,ho,r⟩:=hm;exact⟨o,es,ep,k _ o (λz=>(hf _ z).2.1 rfl) ho,r⟩
refine(I.hok b u e).stay (λc v hc q=>k c v ?_ q) (λ_ q=>q) λ_ _ q=>q
rcases hc with z|z
·rw[z];exact nit b u e
exact nit c _ z)
end
end L2
namespace L2
open PySem
theorem zH{es rest:List Expr}{x1}{p:Pos}{env:Env}:starEach (.Tuple es x1 p::rest) env=(false,eval (.Tuple es x1 p) env)::starEach rest env:=rfl
theorem qBB{es rest:List Expr}{p:Pos}{env:Env}:starEach (.List es p::rest) env=(false,eval (.List es p) env)::starEach rest env:=rfl
end L2
namespace L2
open PySem PySem.Spec PyProof.Rows
inductive Eqv(K:PySem.W.Frag)(H:Hp):Nat→V→V→Prop where
|flat {n:Nat} {x:V} (f:uU x=true):Eqv K H n x x
|lst {n:Nat} {a b:Addr} {xs ys:List V} (ha:SqL K H a xs) (hb:SqL K H b ys) (hl:xs.length=ys.length) (hi:∀(i:Nat) x y,xs[i]?=some x→ys[i]?=some y→Eqv K H n x y):Eqv K H (n+1) (.ref a) (.ref b)
|tup {n:Nat} {a b:Addr} {xs ys:List V} (ha:SqT K H a xs) (hb:SqT K H b ys) (hl:xs.length=ys.length) (hi:∀(i:Nat) x y,xs[i]?=some x→ys[i]?=some y→Eqv K H n x y):Eqv K H (n+1) (.ref a) (.ref b)
theorem qBC{x:V}(f:uU x=true):eqV x x=true:=by(
cases x with
|non=>rfl
|bl b=>cases b<;>rfl
|int i=>show(i==i)=true;exact beq_self_eq_true i
|str z=>show(z==z)=true;exact beq_self_eq_true z
|_=>exact absurd (show false=true from f) kC)
theorem zI{n:Nat}:(List.range n).all (λ_=>true)=true:=by simp
section
variable{X:Cx}{pins:List (Addr×Obj)}{σ:St}{H:Hp}{s:Shared}
theorem Vals.atN{xs:List V}{us:List Value}(r:Vals xs us){j:Nat}(h:j<us.length):∃x,xs[j]?=some x∧RelV x us[j]:=by(
have e:xs[j]?=some (xs[j]'(by rw[r.length];exact h)):=kE _
obtain⟨u,hu,ru⟩:=r.get e
rw[kE h]at hu
cases hu
exact⟨_,e,ru⟩)
theorem Eqv.at(I:Inv X pins σ H s){n:Nat}{y x:V}(h:Eqv X.K H n y x):∀{A:Around} {u v:Value},RelV y u→RelV x v→A.units+n<cLine→SeqAt.EqAt A s u v true:=by(
induction h with
|flat f=>intro A u v ru rv _;have e:=qAV (A:=A) (s:=s) ru rv f f;rw[qBC f]at e;exact e
|@lst n a b xs ys ha hb hl hi ih=>
 intro A u v ru rv hu;cases ru;cases rv;by_cases hab:a=b
 ·subst hab;exact pC _
 obtain⟨i1,r1,p1,_⟩:=I.list ha;obtain⟨i2,r2,p2,_⟩:=I.list hb;have l1:=r1.length;have l2:=r2.length;refine sN hab ?_;have e:=SeqAt.RcAt.lists (A:=A) (e:=λ_=>true) p1.isList p2.isList (by simp;lia) (by lia) (λj h1 h2=>?_)
 ·rw[zI]at e;exact e
 obtain⟨x1,e1,q1⟩:=r1.atN (j:=j) (by simpa using h1);obtain⟨x2,e2,q2⟩:=r2.atN (j:=j) (by simpa using h2);exact ih j x1 x2 e1 e2 (by simpa using q1) (by simpa using q2) (by show A.units+1+n<cLine;lia)
|@tup n a b xs ys ha hb hl hi ih=>
 intro A u v ru rv hu;cases ru;cases rv;by_cases hab:a=b
 ·subst hab;exact pC _
 obtain⟨i1,r1,p1,_⟩:=I.tuple ha;obtain⟨i2,r2,p2,_⟩:=I.tuple hb;have l1:=r1.length;have l2:=r2.length;refine sN hab ?_;have e:=SeqAt.RcAt.tuples (A:=A) (e:=λ_=>true) (show s.heap.IsTuple a i1.toArray from p1) (show s.heap.IsTuple b i2.toArray from p2) (by lia) (λj h1 h2=>?_)
 ·rw[zI,p6,show(i1.toArray.size==i2.toArray.size)=true by simp;lia]at e;exact e
 obtain⟨x1,e1,q1⟩:=r1.atN (j:=j) (by simpa using h1);obtain⟨x2,e2,q2⟩:=r2.atN (j:=j) (by simpa using h2);exact ih j x1 x2 e1 e2 (by simpa using q1) (by simpa using q2) (by show A.units+1+n<cLine;lia))
theorem q9Z{x:V}(f:uU x=true):scal x x=true:=by(
cases x with
|non=>rfl
|bl b=>rfl
|int i=>rfl
|str z=>rfl
|_=>exact absurd (show false=true from f) kC)
noncomputable def qGF(K:PySem.W.Frag)(r:Bool):R2:=λx y H Q=>Eqv K H 6 x y∧Q (.bl r) H
theorem qBD(hu:X.A.units+64<cLine):OpR X (compareOp .Eq) (qGF X.K true):=by(
intro pins s σ H x y v u Q I rx ry hZ
obtain⟨h,q⟩:=hZ
cases h with
|flat f=>exact q00 pins s σ H x x v u Q I rx ry ⟨q9Z f,by rw[hW rfl];exact q⟩
|@lst _ a b xs ys ha hb hl hi=>cases rx;cases ry;obtain⟨i1,r1,p1,_⟩:=I.list ha;obtain⟨i2,r2,p2,_⟩:=I.list hb;have l1:=r1.length;have l2:=r2.length;refine nU (e:=λ_=>true) p1.isList p2.isList (by simp;lia) (by lia) (λj h1 h2=>?_) ⟨.bl true,H,I,by rw[zI];rfl,q⟩;obtain⟨x1,e1,q1⟩:=r1.atN (j:=j) (by simpa using h1);obtain⟨x2,e2,q2⟩:=r2.atN (j:=j) (by simpa using h2);exact(hi j x1 x2 e1 e2).at I (by simpa using q1) (by simpa using q2) (by show X.A.units+1+5<cLine;lia)
|@tup _ a b xs ys ha hb hl hi=>cases rx;cases ry;obtain⟨i1,r1,p1,_⟩:=I.tuple ha;obtain⟨i2,r2,p2,_⟩:=I.tuple hb;have l1:=r1.length;have l2:=r2.length;refine SeqAt.eq_tupleAt (e:=λ_=>true) (show s.heap.IsTuple a i1.toArray from p1) (show s.heap.IsTuple b i2.toArray from p2) (by lia) (λj h1 h2=>?_) ⟨.bl true,H,I,by rw[zI,p6,show(i1.toArray.size==i2.toArray.size)=true by simp;lia];rfl,q⟩;obtain⟨x1,e1,q1⟩:=r1.atN (j:=j) (by simpa using h1);obtain⟨x2,e2,q2⟩:=r2.atN (j:=j) (by simpa using h2);exact(hi j x1 x2 e1 e2).at I (by simpa using q1) (by simpa using q2) (by show X.A.units+1+5<cLine;lia))
end
end L2
namespace L2
open PySem
theorem q5D{K:PySem.W.Frag}{H:Hp}{n:Nat}{a b:Addr}{xs:List V}(ha:SqT K H a xs)(hb:SqT K H b xs)(f:∀x∈xs,uU x=true):Eqv K H (n+1) (.ref a) (.ref b):=.tup ha hb rfl λi x y hx hy=>by  have e:=kH (hx.symm.trans hy);subst e;exact .flat (f x (mY hx))
end L2
namespace L2
open PySem PySem.Spec PyProof.Rows
noncomputable def clOf(env:Env):List (Str×NameKind)→List (Str×Addr)→List (Str×Addr)
| [],cs=>cs
|(n,k)::r,cs=>clOf env r (if(k==NameKind.free)=true then(match env.cells.lookup n with|some a=>(n,a)::cs|none=>cs)else cs)
theorem q3Z{scope:Scope}{env:Env}(h:∀y∈scope.names,y.2=.free→∃c,env.cells.lookup y.1=some c):closureFor scope env=pure (clOf env scope.names []):=by(
unfold closureFor
have go:∀(l:List (Str×NameKind)) (cs:List (Str×Addr)),(∀y∈l,y.2=.free→∃c,env.cells.lookup y.1=some c)→(forIn l cs λx r=>(match x with|(name,kind)=>if(kind==NameKind.free)=true then do let a←cellOf env name;pure (ForInStep.yield ((name,a)::r))else pure (ForInStep.yield r):Sem (ForInStep (List (Str×Addr)))))=pure (clOf env l cs):=by
 intro l;induction l with
 |nil=>intro cs _;rfl
 |cons y r ih=>
  intro cs hl;obtain⟨n,k⟩:=y;rw[nV];by_cases hk:(k==NameKind.free)=true
  ·obtain⟨c,e⟩:=hl (n,k) kM (by simpa using hk);have e2:cellOf env n=pure c:=by unfold cellOf;rw[e]
   show(bind (if(k==NameKind.free)=true then _ else _) _:Sem _)=_;rw[hU hk,e2];show(forIn r ((n,c)::cs) _:Sem _)=pure (clOf env r (if(k==NameKind.free)=true then(match env.cells.lookup n with|some a=>(n,a)::cs|none=>cs)else cs));rw[hU hk,e];exact ih _ λy hy=>hl y (h9 _ hy)
  show(bind (if(k==NameKind.free)=true then _ else _) _:Sem _)=_;rw[hV hk];show(forIn r cs _:Sem _)=pure (clOf env r (if(k==NameKind.free)=true then(match env.cells.lookup n with|some a=>(n,a)::cs|none=>cs)else cs));rw[hV hk];exact ih _ λy hy=>hl y (h9 _ hy)
exact(rD (λz:Sem (List (Str×Addr))=>z >>= λs=>pure s) (go scope.names [] h)).trans rfl)
theorem q40{env:Env}{x:Str}{c:Addr}:∀(l:List (Str×NameKind)) (cs:List (Str×Addr)),(cs.lookup x=some c→env.cells.lookup x=some c)→(clOf env l cs).lookup x=some c→env.cells.lookup x=some c
| [],cs,hcs,h=>hcs h
|(n,k)::r,cs,hcs,h=>by
 refine q40 r _ ?_ h;intro q;split at q
 ·cases e:env.cells.lookup n with
  |none=>rw[e]at q;exact hcs q
  |some a=>
   rw[e]at q;have q:List.lookup x ((n,a)::cs)=some c:=q;rw[gD]at q;cases z:x==n with
   |true=>
    rw[z]at q;have z':x=n:=by simpa using z
    rw[z',e,←q]
   |false=>rw[z]at q;exact hcs q
 exact hcs q
theorem q41{env:Env}{x:Str}{c:Addr}(e:env.cells.lookup x=some c):∀(l:List (Str×NameKind)) (cs:List (Str×Addr)),((x,NameKind.free)∈l∨cs.lookup x=some c)→(clOf env l cs).lookup x=some c
| [],cs,h=>h.resolve_left (by simp)
|(n,k)::r,cs,h=>by
 refine q41 e r _ ?_;by_cases hn:(x==n)=true
 ·have z':x=n:=by simpa using hn
  by_cases hk:(k==NameKind.free)=true
  ·refine .inr ?_;rw[hU hk,←z',e];show List.lookup x ((x,c)::cs)=some c;simp
  rcases h with h|h
  ·rcases kG.mp h with q|q
   ·cases q;exact absurd (by simp) hk
   exact .inl q
  rw[hV hk];exact .inr h
 have nx:x≠n:=λz=>hn (by simp[z]);rcases h with h|h
 ·rcases kG.mp h with q|q
  ·cases q;exact absurd rfl nx
  exact .inl q
 refine .inr ?_;split
 ·cases en:env.cells.lookup n with
  |none=>exact h
  |some a=>
   show List.lookup x ((n,a)::cs)=some c;have hn:(x==n)=false:=by simpa using nx
   rw[gD,hn];exact h
 exact h
theorem q7C{env:Env}{x:Str}:∀{names:List (Str×NameKind)},(∀y∈names,y.2≠ .cell)→((names.map λ(n,k)=>if(k==NameKind.free&&env.scope.kind== .function&&env.kindOf n==some .cell)then(n,NameKind.cell)else(n,k)).lookup x=some .cell∨(names.map λ(n,k)=>if(k==NameKind.free&&env.scope.kind== .function&&env.kindOf n==some .cell)then(n,NameKind.cell)else(n,k)).lookup x=some .free)→(x,NameKind.free)∈names
| [],_,h=>by simp at h
|(n,k)::r,hc,h=>by
 have ih:=@q7C env x r λy hy=>hc y (h9 _ hy);rw[k7]at h;by_cases hq:(k==NameKind.free&&env.scope.kind== .function&&env.kindOf n==some .cell)=true
 ·have hk:k=.free:=by rw[kO,kO]at hq;simpa using hq.1.1
  simp only[hU hq,gD]at h;cases hx:x==n with
  |true=>
   have e:x=n:=by simpa using hx
   rw[e,hk];exact kM
  |false=>simp only[hx]at h;exact h9 _ (ih h)
 simp only[hV hq,gD]at h;cases hx:x==n with
 |true=>
  simp only[hx]at h;have e:x=n:=by simpa using hx
  rcases h with h|h
  ·cases h;exact absurd rfl (hc _ kM)
  cases h;rw[e];exact kM
 |false=>simp only[hx]at h;exact h9 _ (ih h)
theorem q7D{env:Env}{x:Str}(hk:env.scope.kind=.function)(he:env.kindOf x=some .cell):∀{names:List (Str×NameKind)},names.lookup x=some .free→(names.map λ(n,k)=>if(k==NameKind.free&&env.scope.kind== .function&&env.kindOf n==some .cell)then(n,NameKind.cell)else(n,k)).lookup x=some .cell
| [],h=>by simp at h
|(n,k)::r,h=>by
 have ih:=@q7D env x hk he r;rw[k7];rw[gD]at h;cases hx:x==n with
 |true=>
  simp only[hx]at h;have e:x=n:=by simpa using hx
  cases h;subst e;show List.lookup x ((if(NameKind.free==NameKind.free&&env.scope.kind==ScopeKind.function&&env.kindOf x==some NameKind.cell)=true then(x,NameKind.cell)else(x,NameKind.free))::_)=_;rw[hU (by rw[hk,he];rfl),gD];simp
 |false=>
  simp only[hx]at h;show List.lookup x ((if(k==NameKind.free&&env.scope.kind==ScopeKind.function&&env.kindOf n==some NameKind.cell)=true then(n,NameKind.cell)else(n,k))::_)=_;by_cases hq:(k==NameKind.free&&env.scope.kind== .function&&env.kindOf n==some .cell)=true
  ·rw[hU hq,gD];simp only[hx];exact ih h
  rw[hV hq,gD];simp only[hx];exact ih h
noncomputable abbrev yT(X:Cx)(N:List Str)(scope:Scope)(C:Addr)(fp:List Addr)(s:Shared)(H:Hp)(xe:Value→Shared→Prop):Cx:={ X with N:=N,s₀:=s,H₀:=H,env:=compEnvC scope (clOf X.env scope.names []) C X.env,outer:=X.stack,ex:=fp,fn:=λ_=>false,xe:=xe }
noncomputable def pick(ix:List Nat)(σ:St):St:=ix.map λi=>σ.getD i none
noncomputable def q5E(XN:List Str)(kd:Str→Option NameKind)(names:List (Str×NameKind))(N:List Str)(ix:List Nat):Bool:=(List.range ix.length).all λj=>match N[j]?,ix[j]? with
 |some x,some i=>decide (XN[i]?=some x)&&decide (names.lookup x=some .free)&&decide (kd x=some .cell)
 |_,_=>false
theorem qBE{XN:List Str}{kd:Str→Option NameKind}{names:List (Str×NameKind)}{N:List Str}{ix:List Nat}(h:q5E XN kd names N ix=true){j:Nat}(hj:j<ix.length){x:Str}(hx:N[j]?=some x):
 ∃i,ix[j]?=some i∧XN[i]?=some x∧names.lookup x=some .free∧kd x=some .cell:=by(
unfold q5E at h
rw[dE]at h
have q:=h j (mZ.mpr hj)
rw[hx,kE hj]at q
simp only[kO,kI]at q
exact⟨_,kE hj,q.1.1,q.1.2,q.2⟩)
theorem qCQ{X:Cx}{pins:List (Addr×Obj)}{σ:St}{H:Hp}{s:Shared}(I:Inv X pins σ H s){N:List Str}{ix:List Nat}{scope:Scope}{fp:List Addr}{xe:Value→Shared→Prop}(hf:∀b∈fp,FpOk X pins H b)(ho:∀b∈fp,∃o,s.heap.get? b=some o)
 (hk:scope.kind=.function) (hc:∀y∈scope.names,y.2≠ .cell) (hfr:∀y∈scope.names,y.2=.free→X.env.kindOf y.1=some .cell) (hcap:q5E X.N X.env.kindOf scope.names N ix=true) (hN:ix.length≤N.length) {h₁:Heap} {tk n:Nat} {m:Str→Option Value}
 (hn:h₁.Ns (s.heap.objs.size+1) m) (hkp:∀b u,s.heap.get? b=some u→h₁.get? b=some u) (hD:h₁.get? s.heap.objs.size=some { cls:=.type "list",data:=.seq ([]:List Value).toArray n }):
 Inv (yT X N scope (s.heap.objs.size+1) fp s H xe) [] (pick ix σ++List.replicate (N.length-ix.length) none) (upd H s.heap.objs.size (.lst [])) { s with heap:=h₁,toks:=tk }:=by(
have fresh:H s.heap.objs.size=none:=I.hok.fresh (kB _)
have fresh1:H (s.heap.objs.size+1)=none:=I.hok.fresh (dA _)
have cel:∀x c,(clOf X.env scope.names []).lookup x=some c→X.env.cells.lookup x=some c:=λx c e=>q40 _ _ (by intro q;simp at q) e
have clt:∀x c,(clOf X.env scope.names []).lookup x=some c→c<s.heap.objs.size:=λx c e=>by obtain⟨v,q⟩:=I.cell x c (cel x c e);exact q.lt
refine⟨⟨I.ok.mod,hk,I.ok.glob,I.ok.blt,dA _,λx y c h1 h2=>I.ok.inj x y c (cel x c h1) (cel y c h2),λx hx=>?_,λx c h=>absurd h kC,I.ok.hd,I.ok.frames,.inl rfl,λb hb=>⟨?_,λx c e=>?_⟩,I.bs,kY I.ok.bsz I.sz,λb o e hb=>?_,λb hb z=>?_,I.stack,I.stkFree⟩,rfl,I.bare,Un.laid hkp (kB _) fresh,⟨m,hn,λi x v e1 e2 e3=>?_⟩,λx c e=>?_,?_,λx c e=>?_,λp hp=>?_,I.hok.laid hkp (kB _) ⟨by simp,[],n,.nil,hD⟩,?_⟩
·have hx:(x,NameKind.free)∈scope.names:=q7C hc hx;obtain⟨c,e⟩:=I.ok.has x (.inl (hfr _ hx rfl));exact⟨c,q41 e _ _ (.inl hx)⟩
·obtain⟨o,e⟩:=ho b hb;exact kW (gX (kF e))
·exact(hf b hb).2.2.2.2.1 x c (cel x c e)
·rcases(hf b hb).2.2.2.1 with z|z
 ·exact I.ok.noex b o e z
 exact absurd (kQ (kF e) (kY I.ok.bsz z)) (g9 _)
·rcases kG.mp (I.stkSub b z)with z|z
 ·exact(hf b hb).2.1 z
 exact(hf b hb).2.2.1 z
·have hi:i<ix.length:=by
  by_cases hi:i<ix.length
  ·exact hi
  rw[rN (by simpa[pick]using hi),gW]at e2;split at e2<;>cases e2
 obtain⟨i0,q1,q2,q3,q4⟩:=qBE hcap hi e1;rw[cN (by simpa[pick]using hi)]at e2;have e2:σ[i0]?=some (some v):=by
  unfold pick at e2;rw[mG,q1]at e2;have e2:σ.getD i0 none=some v:=kH e2;rw[hG]at e2;cases z:σ[i0]? with
  |none=>rw[z]at e2;cases e2
  |some y=>rw[z]at e2;exact rD some e2
 obtain⟨mX,_,lX⟩:=I.loc;obtain⟨u,r,l⟩:=lX i0 x v q2 e2 (.inr (.inl q4));refine⟨u,r,.inr ⟨.inl (q7D I.ok.kind q4 q3),?_⟩⟩;rcases l with⟨l,_⟩|⟨_,c,e,z⟩
 ·rw[q4]at l;cases l
 obtain⟨o,e',d⟩:=z;exact⟨c,q41 e _ _ (.inl (mV q3)),o,hkp _ _ e',d⟩
·obtain⟨v,o,e',d⟩:=I.cell x c (cel x c e);exact⟨v,o,hkp _ _ e',d⟩
·show upd H s.heap.objs.size (.lst []) (s.heap.objs.size+1)=none;rw[qD (dN (rR _))];exact fresh1
·rw[qD (kW (clt x c e))];exact I.freeC x c (cel x c e)
·obtain⟨p1,p2,p3,p4,p5⟩:=I.pin p (mE _ (by simpa using hp));have lt:=kF p1;exact⟨hkp _ _ p1,by rw[qD (kW lt)];exact p2,kW (gX lt),λz=>(kG.mp (I.stkSub _ z)).elim p3 p4,p5⟩
show _=N.length
rw[kZ,mR]
simp only[pick,h8]
lia)
noncomputable def PIf(X:Cx)(ifs:List Expr)(t:TT):Prop:=∀(pins:List (Addr×Obj)) (s:Shared) (σ:St) (H:Hp) (Q:Bool→Hp→Prop),Inv X pins σ H s→t σ H Q→wpAny (model X.prog X.w) X.A (forIn ifs true λc r=>if r=true then do let ok←isTrue c X.env (eval c X.env);pure (ForInStep.yield ok)else pure (ForInStep.yield r)) (TP X pins σ Q) X.xe s
theorem q26{X:Cx}{c:Expr}{t:TT}(hc:PT X c t):PIf X [c] t:=λpins s σ H Q I h=>by(
rw[nV]
show wpAny _ _ (bind (if true=true then _ else _) _) _ _ _
rw[hU rfl]
refine hI (hI (thn (hc pins s σ H Q I h) λb s1 q=>?_))
exact kJ (kJ q))
noncomputable def tLC(wi:TI)(g:TG)(tc:TT)(te:TE)(ix:List Nat)(k:Nat):TE:=λσ H Q=>wi σ H λJ H1=>∀D H2,H1 D=none→Same H1 H2→H2 D=some (.lst [])→∃W:Nat→Nat→Hp→Prop,(∃m,W 0 m H2)∧∀i m H3,W i m H3→(J.stop i H3∧Q (.ref D) H3)∨(J.go i H3∧∃N:Hp→Prop,(∀H',N H'→∃m',m'<m∧W (i+1) m' H')∧∀x H4,J.yld i H3 x H4→g x (pick ix σ++List.replicate k none) H4 λσ5 H5=>tc σ5 H5 λb H6=>
   if b=true then te σ5 H6 (λv H7=>∃vs,H7 D=some (.lst vs)∧vs.length<sizeLine∧N (upd H7 D (.lst (vs++[v]))))else N H6)
noncomputable def Own(g:TG)(k:Nat):Prop:=∀x σ H Q,g x σ H Q→g x σ H λσ' H'=>Q σ' H'∧σ'.length=σ.length∧∀j,j<k→σ'[j]?=σ[j]?
theorem q05{i k:Nat}(h:k≤i):Own (q6X i) k:=λx σ H Q q=>⟨q,m7,λj hj=>by rw[wO (by lia)]⟩
theorem qCR{P:Program}{w:World}{A:Around}{R:Result→Shared→Prop}{s:Shared}{elt tg iter:Expr}{ifs:List Expr}{sc:Scope}{pos:Pos}{it acc:Value}{env:Env}(J:Nat→Shared→Prop)
 (turn:∀n s1,J n s1→wpAny (model P w) A (pyNext it) (λr s2=>match r with
  |none=>R (.ok .next) s2
  |some v=>wpAny (model P w) A (letOwnedTupleGo tg it v) (λ_ s3=>wpAny (model P w) A (assign tg env v) (λ_ s4=>
   wpAny (model P w) A (forIn ifs true λc r=>if r=true then do let ok←isTrue c env (eval c env);pure (ForInStep.yield ok)else pure (ForInStep.yield r)) (λok s5=>
    if ok=true then wpAny (model P w) A (eval elt env) (λx s6=>wpAny (model P w) A (call (.builtin "list.append") [acc,x]) (λ_ s7=>∃m,m<n∧J m s7) (notedBy (model P w) A env λe s'=>R (.error e) s') s6) (notedBy (model P w) A env λe s'=>R (.error e) s') s5
    else ∃m,m<n∧J m s5) (notedBy (model P w) A env λe s'=>R (.error e) s') s4) (notedBy (model P w) A env λe s'=>R (.error e) s') s3) (notedBy (model P w) A env λe s'=>R (.error e) s') s2) (notedBy (model P w) A env λe s'=>R (.error e) s') s1)
 (n:Nat) (h:J n s):codeAny (model P w) A (.compLoop (.ListComp elt [⟨tg,iter,ifs,0⟩] sc pos) 0 it acc env) R s:=by(
refine codeAny_loop rfl J (λm s1 hJ=>?_) n h
show wpAny _ A ((compTurn _ 0 it acc env).onRaise (λx=>do noteFrame x env;theTreesLotGoes x)) _ _ s1
refine wpAny_noted ?_
rw[compTurn_list]
refine hI (rX (hI (thn (turn m s1 hJ) λr s2 h2=>?_)))
cases r with
|none=>exact kJ h2
|some v=>
 refine hI (thn h2 λ_ s3 h3=>hI (thn h3 λ_ s4 h4=>hI (thn h4 λok s5 h5=>?_)));cases ok with
 |false=>exact kJ ⟨rfl,h5⟩
 |true=>exact hI (hI (thn h5 λx s6 h6=>hI (thn h6 λ_ s7 h7=>kJ (kJ ⟨rfl,h7⟩)))))
structure TurnC(ok:Cx→Prop)(P:Program)(w:World)(K:PySem.W.Frag)(tg:Expr)(J:It)(fp:List Addr)(it:Addr)(tn:Nat→Heap→Prop):Prop where
obj:∀i h,tn i h→∀b∈fp,∃o,h.get? b=some o∧∀v,o.data≠ .cell v
keep:∀i h h',tn i h→(∀b∈fp,∀o,h.get? b=some o→h'.get? b=some o)→tn i h'
item:∀(X:Cx),X.prog=P→X.w=w→X.K=K→ok X→∀(i:Nat) (pins:List (Addr×Obj)) (s:Shared) (σ:St) (H:Hp) (E:Value→Shared→Prop),Inv X pins σ H s→(∀b∈fp,FpOk X pins H b)→tn i s.heap→J.go i H→wpAny (model P w) X.A (pyNext (.ref it)) (λr s1=>∃u,r=some u∧wpAny (model P w) X.A (letOwnedTupleGo tg (.ref it) u) (λ_ s2=>∃x H',Inv X pins σ H' s2∧RelV x u∧J.yld i H x H'∧tn (i+1) s2.heap∧∀b∈fp,H' b=none) E s1) E s
done:∀(X:Cx),X.prog=P→X.w=w→X.K=K→ok X→∀(i:Nat) (pins:List (Addr×Obj)) (s:Shared) (σ:St) (H:Hp) (E:Value→Shared→Prop),Inv X pins σ H s→(∀b∈fp,FpOk X pins H b)→tn i s.heap→J.stop i H→wpAny (model P w) X.A (pyNext (.ref it)) (λr s1=>r=none∧Inv X pins σ H s1) E s
self:∀(A:Around) (i:Nat) (s:Shared) (Q:Value→Shared→Prop) (E:Value→Shared→Prop),tn i s.heap→Q (.ref it) s→wpAny (model P w) A (pyIter (.ref it)) Q E s
noncomputable def PIc(ok:Cx→Prop)(X:Cx)(tg iter:Expr)(wi:TI):Prop:=∀(pins:List (Addr×Obj)) (s:Shared) (σ:St) (H:Hp) (R:It→Hp→Prop),Inv X pins σ H s→wi σ H R→wpAny (model X.prog X.w) X.A (eval iter X.env) (λv s1=>wpAny (model X.prog X.w) X.A (pyIter v) (λitv s2=>∃(it:Addr) (fp:List Addr) (tn:Nat→Heap→Prop) (J:It) (H':Hp),itv=.ref it∧Inv X pins σ H' s2∧TurnC ok X.prog X.w X.K tg J fp it tn∧tn 0 s2.heap∧(∀b∈fp,FpOk X pins H' b)∧R J H') X.xe s1) X.xe s
theorem PI.c{X:Cx}{tg iter:Expr}{wi:TI}(h:PI X tg iter wi):PIc (λX=>X.calm=true) X tg iter wi:=λpins s σ H R I q=>thn (h pins s σ H R I q) λv s1 h1=>thn h1 λitv s2 ⟨it,fp,tn,J,H',a,b,T,r⟩=>⟨it,fp,tn,J,H',a,b,⟨T.obj,T.keep,T.item,T.done,T.self⟩,r⟩
theorem q5V{X:Cx}{elt iter tg:Expr}{ifs:List Expr}{scope:Scope}{pos cp:Pos}{wi:TI}{g:TG}{tc:TT}{te:TE}{use:Option (Value→Sem Unit)}{QQ:Value→Shared→Prop}{pins:List (Addr×Obj)}{s:Shared}{σ:St}{H:Hp}{Q:VK}(N:List Str)(ix:List Nat)(ok:Cx→Prop)(hok:∀C fp s H xe,ok (yT X N scope C fp s H xe))(hi:PIc ok X tg iter wi)
 (hg:∀C fp s H xe,PG (yT X N scope C fp s H xe) tg g) (hif:∀C fp s H xe,PIf (yT X N scope C fp s H xe) ifs tc) (he:∀C fp s H xe,PE (yT X N scope C fp s H xe) elt te)
 (hk:scope.kind=.function) (hc:∀y∈scope.names,y.2≠ .cell) (hfr:∀y∈scope.names,y.2=.free→X.env.kindOf y.1=some .cell) (hcap:q5E X.N X.env.kindOf scope.names N ix=true) (hN:ix.length≤N.length)
 (hnames:∀x∈scope.names,x.2=.local→scope.names.lookup x.1=some .local) (hown:Own g ix.length) (I:Inv X pins σ H s) (h:tLC wi g tc te ix (N.length-ix.length) σ H Q)
 (hfin:∀(C D:Addr) (H':Hp) (s':Shared) (m:Str→Option Value),s'.heap.Ns C m→FpOk X pins H' C→(∀h',Heap.SameBut C s'.heap h'→Inv X pins σ H' { s' with heap:=h' })→Q (.ref D) H'→compPost (model X.prog X.w) X.A X.xe use QQ (.ref D) C (.ok .next) s')
 (hs:∀x,foldedSetIterable iter X.env x=pure x:=by intro _;rfl):
 wpAny (model X.prog X.w) X.A (comprehension (.ListComp elt [⟨tg,iter,ifs,0⟩] scope pos) scope X.env cp (newList []) false (eval iter X.env) use) QQ X.xe s:=by(
refine wpAny_comprehension_free (use:=use) (cl:=clOf X.env scope.names []) rfl hs (q3Z λy hy hyf=>I.ok.has _ (.inl (hfr y hy hyf))) hk hnames (thn (hi pins s σ H _ I h) λv s1 h1=>thn h1 λitv s2 h2=>?_)
obtain⟨it,fp,tn,J,H2,e,I2,T,st2,f2,q2⟩:=h2
subst e
refine wH (pQ hc (by intro y hy;simp at hy) (λh₁ hns₁ hsb₁=>?_) hk)
dsimp only at hns₁ hsb₁ ⊢
rw[rM]at hns₁ hsb₁ ⊢
have old:∀b o,s2.heap.get? b=some o→h₁.get? b=some o:=λb o e=>hsb₁.extBut b o (kW (gX (kF e))) (hR _ (hR _ e))
have hacc:h₁.get? s2.heap.objs.size=some { cls:=.type "list",data:=.seq ([]:List Value).toArray }:=hsb₁.extBut _ _ (kW (rR _)) (hR _ (kU _ rfl))
have fob:∀b∈fp,∃o,s2.heap.get? b=some o:=λb hb=>let⟨o,e,_⟩:=T.obj _ _ st2 b hb;⟨o,e⟩
have fresh:H2 s2.heap.objs.size=none:=I2.hok.fresh (kB _)
obtain⟨W,⟨m0,w0⟩,turn⟩:=q2 s2.heap.objs.size (upd H2 s2.heap.objs.size (.lst [])) fresh (Same.upd fresh) qJ
have fin:∀{pY σ' H' s'},Inv (yT X N scope (s2.heap.objs.size+1) fp s2 H2 (notedBy (model X.prog X.w) X.A (compEnvC scope (clOf X.env scope.names []) (s2.heap.objs.size+1) X.env) λe s'=>compPost (model X.prog X.w) X.A X.xe use QQ (.ref s2.heap.objs.size) (s2.heap.objs.size+1) (.error e) s')) pY σ' H' s'→Q (.ref s2.heap.objs.size) H'→compPost (model X.prog X.w) X.A X.xe use QQ (.ref s2.heap.objs.size) (s2.heap.objs.size+1) (.ok .next) s':=fun {pY σ' H' s'} J q=>by
 obtain⟨m,hm,_⟩:=id J.loc;refine hfin (s2.heap.objs.size+1) s2.heap.objs.size H' s' m hm (I2.fpOk (dA _) J.free) (λh' sb=>?_) q;have eb:∀b o,b≠s2.heap.objs.size+1→s'.heap.get? b=some o→h'.get? b=some o:=λb o nb e=>sb.extBut b o nb e;have low:∀b o,s2.heap.get? b=some o→b≠s2.heap.objs.size+1:=λb o e=>kW (gX (kF e));have u:=J.base;have nC:H' (s2.heap.objs.size+1)=none:=J.free;refine I2.call' (ch:=fp) (s':={ s' with heap:=h' }) J.os ⟨λb o e n1 n2 n3=>eb b o (low b o e) (u.keep b o e n1 n2 n3),λb o e n1 n2 n3=>?_,u.free,λb o e n1=>?_,u.tups,u.frzs,u.tbls⟩ (λb o e=>?_) J.bare λb hb=>⟨(f2 b hb).2.2.2.1,(f2 b hb).2.1,(f2 b hb).2.2.2.2.1,(f2 b hb).2.2.2.2.2⟩
 ·obtain⟨sl,q1⟩:=u.slot b o e n1 n2 n3;exact⟨sl,eb b _ (low b o e) q1⟩
 ·obtain⟨o',q1⟩:=u.there b o e n1;exact⟨o',eb b _ (low b o e) q1⟩
 refine(J.hok b o e).stay (λc v hc q1=>eb c v ?_ q1) (λ_ q1=>q1) λ_ _ q1=>q1;rcases hc with rfl|z
 ·exact qF e nC
 exact qF z nC
have IY:Inv (yT X N scope (s2.heap.objs.size+1) fp s2 H2 (notedBy (model X.prog X.w) X.A (compEnvC scope (clOf X.env scope.names []) (s2.heap.objs.size+1) X.env) λe s'=>compPost (model X.prog X.w) X.A X.xe use QQ (.ref s2.heap.objs.size) (s2.heap.objs.size+1) (.error e) s')) [] (pick ix σ++List.replicate (N.length-ix.length) none) (upd H2 s2.heap.objs.size (.lst [])) { s2 with heap:=h₁,toks:=s2.toks+([]:List (Str×Value)).length }:=qCQ I2 f2 fob hk hc hfr hcap hN hns₁ old hacc
generalize hY:yT X N scope (s2.heap.objs.size+1) fp s2 H2 (notedBy (model X.prog X.w) X.A (compEnvC scope (clOf X.env scope.names []) (s2.heap.objs.size+1) X.env) λe s'=>compPost (model X.prog X.w) X.A X.xe use QQ (.ref s2.heap.objs.size) (s2.heap.objs.size+1) (.error e) s')=Y at IY fin
have hgY:PG Y tg g:=hY▸hg _ _ _ _ _
have hifY:PIf Y ifs tc:=hY▸hif _ _ _ _ _
have heY:PE Y elt te:=hY▸he _ _ _ _ _
have hP:Y.prog=X.prog:=by rw[←hY]
have hw:Y.w=X.w:=by rw[←hY]
have hK:Y.K=X.K:=by rw[←hY]
have hcl:ok Y:=hY▸hok _ _ _ _ _
have stat:∀{H':Hp},(∀b∈fp,H' b=none)→∀b∈fp,FpOk Y [] H' b:=fun {H'} hn b hb=>by
 rw[←hY];refine⟨hn b hb,?_,λz=>?_,.inl hb,λx c e=>?_,λp hp=>(f2 b hb).2.2.2.2.2 p (mE _ (by simpa using hp))⟩
 ·obtain⟨o,e⟩:=fob b hb;exact kW (gX (kF e))
 ·rcases kG.mp (I2.stkSub b z)with z|z
  ·exact(f2 b hb).2.1 z
  exact(f2 b hb).2.2.1 z
 exact(f2 b hb).2.2.2.2.1 x c (q40 _ _ (by intro q;simp at q) e)
have loop:codeAny (model X.prog X.w) X.A (.compLoop (.ListComp elt [⟨tg,iter,ifs,0⟩] scope pos) 0 (.ref it) (.ref s2.heap.objs.size) (compEnvC scope (clOf X.env scope.names []) (s2.heap.objs.size+1) X.env))
 (compPost (model X.prog X.w) X.A X.xe use QQ (.ref s2.heap.objs.size) (s2.heap.objs.size+1)) { s2 with heap:=h₁,toks:=s2.toks+([]:List (Str×Value)).length }:=by
 refine qCR (λn s'=>∃i H',Inv Y [] (pick ix σ++List.replicate (N.length-ix.length) none) H' s'∧tn i s'.heap∧(∀b∈fp,H' b=none)∧W i n H') ?_ m0
  ⟨0,_,IY,T.keep _ _ _ st2 (λb hb o e=>old b o e),λb hb=>by obtain⟨o,e⟩:=fob b hb;rw[qD (kW (kF e))];exact(f2 b hb).1,w0⟩
 rintro n s3 ⟨i,H3,I3,st3,fr3,w3⟩
 rcases turn i n H3 w3 with⟨stop,qn⟩|⟨go,NN,hNN,step⟩
 ·have d:=T.done Y hP hw hK hcl i [] s3 _ H3 Y.xe I3 (stat fr3) st3 stop;subst hY;refine thn d λr s4 hZ=>?_;obtain⟨hr,I4⟩:=hZ;subst hr;exact fin I4 qn
 have d:=T.item Y hP hw hK hcl i [] s3 _ H3 Y.xe I3 (stat fr3) st3 go;have again:∀{p5:List (Addr×Obj)} {s5 s8:Shared} {σ6:St} {H8:Hp},p5=q3M fp s5.heap→tn (i+1) s5.heap→σ6.length=(pick ix σ++List.replicate (N.length-ix.length) none).length→(∀j,j<ix.length→σ6[j]?=(pick ix σ++List.replicate (N.length-ix.length) none)[j]?)→Inv Y ([]++p5) σ6 H8 s8→NN H8→∃m',m'<n∧∃i H',Inv Y [] (pick ix σ++List.replicate (N.length-ix.length) none) H' s8∧tn i s8.heap∧(∀b∈fp,H' b=none)∧W i m' H':=fun {p5 s5 s8 σ6 H8} e5 st5 l6 k6 I8 q8=>by
  subst e5;obtain⟨m',hm,w8⟩:=hNN _ q8;refine⟨m',hm,i+1,H8,I8.unpinned.weak l6.symm (λj v e=>?_),T.keep _ _ _ st5 λb hb o e=>(I8.pin (b,o) (kP _ (kP _ (uE hb e)))).1,λb hb=>?_,w8⟩
  ·by_cases hj:j<ix.length
   ·rw[k6 j hj];exact e
   rw[rN (by simpa[pick]using hj),gW]at e;split at e<;>cases e
  obtain⟨o,e,_⟩:=T.obj _ _ st5 b hb;exact(I8.pin (b,o) (kP _ (kP _ (uE hb e)))).2.1
 have tail:∀(r:Option Value) (s4:Shared),(∃u,r=some u∧wpAny (model Y.prog Y.w) Y.A (letOwnedTupleGo tg (.ref it) u) (λ_ s2=>∃x H',Inv Y [] (pick ix σ++List.replicate (N.length-ix.length) none) H' s2∧RelV x u∧J.yld i H3 x H'∧tn (i+1) s2.heap∧∀b∈fp,H' b=none) Y.xe s4)→(match r with
  |none=>compPost (model X.prog X.w) X.A X.xe use QQ (.ref s2.heap.objs.size) (s2.heap.objs.size+1) (.ok .next) s4
  |some v=>wpAny (model Y.prog Y.w) Y.A (letOwnedTupleGo tg (.ref it) v) (λ_ s₁=>wpAny (model Y.prog Y.w) Y.A (assign tg Y.env v) (λ_ s₂=>
   wpAny (model Y.prog Y.w) Y.A (forIn ifs true λc r=>if r=true then do let ok←isTrue c Y.env (eval c Y.env);pure (ForInStep.yield ok)else pure (ForInStep.yield r)) (λok s₃=>
    if ok=true then wpAny (model Y.prog Y.w) Y.A (eval elt Y.env) (λx s₄=>wpAny (model Y.prog Y.w) Y.A (call (.builtin "list.append") [.ref s2.heap.objs.size,x]) (λ_ s₅=>∃m,m<n∧∃i H',Inv Y [] (pick ix σ++List.replicate (N.length-ix.length) none) H' s₅∧tn i s₅.heap∧(∀b∈fp,H' b=none)∧W i m H') Y.xe s₄) Y.xe s₃
    else ∃m,m<n∧∃i H',Inv Y [] (pick ix σ++List.replicate (N.length-ix.length) none) H' s₃∧tn i s₃.heap∧(∀b∈fp,H' b=none)∧W i m H') Y.xe s₂) Y.xe s₁) Y.xe s4):=by
  rintro r s4 ⟨u,rfl,h4⟩
  dsimp only;refine thn h4 λ_ s5 hZ=>?_;obtain⟨x,H5,I5,r5,y5,st5,fr5⟩:=hZ;have I5':=I5.pinned (stat fr5) (T.obj _ _ st5);refine thn (hgY _ s5 _ H5 x u _ I5' r5 (hown _ _ _ _ (step x H5 y5))) λ_ s6 hZ=>?_;obtain⟨σ6,H6,I6,q6,l6,k6⟩:=hZ;refine thn (hifY _ s6 σ6 H6 _ I6 q6) λb s7 hZ=>?_;obtain⟨H7,I7,q7⟩:=hZ;cases b with
  |false=>rw[hV (by decide)]at q7 ⊢;exact again rfl st5 l6 k6 I7 q7
  |true=>rw[hU rfl]at q7 ⊢;refine thn (heY _ s7 σ6 H7 _ I7 q7) λy s8 hZ=>?_;obtain⟨v,H8,I8,r8,vs,e8,hz,q8⟩:=hZ;refine thn (v6 (X:=Y) _ s8 σ6 H8 (.ref s2.heap.objs.size) [v] (.ref s2.heap.objs.size) [y] (λ_ H9=>NN H9) I8 rfl (.cons r8 .nil) ⟨s2.heap.objs.size,vs,v,rfl,rfl,e8,hz,q8⟩) λ_ s9 hZ=>?_;obtain⟨_,H9,I9,_,q9⟩:=hZ;exact again rfl st5 l6 k6 I9 q9
 subst hY;exact thn d tail
exact codeAny_compStart_list loop (T.self X.A 0 _ _ _ (T.keep _ _ _ st2 λb hb o e=>old b o e) loop))
theorem qGG{X:Cx}{elt iter tg:Expr}{ifs:List Expr}{scope:Scope}{pos:Pos}{wi:TI}{g:TG}{tc:TT}{te:TE}(N:List Str)(ix:List Nat)(hcalm:X.calm=true)(hi:PI X tg iter wi)
 (hg:∀C fp s H xe,PG (yT X N scope C fp s H xe) tg g) (hif:∀C fp s H xe,PIf (yT X N scope C fp s H xe) ifs tc) (he:∀C fp s H xe,PE (yT X N scope C fp s H xe) elt te)
 (hk:scope.kind=.function) (hc:∀y∈scope.names,y.2≠ .cell) (hfr:∀y∈scope.names,y.2=.free→X.env.kindOf y.1=some .cell) (hcap:q5E X.N X.env.kindOf scope.names N ix=true) (hN:ix.length≤N.length)
 (hnames:∀x∈scope.names,x.2=.local→scope.names.lookup x.1=some .local) (hown:Own g ix.length) (hs:∀x,foldedSetIterable iter X.env x=pure x:=by intro _;rfl):
 PE X (.ListComp elt [⟨tg,iter,ifs,0⟩] scope pos) (tLC wi g tc te ix (N.length-ix.length)):=by intro pins s σ H Q I h;rw[eval_ListComp];exact q5V N ix _ (λ_ _ _ _ _=>hcalm) hi.c hg hif he hk hc hfr hcap hN hnames hown I h (λC D H' s' m hm fok inv q=>⟨m,hm,λh' sb=>⟨.ref D,H',inv h' sb,rfl,q⟩⟩) hs
noncomputable def q5F(XN:List Str)(kd:Str→Option NameKind)(sc:Scope)(N:List Str)(ix:List Nat):Bool:=decide (sc.kind=.function)&&sc.names.all (λy=>decide (y.2≠ .cell)&&(decide (y.2≠ .free)||decide (kd y.1=some .cell))&&(decide (y.2≠ .local)||decide (sc.names.lookup y.1=some .local)))&&q5E XN kd sc.names N ix&&decide (ix.length≤N.length)
theorem q5W{X:Cx}{elt iter tg:Expr}{ifs:List Expr}{scope:Scope}{pos:Pos}{wi:TI}{g:TG}{tc:TT}{te:TE}(N:List Str)(ix:List Nat)(hcalm:X.calm=true)(hi:PI X tg iter wi)
 (hg:∀C fp s H xe,PG (yT X N scope C fp s H xe) tg g) (hif:∀C fp s H xe,PIf (yT X N scope C fp s H xe) ifs tc) (he:∀C fp s H xe,PE (yT X N scope C fp s H xe) elt te)
 (ok:q5F X.N X.env.kindOf scope N ix=true) (hown:Own g ix.length) (hs:∀x,foldedSetIterable iter X.env x=pure x:=by intro _;rfl):
 PE X (.ListComp elt [⟨tg,iter,ifs,0⟩] scope pos) (tLC wi g tc te ix (N.length-ix.length)):=by(
unfold q5F at ok
rw[kO,kO,kO,dE]at ok
obtain⟨⟨⟨h1,h2⟩,h3⟩,h4⟩:=ok
have h2':∀y∈scope.names,y.2≠ .cell∧(y.2≠ .free∨X.env.kindOf y.1=some .cell)∧(y.2≠ .local∨scope.names.lookup y.1=some .local):=λy hy=>by have q:=h2 y hy;rw[kO,kO,gL,gL,kI,kI,kI,kI,kI]at q;exact⟨q.1.1,q.1.2,q.2⟩
exact qGG N ix hcalm hi hg hif he (mK h1) (λy hy=>(h2' y hy).1) (λy hy e=>(h2' y hy).2.1.resolve_left (λz=>z e)) h3 (mK h4) (λy hy e=>(h2' y hy).2.2.resolve_left (λz=>z e)) hown hs)
theorem qBF{lo:Int}{n:Nat}{D:Addr}{H2:Hp}{g:TG}{tc:TT}{te:TE}{σ0:St}{Q:VK}(Pv:Nat→Hp→Prop)(h0:Pv 0 H2)
 (hs:∀(i:Nat) H,i<n→Pv i H→g (.int (lo+i)) σ0 H λσ5 H5=>tc σ5 H5 λb H6=>if b=true then te σ5 H6 (λv H7=>∃vs,H7 D=some (.lst vs)∧vs.length<sizeLine∧Pv (i+1) (upd H7 D (.lst (vs++[v]))))else Pv (i+1) H6) (hd:∀H,Pv n H→Q (.ref D) H):
 ∃W:Nat→Nat→Hp→Prop,(∃m,W 0 m H2)∧∀i m H3,W i m H3→((Itr lo n).stop i H3∧Q (.ref D) H3)∨((Itr lo n).go i H3∧∃N:Hp→Prop,(∀H',N H'→∃m',m'<m∧W (i+1) m' H')∧∀x H4,(Itr lo n).yld i H3 x H4→g x σ0 H4 λσ5 H5=>tc σ5 H5 λb H6=>
   if b=true then te σ5 H6 (λv H7=>∃vs,H7 D=some (.lst vs)∧vs.length<sizeLine∧N (upd H7 D (.lst (vs++[v]))))else N H6):=by(
refine⟨λi m H=>m=n-i∧i≤n∧Pv i H,⟨n,by simp,mO _,h0⟩,?_⟩
rintro i m H ⟨rfl,hi,p⟩
by_cases hlt:i<n
·refine .inr ⟨hlt,Pv (i+1),λH' z=>⟨n-(i+1),by lia,rfl,by lia,z⟩,?_⟩;rintro x H4 ⟨rfl,rfl⟩
 exact hs i _ hlt p
obtain rfl:i=n:=by lia
exact .inl ⟨kB _,hd _ p⟩)
theorem qCS{K:PySem.W.Frag}{a:Addr}{xs:List V}{D:Addr}{H2:Hp}{g:TG}{tc:TT}{te:TE}{σ0:St}{Q:VK}(Pv:Nat→Hp→Prop)(h0:Pv 0 H2)(hl:∀i H,Pv i H→SqL K H a xs)
 (hs:∀(i:Nat) x H,xs[i]?=some x→Pv i H→g x σ0 H λσ5 H5=>tc σ5 H5 λb H6=>if b=true then te σ5 H6 (λv H7=>∃vs,H7 D=some (.lst vs)∧vs.length<sizeLine∧Pv (i+1) (upd H7 D (.lst (vs++[v]))))else Pv (i+1) H6) (hd:∀H,Pv xs.length H→Q (.ref D) H):
 ∃W:Nat→Nat→Hp→Prop,(∃m,W 0 m H2)∧∀i m H3,W i m H3→((Itl K a).stop i H3∧Q (.ref D) H3)∨((Itl K a).go i H3∧∃N:Hp→Prop,(∀H',N H'→∃m',m'<m∧W (i+1) m' H')∧∀x H4,(Itl K a).yld i H3 x H4→g x σ0 H4 λσ5 H5=>tc σ5 H5 λb H6=>
   if b=true then te σ5 H6 (λv H7=>∃vs,H7 D=some (.lst vs)∧vs.length<sizeLine∧N (upd H7 D (.lst (vs++[v]))))else N H6):=by(
refine⟨λi m H=>m=xs.length-i∧i≤xs.length∧Pv i H,⟨xs.length,by simp,mO _,h0⟩,?_⟩
rintro i m H ⟨rfl,hi,p⟩
have hq:=hl i H p
by_cases hlt:i<xs.length
·have e1:xs[i]?=some xs[i]:=kE hlt;refine .inr ⟨⟨xs,_,hq,e1⟩,Pv (i+1),λH' z=>⟨xs.length-(i+1),by lia,rfl,by lia,z⟩,?_⟩;rintro x H4 ⟨rfl,hx⟩
 exact hs i x _ (hx xs hq) p
obtain rfl:i=xs.length:=by lia
exact .inl ⟨⟨xs,hq,kB _⟩,hd _ p⟩)
noncomputable def rEmp(K:PySem.W.Frag):R2:=λx y H Q=>∃p xs e,x=.ref p∧y=.ref e∧SqL K H p xs∧SqL K H e []∧Q (.bl (decide (xs=[]))) H
theorem q8B{X:Cx}(hu:X.A.units+64<cLine):OpR X (compareOp .Eq) (rEmp X.K):=by(
intro pins s σ H x y v u Q I rx ry hZ
obtain⟨p,xs,e,ex,ey,hp,he,q⟩:=hZ
subst ex ey
cases rx
cases ry
obtain⟨i1,r1,p1,_⟩:=I.list hp
obtain⟨i2,r2,p2,_⟩:=I.list he
have l1:=r1.length
have l2:=r2.length
cases xs with
|nil=>exact nU (e:=λ_=>true) p1.isList p2.isList (by simp at l1 l2 ⊢;lia) (by lia) (λj h1 h2=>by simp at l1 h1;lia) ⟨.bl true,H,I,by rw[zI];rfl,q⟩
|cons z zs=>exact SeqAt.eq_list_lengthsAt p1.isList p2.isList (by simp at l1 l2 ⊢;lia) (by lia) ⟨.bl false,H,I,rfl,q⟩)
section
variable{X:Cx}{o e f:Expr}{apos cpos:Pos}{td ty tx:TE}
theorem qDR{P:Program}{w:World}{k:Key}{u:Value}(h:(jP P w).is k u=true):RelV (kV k) u:=by(
cases k with
|inl i=>exact sP h
|inr x=>exact pS h)
theorem q5G{α β:Type}{F:α→β→Prop}:∀{l₁:List α} {l₂:List β},l₁.length=l₂.length→(∀(j:Nat) a b,l₁[j]?=some a→l₂[j]?=some b→F a b)→Paired F l₁ l₂
| [],[],_,_=>.nil
|a::l,b::l',h,k=>.cons (k 0 a b rfl rfl) (q5G (by simpa using h) λj x y hx hy=>k (j+1) x y (by simpa using hx) (by simpa using hy))
| [],_::_,h,_=>by simp at h
|_::_,[],h,_=>by simp at h
end
theorem q3F:∀{ns:List Int} {vs:List Value},Vals (ns.map V.int) vs→IntsAre vs ns
| [],_,.nil=>.nil
|n::ns,_,.cons h t=>by obtain⟨t0,rfl⟩:=h;exact .cons n t0 (q3F t)
section
variable{X:Cx}
theorem zM:∀{vs:List Value} {ns:List Int},IntsAre vs ns→Vals (ns.map V.int) vs
|_,_,.nil=>.nil
|_,_,.cons n t h=>.cons ⟨t,rfl⟩ (zM h)
theorem q5X:q1Y X (.builtin "sorted") (λxs H Q=>∃(p:Addr) (ns:List Int),xs=[.ref p]∧SqL X.K H p (ns.map V.int)∧ns.length<64∧∀ns':List Int,ns'.Perm ns→ns'.Pairwise (·≤·)→NewO H (.lst (ns'.map V.int)) Q):=by(
intro pins s σ H xs us Q I r hZ
obtain⟨p,ns,ex,hq,h64,q⟩:=hZ
subst ex
obtain⟨u,rfl,rx⟩:=q3O r
cases rx
obtain⟨its,rv,pl,hz⟩:=I.list hq
have hi:=q3F rv
have hlen:its.length<64:=by rw[←rv.length,h8];exact h64
refine sorted_ints pl.isList hi hlen λout ns' a1 a2 a3=>?_
obtain⟨e,he⟩:=sortedAll_at s.heap its out
have hz':(ns'.map V.int).length≤sizeLine:=by rw[h8,a2.length_eq,mT];lia
exact⟨.ref (s.heap.objs.size+1),_,I.laid (t':=s.toks) (λ_ _ h=>sortedAll_old h) (dA _) (show jF X.prog X.w _ _ _ (.lst _)from⟨hz',out.toList,e,zM a1,by simpa[seqObj]using he⟩),rfl,(q ns' a2 a3).at _ (I.hok.fresh (dA _))⟩)
end
structure Mk0(K:PySem.W.Frag)(C:Addr):Prop where
makes:PySem.W.makesIn K C=true
init:PySem.W.findIn K (.ref C) "__init__"=some (some (.builtin "object.__init__"))
kp:PySem.W.keepIn K (.ref C)=true
section
variable{X:Cx}{C:Addr}{x:Str}{p pos:Pos}
noncomputable def tMk0(C:Addr):TE:=λσ H Q=>∀x dx,H x=none→H dx=none→dx≠x→Q (.ref x) (upd (upd H dx (.own x)) x (.ins C dx []))
theorem qBG{pins:List (Addr×Obj)}{σ:St}{H:Hp}{s:Shared}{Q:VK}(M:Mk0 X.K C)(I:Inv X pins σ H s)(h:tMk0 C σ H Q):wpAny (model X.prog X.w) X.A (call (.ref C) []) (EP X pins σ Q) X.xe s:=by(
have hq:=h (s.heap.objs.size+1) s.heap.objs.size (I.hok.fresh (dA _)) (I.hok.fresh (kB _)) (kW (rR _))
have I2:=Inv.made (C:=C) I
have kin:=I.kIn
obtain⟨hp,g,d,t,os⟩:=s
have Y:=nJ (M:=model X.prog X.w) kin M.makes
have hx:((hp.push PySem.W.emptyDict).push (PySem.W.instObj C hp.objs.size)).get? (hp.objs.size+1)=some (PySem.W.instObj C hp.objs.size):=by have:=kU (hp.push PySem.W.emptyDict) (o:=PySem.W.instObj C hp.objs.size) rfl;rwa [rM]at this
have ty:PySem.W.Looks (model X.prog X.w) ((hp.push PySem.W.emptyDict).push (PySem.W.instObj C hp.objs.size)) (typeOf (.ref (hp.objs.size+1))) (.ref C):=(nM hx).andThen .now
have top:PySem.W.Looks (model X.prog X.w) ((hp.push PySem.W.emptyDict).push (PySem.W.instObj C hp.objs.size)) (isInstance (.ref (hp.objs.size+1)) (.type "object")) true:=ty.andThen (Y.top.keeps λb o e=>hR _ (hR _ e))
refine dQ (sS Y (dO kin M.init) (λself=>lO (PySem.W.oi_bind self)) (.inr ⟨rfl,rfl⟩) ?_)
refine rP PySem.W.oi_plain PySem.W.entry_oi (@cK (model X.prog X.w) _ _ _ "object.__init__" "object" "__init__" (.ref (hp.objs.size+1)) [] [] _ PySem.W.oi_kind PySem.W.oi_split top (PySem.W.oi_args (.ref (hp.objs.size+1))) ?_)
rw[PySem.W.oi_run]
exact kJ ⟨rfl,⟨.ref (hp.objs.size+1),_,I2,rfl,hq⟩⟩)
theorem qF4(M:Mk0 X.K C)(hg:Gl X x)(hm:X.mg x=some (.ref C))(hdb:(x==("__debug__":Str))=false:=by decide):PE X (.Call (.Name x p) [] [] pos) (tMk0 C):=by intro pins s σ H Q I h;exact gM (vK I hg hm (wW I.kIn M.kp (qBG M I h)) hdb)
end
section
variable{X:Cx}{pins:List (Addr×Obj)}{σ:St}{H:Hp}{s:Shared}{a:Addr}
theorem Inv.freeze{kvs:List (Key×V)}{o:Obj}(I:Inv X pins σ H s)(e:H a=some (.dK kvs))(ho:s.heap.get? a=some o):Inv X pins σ (upd H a (.frz o (.dK kvs))) s:=by(
have ne:∀b u,H b=some u→u≠ .dK kvs→b≠a:=λb u q n z=>by rw[z,e]at q;exact n (kH q).symm
have nn:∀b,H b=none→b≠a:=λb q z=>by rw[z,e]at q;cases q
refine⟨I.ok,I.os,I.bare,I.base.trans ⟨λb u q _ _ _=>q,λb u q _ _ _=>⟨u.slots,q⟩,λb u q n _=>by rw[qD (nn b n)];exact n,λb u q _=>⟨u,q⟩,λb xs q=>by rw[qD (ne b _ q (by intro z;cases z))];exact q,λb u v q=>by rw[qD (ne b _ q (by intro z;cases z))];exact q,λb ps q=>⟨#[],by rw[qD (ne b _ q (by intro z;cases z)),q];simp⟩⟩,I.loc,I.cell,by rw[qD (nn _ I.free)];exact I.free,λx c q=>by rw[qD (nn _ (I.freeC x c q))];exact I.freeC x c q,λp hp=>?_,λb u q=>?_,I.len⟩
·obtain⟨q1,q2,q3⟩:=I.pin p hp;exact⟨q1,by rw[qD (nn _ q2)];exact q2,q3⟩
have st:∀b u,jF X.prog X.w H s.heap b u→jF X.prog X.w (upd H a (.frz o (.dK kvs))) s.heap b u:=λb u q=>q.stay (λ_ _ _ z=>z) (λc z=>by rw[qD (ne c _ z (by intro z;cases z))];exact z) (λc xs z=>by rw[qD (ne c _ z (by intro z;cases z))];exact z)
by_cases hb:b=a
·subst hb;rw[qJ]at q;cases q;exact⟨ho,st b _ (I.hok b _ e)⟩
rw[qD hb]at q
exact st b u (I.hok b u q))
theorem Inv.thaw{o:Obj}{u:HO}(I:Inv X pins σ H s)(hne:∀o u,X.H₀ a≠some (.frz o u))(e:H a=some (.frz o u)):Inv X pins σ (upd H a u) s:=by(
have ne:∀b v,H b=some v→v≠ .frz o u→b≠a:=λb v q n z=>by rw[z,e]at q;exact n (kH q).symm
have nn:∀b,H b=none→b≠a:=λb q z=>by rw[z,e]at q;cases q
have nf:∀b v,X.H₀ b=some v→(∃o' u',v=.frz o' u')→b≠a:=λb v q ⟨o',u',z⟩ w=>by rw[w,z]at q;exact hne o' u' q
refine⟨I.ok,I.os,I.bare,⟨I.base.keep,I.base.slot,λb v q n hx=>?_,I.base.there,λb xs q=>?_,λb v w q=>?_,λb ps q=>?_⟩,I.loc,I.cell,by rw[qD (nn _ I.free)];exact I.free,λx c q=>by rw[qD (nn _ (I.freeC x c q))];exact I.freeC x c q,λp hp=>?_,λb v q=>?_,I.len⟩
·have:=I.base.free b v q n hx;rw[qD (nn b this)];exact this
·have:=I.base.tups b xs q;rw[qD (ne b _ this (by intro z;cases z))];exact this
·rw[qD (nf b _ q ⟨_,_,rfl⟩)];exact I.base.frzs b v w q
·obtain⟨more,q2⟩:=I.base.tbls b ps q;exact⟨more,by rw[qD (ne b _ q2 (by intro z;cases z))];exact q2⟩
·obtain⟨q1,q2,q3⟩:=I.pin p hp;exact⟨q1,by rw[qD (nn _ q2)];exact q2,q3⟩
have st:∀b v,jF X.prog X.w H s.heap b v→jF X.prog X.w (upd H a u) s.heap b v:=λb v q=>q.stay (λ_ _ _ z=>z) (λc z=>by rw[qD (ne c _ z (by intro z;cases z))];exact z) (λc xs z=>by rw[qD (ne c _ z (by intro z;cases z))];exact z)
by_cases hb:b=a
·subst hb;rw[qJ]at q;cases q;exact st b _ (I.hok b _ e).2
rw[qD hb]at q
exact st b v (I.hok b v q))
end
noncomputable def Itd(a:Addr)(o:Obj)(kvs:List (Key×V)):It:=⟨λi H=>H a=some (.frz o (.dK kvs))∧i<kvs.length,λi H x H'=>H'=H∧∃kv,kvs[i]?=some kv∧x=kV kv.1,λi H=>H a=some (.frz o (.dK kvs))∧kvs.length≤i⟩
theorem qA0{P:Program}{w:World}{K:PySem.W.Frag}{tg:Expr}(a it:Addr)(o:Obj){kvs:List (Key×V)}{vs:List (Key×Value)}{ep:Nat}(rel:KV kvs vs)(hD:∀h:Heap,h.get? a=some o→h.DictAt (jP P w) a vs ep):
 Turn P w K tg (Itd a o kvs) [it] it (λi h=>h.IsKeyIter it a i vs.length ep) where
mem:=by simp
obj:=λi h st b hb=>by
 have e:b=it:=by simpa using hb
 subst e;obtain⟨o',e,c,d⟩:=st;exact⟨o',e,λv z=>by rw[d]at z;cases z⟩
keep:=λi h h' st k=>st.at λo e=>k it (by simp) o e
item:=by
 intro X hP hw hK hc i pins s σ H E I hf st hg;subst hP hw hK;obtain⟨ha,hi⟩:=hg;obtain⟨ho,_⟩:=I.hok a _ ha;have hl:=rel.length;have hi':i<vs.length:=by lia
 obtain⟨f0,f1,f2,f3,f4,f5⟩:=hf it (by simp);refine wpAny_pyNext_dict_item (k:=vs[i].1) (v:=vs[i].2) st (hD _ ho) (kE hi') λkey h' hk st' sb=>?_;have I1:Inv X pins σ H { s with heap:=h' }:=I.turned (t':=s.toks) (λb o hb e=>(sb.2 b hb).trans e) f0 f1 f3 f4 f5;obtain⟨o',e',c',d'⟩:=id st';refine⟨key,rfl,q8U (s:={ s with heap:=h' }) e' c' d' (by decide) ⟨kV kvs[i].1,H,I1,?_,⟨rfl,kvs[i],kE hi,rfl⟩,st',λb hb=>(hf b hb).1⟩⟩;have ek:=rD (λl=>l[i]?) rel.keys;simp only[mG,kE hi,kE hi',r6]at ek;rw[kH ek];exact qDR hk
done:=by intro X hP hw hK hc i pins s σ H E I hf st hg;subst hP hw hK;obtain⟨ha,hi⟩:=hg;obtain⟨ho,_⟩:=I.hok a _ ha;have hl:=rel.length;obtain⟨f0,f1,f2,f3,f4,f5⟩:=hf it (by simp);exact wpAny_pyNext_dict_end (I.ok.hd hc) st (hD _ ho) (wK (by lia)) λh' eb=>⟨rfl,I.turned (t':=s.toks) (λb o hb e=>eb b o hb e) f0 f1 f3 f4 f5⟩
self:=λ_ _ _ _ _ st h=>wpAny_pyIter_keyiter st h
section
variable{X:Cx}{tg:Expr}
noncomputable def iDct(td:TE):TI:=λσ H R=>td σ H λx H1=>∃a kvs,x=.ref a∧H1 a=some (.dK kvs)∧∀o,R (Itd a o kvs) (upd H1 a (.frz o (.dK kvs)))
theorem qCT{d:Expr}{td:TE}(hd:PE X d td):PI X tg d (iDct td):=by(
intro pins s σ H R I h
refine thn (hd pins s σ H _ I h) λv s1 hZ=>?_
obtain⟨x,H1,I1,r1,q1⟩:=hZ
obtain⟨a,kvs,e,ha,q⟩:=q1
subst e
cases r1
obtain⟨z,lo,vs,rel,dd⟩:=q73 I1.hok ha
obtain⟨ep,hat⟩:=dd.dictAt
obtain⟨o,es,ho,hr⟩:=id hat
have I2:=I1.freeze ha ho
refine wpAny_pyIter_dict lo hat ?_
refine⟨s1.heap.objs.size,[s1.heap.objs.size],_,_,_,rfl,I2.kept (t':=s1.toks) λb o e=>hR _ e,qA0 a _ o rel (λh' h=>⟨o,es,h,hr⟩),⟨_,kU _ rfl,rfl,rfl⟩,λb hb=>?_,q o⟩
have e:b=s1.heap.objs.size:=by simpa using hb
subst e
exact I2.fpOk (kB _) (I2.hok.fresh (kB _)))
theorem qF5{pins:List (Addr×Obj)}{σ:St}{H:Hp}{s:Shared}{a:Addr}{kvs:List (Key×V)}(I:Inv X pins σ H s)(e:H a=some (.dK kvs)):∀o u,X.H₀ a≠some (.frz o u):=λo u q=>by have:=I.base.frzs a o u q;rw[e]at this;cases this
noncomputable def qGH(t:TE):TE:=λσ H Q=>∃a kvs,H a=some (.dK kvs)∧t σ H λv H'=>∃o u,H' a=some (.frz o u)∧Q v (upd H' a u)
theorem qCU{e:Expr}{t:TE}(h:PE X e t):PE X e (qGH t):=by(
intro pins s σ H Q I hZ
obtain⟨a,kvs,ha,q⟩:=hZ
have nf:=qF5 I ha
refine thn (h pins s σ H _ I q) λu s' ⟨v,H',I',r,o,w,e,q⟩=>⟨v,_,I'.thaw nf e,r,q⟩)
theorem qCV{a:Addr}{o:Obj}{kvs:List (Key×V)}{D:Addr}{H2:Hp}{g:TG}{tc:TT}{te:TE}{σ0:St}{Q:VK}(Pv:Nat→Hp→Prop)(h0:Pv 0 H2)(hl:∀i H,Pv i H→H a=some (.frz o (.dK kvs)))
 (hs:∀(i:Nat) kv H,kvs[i]?=some kv→Pv i H→g (kV kv.1) σ0 H λσ5 H5=>tc σ5 H5 λb H6=>if b=true then te σ5 H6 (λv H7=>∃vs,H7 D=some (.lst vs)∧vs.length<sizeLine∧Pv (i+1) (upd H7 D (.lst (vs++[v]))))else Pv (i+1) H6) (hd:∀H,Pv kvs.length H→Q (.ref D) H):
 ∃W:Nat→Nat→Hp→Prop,(∃m,W 0 m H2)∧∀i m H3,W i m H3→((Itd a o kvs).stop i H3∧Q (.ref D) H3)∨((Itd a o kvs).go i H3∧∃N:Hp→Prop,(∀H',N H'→∃m',m'<m∧W (i+1) m' H')∧∀x H4,(Itd a o kvs).yld i H3 x H4→g x σ0 H4 λσ5 H5=>tc σ5 H5 λb H6=>
   if b=true then te σ5 H6 (λv H7=>∃vs,H7 D=some (.lst vs)∧vs.length<sizeLine∧N (upd H7 D (.lst (vs++[v]))))else N H6):=by(
refine⟨λi m H=>m=kvs.length-i∧i≤kvs.length∧Pv i H,⟨kvs.length,by simp,mO _,h0⟩,?_⟩
rintro i m H ⟨rfl,hi,p⟩
have q:=hl i H p
by_cases hlt:i<kvs.length
·refine .inr ⟨⟨q,hlt⟩,Pv (i+1),λH' z=>⟨kvs.length-(i+1),by lia,rfl,by lia,z⟩,?_⟩;rintro v H' ⟨rfl,kv,hk,rfl⟩
 exact hs i kv _ hk p
obtain rfl:i=kvs.length:=by lia
exact .inl ⟨⟨q,kB _⟩,hd _ p⟩)
end
end L2
namespace W1
open PySem L2
theorem q5Y{H:Hp}{x dx C:Addr}(nx:H x=none)(nd:H dx=none):Same H (upd (upd H dx (.own x)) x (.ins C dx [])):=λb o e=>by rw[qD (qF e nx),qD (qF e nd)];exact e
end W1
namespace L2
open PySem PySem.Spec PyProof.Rows
theorem qBH{X:Cx}{K:PySem.W.Frag}(e:X.K=K):IxR X (rIxL K):=by subst e;exact jS
theorem q8C{X:Cx}{K:PySem.W.Frag}(e:X.K=K):OpR X (compareOp .In) (rIn K false):=by subst e;exact q9N
theorem q4G{X:Cx}{K:PySem.W.Frag}(e:X.K=K):OpR X (compareOp .NotIn) (rIn K true):=by subst e;exact zL
theorem qBI{X:Cx}{elt iter tg:Expr}{ifs:List Expr}{scope:Scope}{pos py spos:Pos}{wi:TI}{g:TG}{tc:TT}{te:TE}{i:Nat}{y:Str}(N:List Str)(ix:List Nat)(hcalm:X.calm=true)(hi:PI X tg iter wi)
 (hg:∀C fp s H xe,PG (yT X N scope C fp s H xe) tg g) (hif:∀C fp s H xe,PIf (yT X N scope C fp s H xe) ifs tc) (he:∀C fp s H xe,PE (yT X N scope C fp s H xe) elt te)
 (ok:q5F X.N X.env.kindOf scope N ix=true) (hown:Own g ix.length) (hN:X.N.Nodup) (hy:X.N[i]?=some y) (hl:Loc X.env.scope y)
 (hsw:swapsWith (.ListComp elt [⟨tg,iter,ifs,0⟩] scope pos) (some (.Name y py)) spos.line X.env=pure true:=by rfl) (hf:X.fn y=true∨X.env.scope.names.lookup y=some .local:=by first|exact .inl rfl|exact .inr rfl|assumption)
 (hs:∀x,foldedSetIterable iter X.env x=pure x:=by intro _;rfl):
 PS X (.Assign [.Name y py] (.ListComp elt [⟨tg,iter,ifs,0⟩] scope pos) spos) (tAsg (tLC wi g tc te ix (N.length-ix.length)) (q6X i)):=by(
unfold q5F at ok
rw[kO,kO,kO,dE]at ok
obtain⟨⟨⟨h1,h2⟩,h3⟩,h4⟩:=ok
have h2':∀y∈scope.names,y.2≠ .cell∧(y.2≠ .free∨X.env.kindOf y.1=some .cell)∧(y.2≠ .local∨scope.names.lookup y.1=some .local):=λy hy=>by have q:=h2 y hy;rw[kO,kO,gL,gL,kI,kI,kI,kI,kI]at q;exact⟨q.1.1,q.1.2,q.2⟩
intro pins s σ H D I h
rw[exec_Assign_Name_used _ _ _ _ hsw]
refine hI (rX (hI ?_))
show wpAny _ X.A (do let _←comprehension (.ListComp elt [⟨tg,iter,ifs,0⟩] scope pos) scope X.env _ (newList []) false (eval iter X.env) (some (assign (.Name y py) X.env))) _ _ s
refine hI (gB (q5V (use:=some (assign (.Name y py) X.env)) (QQ:=λ_ s'=>∃σ' H',Inv X pins σ' H' s'∧D.nx σ' H') N ix _ (λ_ _ _ _ _=>hcalm) hi.c hg hif he (mK h1) (λy hy=>(h2' y hy).1) (λy hy e=>(h2' y hy).2.1.resolve_left (λz=>z e)) h3 (mK h4) (λy hy e=>(h2' y hy).2.2.resolve_left (λz=>z e)) hown I h
 (λC Dl H' s' m hm fp inv q=>?_) hs) (λ_ s' hq=>kJ (kJ hq)) λ_ _ e=>e)
have I':Inv X pins σ H' s':=inv s'.heap (Heap.SameBut.refl _ _)
show wpAny _ _ (assign (.Name y py) X.env (.ref Dl)) _ _ _
refine sQ (q4X (v:=.ref Dl) I' hN hy hl rfl (λs'' I'' hZ=>?_) hf)
obtain⟨a,sb,ha⟩:=hZ
have aC:C≠a:=λz=>by
 rcases ha with ha|ha
 ·exact fp.2.1 (z.trans ha)
 exact fp.2.2.2.2.1 _ _ ha z.symm
refine⟨m,hm.sameBut sb aC,λh' sb'=>⟨_,H',I''.turnedN (t':=s''.toks) (fp:=[C]) (λb o hb e=>sb'.extBut b o (λz=>hb (kN.mpr z)) e) (λb hb=>by rw[kN.mp hb];exact fp),q⟩⟩)
theorem q42{K:PySem.W.Frag}{a:Addr}{xs:List V}{D:Addr}{H2:Hp}{g:TG}{tc:TT}{te:TE}{σ0:St}{R:Hp→Prop}(Pv:Nat→Hp→Prop)(h0:Pv 0 H2)(hl:∀i H,Pv i H→SqL K H a xs)
 (hs:∀(i:Nat) x H,xs[i]?=some x→Pv i H→g x σ0 H λσ5 H5=>tc σ5 H5 λb H6=>if b=true then te σ5 H6 (λv H7=>∃vs,H7 D=some (.lst vs)∧vs.length<sizeLine∧Pv (i+1) (upd H7 D (.lst (vs++[v]))))else Pv (i+1) H6) (hd:∀H,Pv xs.length H→R H):
 ∃W:Nat→Nat→Hp→Prop,(∃m,W 0 m H2)∧∀i m H3,W i m H3→((Itl K a).stop i H3∧R H3)∨((Itl K a).go i H3∧∃N:Hp→Prop,(∀H',N H'→∃m',m'<m∧W (i+1) m' H')∧∀x H4,(Itl K a).yld i H3 x H4→g x σ0 H4 λσ5 H5=>tc σ5 H5 λb H6=>if b=true then te σ5 H6 (λv H7=>∃vs,H7 D=some (.lst vs)∧vs.length<sizeLine∧N (upd H7 D (.lst (vs++[v]))))else N H6):=qCS (Q:=λ_ H=>R H) Pv h0 hl hs hd
end L2
namespace L2
open PySem PySem.W PyProof.Rows
noncomputable def hT{α:Type}(c:Nat→Nat→Bool)(n:Nat):KasT α→(α→Prop)→Prop
| .ret a,Q=>Q a
| .ask i j k,Q=>i<n∧j<n∧hT c n (k (c i j)) Q
theorem yG{α:Type}{c:Nat→Nat→Bool}{n:Nat}{Q Q':α→Prop}(h:∀a,Q a→Q' a):∀t:KasT α,hT c n t Q→hT c n t Q'
| .ret a,q=>h a q
| .ask i j k,q=>⟨q.1,q.2.1,yG h (k (c i j)) q.2.2⟩
theorem q0X{α β:Type}{c:Nat→Nat→Bool}{n:Nat}{f:α→KasT β}{Q:β→Prop}:∀t:KasT α,hT c n t (λa=>hT c n (f a) Q)→hT c n (t.bind f) Q
| .ret a,q=>q
| .ask i j k,q=>⟨q.1,q.2.1,q0X (k (c i j)) q.2.2⟩
theorem qDS{α:Type}{c:Nat→Nat→Bool}{n:Nat}{cmp:Nat→Nat→(Bool→Shared→Prop)→Shared→Prop}{G:α→Shared→Prop}{s:Shared}(hc:∀i j C,i<n→j<n→C (c i j) s→cmp i j C s):
 ∀t:KasT α,hT c n t (λa=>G a s)→t.kasWp cmp G s
| .ret a,q=>q
| .ask i j k,q=>hc i j _ q.1 q.2.1 (qDS hc (k (c i j)) q.2.2)
section
variable{r:Nat→Int}{n:Nat}
noncomputable abbrev rc(r:Nat→Int):Nat→Nat→Bool:=λi j=>decide (r i<r j)
noncomputable abbrev kk(r:Nat→Int)(p:Array Nat)(i:Nat):Int:=r (p.getD i 0)
noncomputable def Srt(r:Nat→Int)(p:Array Nat)(m:Nat):Prop:=∀i j,i≤j→j<m→kk r p i≤kk r p j
noncomputable def Dec(r:Nat→Int)(p:Array Nat)(m:Nat):Prop:=∀i j,i≤j→j<m→kk r p j≤kk r p i
noncomputable def Gp(n:Nat)(p:Array Nat):Prop:=p.Perm (List.range n).toArray
theorem Gp.size{p:Array Nat}(g:Gp n p):p.size=n:=by have:=g.size_eq;simpa using this
theorem Gp.lt{p:Array Nat}(g:Gp n p){i:Nat}(h:i<n):p.getD i 0<n:=by(
have hi:i<p.size:=by rw[g.size];exact h
have e:p.getD i 0=p[i]:=by simp[Array.getD,hi]
have:p[i]∈(List.range n).toArray:=g.mem_iff.mp (Array.getElem_mem hi)
rw[e]
simpa using this)
theorem Srt.more{p:Array Nat}{m:Nat}(h:Srt r p m)(e:kk r p (m-1)≤kk r p m):Srt r p (m+1):=λi j hij hj=>by(
by_cases z:j<m
·exact h i j hij z
have ej:j=m:=by lia
subst ej
by_cases z2:i=j
·subst z2;exact d9 _
exact nE (h i (j-1) (by lia) (by lia)) e)
theorem Dec.more{p:Array Nat}{m:Nat}(h:Dec r p m)(e:kk r p m≤kk r p (m-1)):Dec r p (m+1):=λi j hij hj=>by(
by_cases z:j<m
·exact h i j hij z
have ej:j=m:=by lia
subst ej
by_cases z2:i=j
·subst z2;exact d9 _
exact nE e (h i (j-1) (by lia) (by lia)))
theorem q27{p q:Array Nat}{i j:Nat}(h:p[i]?=q[j]?):p.getD i 0=q.getD j 0:=by rw[cA,cA,h]
theorem q8D{p:Array Nat}{i j:Nat}(hj:j≤p.size)(k:Nat):(kas_rev p i j).getD k 0=if i≤k∧k<j then p.getD (i+j-1-k) 0 else p.getD k 0:=by(
unfold kas_rev
by_cases h:i≤k∧k<j
·rw[hU h];exact q27 (by rw[pW hj,hU h])
rw[hV h]
exact q27 (by rw[pW hj,hV h]))
theorem Gp.rev{p:Array Nat}(g:Gp n p)(i j:Nat):Gp n (kas_rev p i j):=(mirror_perm _ _ _ _).trans g
theorem q8E{p:Array Nat}(g:Gp n p):∀(f m:Nat),1≤m→m+f≤n→Srt r p m→hT (rc r) n (kas_asc p f m) (λe=>m≤e∧e≤m+f∧Srt r p e∧(e<m+f→kk r p e<kk r p (e-1)))
|0,m,h1,hz,h=>⟨kB _,kB _,h,λz=>absurd z (g9 _)⟩
|f+1,m,h1,hz,h=>by
 refine⟨g.lt (by lia),g.lt (by lia),?_⟩;by_cases e:r (p.getD m 0)<r (p.getD (m-1) 0)
 ·rw[show rc r (p.getD m 0) (p.getD (m-1) 0)=true from hW e];dsimp only;rw[hU rfl];exact⟨kB _,by lia,h,λ_=>e⟩
 rw[show rc r (p.getD m 0) (p.getD (m-1) 0)=false from hZ e];dsimp only;rw[hV kC];refine yG ?_ _ (q8E g f (m+1) (by lia) (by lia) (h.more (by show r _≤r _;lia)));rintro a ⟨a1,a2,a3,a4⟩
 exact⟨by lia,by lia,a3,λz=>a4 (by lia)⟩
noncomputable def Eql(r:Nat→Int)(p:Array Nat)(a b:Nat):Prop:=∀k,a≤k→k<b→kk r p k=kk r p (b-1)
theorem q5Z{p:Array Nat}{i j:Nat}(hj:j≤p.size)(h:Eql r p i j)(k:Nat):kk r (kas_rev p i j) k=kk r p k:=by(
show r _=r _
rw[q8D hj]
by_cases z:i≤k∧k<j
·rw[hU z];exact(h _ (by lia) (by lia)).trans (h k z.1 z.2).symm
rw[hV z])
theorem q3G:∀(f:Nat) (p:Array Nat) (m q:Nat),Gp n p→q+1≤m→m+f≤n→Dec r p m→Eql r p (m-(q+1)) m→hT (rc r) n (kas_desc f p m q) (λz=>Gp n z.1∧m≤z.2.1∧z.2.1≤m+f∧Dec r z.1 z.2.1∧z.2.2+1≤z.2.1∧Eql r z.1 (z.2.1-(z.2.2+1)) z.2.1)
|0,p,m,q,g,hq,hz,d,e=>⟨g,kB _,kB _,d,hq,e⟩
|f+1,p,m,q,g,hq,hz,d,e=>by
 have hs:=g.size;refine⟨g.lt (by lia),g.lt (by lia),?_⟩;by_cases c:r (p.getD m 0)<r (p.getD (m-1) 0)
 ·rw[show rc r (p.getD m 0) (p.getD (m-1) 0)=true from hW c];dsimp only;rw[hU rfl];by_cases q0:q>0
  ·rw[hU q0];have kq:=q5Z (r:=r) (p:=p) (i:=m-(q+1)) (j:=m) (by lia) e;have d1:Dec r (kas_rev p (m-(q+1)) m) (m+1):=λi j hij hj=>by rw[kq,kq];exact d.more (cB c) i j hij hj
   refine yG ?_ _ (q3G f _ (m+1) 0 (g.rev _ _) (by lia) (by lia) d1 λk h1 h2=>by rw[show k=m by lia];rfl);rintro a ⟨a1,a2,a3,a4⟩
   exact⟨a1,by lia,by lia,a4⟩
  rw[hV q0];refine yG ?_ _ (q3G f p (m+1) 0 g (by lia) (by lia) (d.more (cB c)) λk h1 h2=>by rw[show k=m by lia];rfl);rintro a ⟨a1,a2,a3,a4⟩
  exact⟨a1,by lia,by lia,a4⟩
 rw[show rc r (p.getD m 0) (p.getD (m-1) 0)=false from hZ c];dsimp only;rw[hV kC];refine⟨g.lt (by lia),g.lt (by lia),?_⟩;by_cases c2:r (p.getD (m-1) 0)<r (p.getD m 0)
 ·rw[show rc r (p.getD (m-1) 0) (p.getD m 0)=true from hW c2];dsimp only;rw[hU rfl];exact⟨g,kB _,Nat.le_add_right _ _,d,hq,e⟩
 rw[show rc r (p.getD (m-1) 0) (p.getD m 0)=false from hZ c2];dsimp only;rw[hV kC];have ee:r (p.getD m 0)=r (p.getD (m-1) 0):=by lia
 refine yG ?_ _ (q3G f p (m+1) (q+1) g (by lia) (by lia) (d.more (Int.le_of_eq ee)) λk h1 h2=>?_)
 ·rintro a ⟨a1,a2,a3,a4⟩
  exact⟨a1,by lia,by lia,a4⟩
 show r (p.getD k 0)=r (p.getD m 0);by_cases z:k=m
 ·rw[z]
 rw[ee];exact e k (by lia) (by lia)
theorem q95{p:Array Nat}{m:Nat}(g:Gp n p)(h1:1≤m)(hm:m≤n)(d:Dec r p m):hT (rc r) n (kas_tail3 m n p) (λz=>Gp n z.2∧1≤z.1∧z.1≤n∧Srt r z.2 z.1):=by(
have hs:=g.size
have sr:Srt r (kas_rev p 0 m) m:=λi j hij hj=>by show r _≤r _;rw[q8D (by lia),q8D (by lia),hU ⟨mO _,by lia⟩,hU ⟨mO _,hj⟩];exact d _ _ (by lia) (by lia)
refine q0X _ (yG ?_ _ (q8E (g.rev 0 m) (n-m) m h1 (by lia) sr))
rintro a ⟨a1,a2,a3,_⟩
exact⟨g.rev _ _,by lia,by lia,a3⟩)
theorem q96{p:Array Nat}{m:Nat}(g:Gp n p)(hm:m+1≤n)(d:Dec r p (m+1)):hT (rc r) n (kas_descPart m n p) (λz=>Gp n z.2∧1≤z.1∧z.1≤n∧Srt r z.2 z.1):=by(
refine q0X _ (yG ?_ _ (q3G (n-(m+1)) p (m+1) 0 g (by lia) (by lia) d λk h1 h2=>by rw[show k=m by lia];rfl))
rintro⟨p',m',q'⟩ ⟨a1,a2,a3,a4,a5,a6⟩
dsimp only at a1 a2 a3 a4 a5 a6 ⊢
have hs:=a1.size
by_cases q0:q'>0
·rw[hU q0];have kq:=q5Z (r:=r) (p:=p') (i:=m'-(q'+1)) (j:=m') (by lia) a6;exact q95 (a1.rev _ _) (by lia) (by lia) λi j hij hj=>by rw[kq,kq];exact a4 i j hij hj
rw[hV q0]
exact q95 a1 (by lia) (by lia) a4)
theorem qBJ{p:Array Nat}(g:Gp n p)(h1:1≤n):hT (rc r) n (kas_count n p) (λz=>Gp n z.2∧1≤z.1∧z.1≤n∧Srt r z.2 z.1):=by(
have hs:=g.size
have s1:Srt r p 1:=λi j hij hj=>by rw[show i=j by lia];exact d9 _
refine q0X _ (yG ?_ _ (q8E g (n-1) 1 (kB _) (by lia) s1))
rintro m ⟨a1,a2,a3,a4⟩
try dsimp only
by_cases e:m=n
·rw[hU (by rw[mF];exact e)];exact⟨g,a1,by lia,a3⟩
rw[hV (by rw[mF];exact e)]
have lt:=a4 (by lia)
by_cases m1:m>1
·rw[hU m1];refine⟨g.lt (by lia),g.lt (by lia),?_⟩;by_cases c:r (p.getD 0 0)<r (p.getD (m-1) 0)
 ·rw[show rc r (p.getD 0 0) (p.getD (m-1) 0)=true from hW c];dsimp only;rw[hU rfl];exact⟨g,a1,by lia,a3⟩
 rw[show rc r (p.getD 0 0) (p.getD (m-1) 0)=false from hZ c];dsimp only;rw[hV kC];have eq:Eql r p 0 m:=λk _ hk=>by have z1:=a3 0 k (mO _) hk;have z2:=a3 k (m-1) (by lia) (by lia);show r _=r _;have z1:r (p.getD 0 0)≤r (p.getD k 0):=z1;have z2:r (p.getD k 0)≤r (p.getD (m-1) 0):=z2;lia
 have kq:=q5Z (r:=r) (p:=p) (i:=0) (j:=m) (by lia) eq;refine q96 (g.rev _ _) (by lia) λi j hij hj=>?_;rw[kq,kq];refine Dec.more (m:=m) (λi j hij hj=>?_) (cB lt) i j hij hj;rw[eq i (mO _) (by lia),eq j (mO _) hj];exact d9 _
rw[hV m1]
have:m=1:=by lia
subst this
refine q96 g (by lia) (Dec.more (λi j hij hj=>?_) (cB lt))
rw[show i=j by lia]
exact d9 _)
theorem q43{p:Array Nat}(g:Gp n p){k:Nat}(hk:k<n)(sr:Srt r p k):∀(f l u:Nat),u-l≤f→l≤u→u≤k→(∀i,i<l→kk r p i≤kk r p k)→(∀i,u≤i→i<k→kk r p k<kk r p i)→hT (rc r) n (kas_place p k f l u) (λm=>m≤k∧(∀i,i<m→kk r p i≤kk r p k)∧∀i,m≤i→i<k→kk r p k<kk r p i)
|0,l,u,hf,hl,hu,a,b=>⟨by lia,a,λi h1 h2=>b i (by lia) h2⟩
|f+1,l,u,hf,hl,hu,a,b=>by
 unfold kas_place;by_cases e:l≥u
 ·rw[hU e];exact⟨by lia,a,λi h1 h2=>b i (by lia) h2⟩
 rw[hV e];refine⟨g.lt hk,g.lt (by lia),?_⟩;by_cases c:r (p.getD k 0)<r (p.getD ((l+u) / 2) 0)
 ·rw[show rc r (p.getD k 0) (p.getD ((l+u) / 2) 0)=true from hW c];dsimp only;rw[hU rfl];refine q43 g hk sr f l ((l+u) / 2) (by lia) (by lia) (by lia) a λi h1 h2=>?_;exact Int.lt_of_lt_of_le c (sr _ _ h1 h2)
 rw[show rc r (p.getD k 0) (p.getD ((l+u) / 2) 0)=false from hZ c];dsimp only;rw[hV kC];refine q43 g hk sr f ((l+u) / 2+1) u (by lia) (by lia) hu (λi h1=>?_) b;exact nE (sr i ((l+u) / 2) (by lia) (by lia)) (by show r _≤r _;lia)
theorem qF6{p:Array Nat}{k l:Nat}(hk:k<p.size)(hl:l≤k)(i:Nat):(bubble p k (k-l)).getD i 0=if i=l then p.getD k 0 else if l<i∧i≤k then p.getD (i-1) 0 else p.getD i 0:=by(
have e:=getElem?_bubble hk (k-l) (by lia) i
rw[show k-(k-l)=l by lia]at e
by_cases h1:i=l
·rw[hU h1]at e ⊢;exact q27 e
rw[hV h1]at e ⊢
by_cases h2:l<i∧i≤k
·rw[hU h2]at e ⊢;exact q27 e
rw[hV h2]at e ⊢
exact q27 e)
theorem qBK:∀(f:Nat) (p:Array Nat) (k:Nat),Gp n p→k+f≤n→Srt r p k→hT (rc r) n (kas_bin f p k) (λq=>Gp n q∧Srt r q (k+f))
|0,p,k,g,hz,sr=>⟨g,sr⟩
|f+1,p,k,g,hz,sr=>by
 have hs:=g.size;refine q0X _ (yG ?_ _ (q43 g (show k<n by lia) sr k 0 k (by lia) (mO _) (kB _) (λi h=>absurd h (Nat.not_lt_zero _)) λi h1 h2=>absurd h2 (by lia)));rintro l ⟨a1,a2,a3⟩
 have at':=qF6 (p:=p) (k:=k) (l:=l) (by lia) a1;refine yG ?_ _ (qBK f _ (k+1) ((bubble_perm _ _ _).trans g) (by lia) λi j hij hj=>?_)
 ·rintro q ⟨b1,b2⟩
  exact⟨b1,by rw[show k+(f+1)=k+1+f by lia];exact b2⟩
 show r _≤r _;rw[at',at'];by_cases i1:i=l
 ·rw[hU i1];by_cases j1:j=l
  ·rw[hU j1];exact d9 _
  rw[hV j1,hU ⟨by lia,by lia⟩];exact cB (a3 (j-1) (by lia) (by lia))
 rw[hV i1];by_cases i2:l<i∧i≤k
 ·rw[hU i2,hV (by lia),hU ⟨by lia,by lia⟩];exact sr _ _ (by lia) (by lia)
 rw[hV i2];by_cases j1:j=l
 ·rw[hU j1];exact a2 i (by lia)
 rw[hV j1];by_cases j2:l<j∧j≤k
 ·rw[hU j2];exact sr _ _ (by lia) (by lia)
 rw[hV j2];exact sr _ _ hij (by lia)
theorem qCW(h1:1≤n):hT (rc r) n (kas_sort n) (λp=>Gp n p∧Srt r p n):=by(
refine q0X _ (yG ?_ _ (qBJ (p:=(List.range n).toArray) (Array.Perm.refl _) h1))
rintro⟨m,p⟩ ⟨a1,a2,a3,a4⟩
dsimp only at a1 a2 a3 a4 ⊢
by_cases e:m<n
·rw[hU e];refine yG ?_ _ (qBK (n-max m 1) p (max m 1) a1 (by lia) (by rw[Nat.max_eq_left a2];exact a4));rintro q ⟨b1,b2⟩
 exact⟨b1,by rw[show max m 1+(n-max m 1)=n by lia]at b2;exact b2⟩
rw[hV e]
have:m=n:=by lia
subst this
exact⟨a1,a4⟩)
end
end L2
namespace L2
open PySem PySem.W PySem.Spec PyProof.Rows
section
variable{prog:Program}{w:World}{A:Around}{E:Value→Shared→Prop}{s:Shared}
structure RkAt(prog:Program)(w:World)(A:Around)(vs:List Value)(κ:SortKind)(r:Nat→Int)(s:Shared):Prop where
kind:∀(Q:SortKind→Shared→Prop) (E:Value→Shared→Prop),Q κ s→wpAny (model prog w) A (keyKind' vs.toArray) Q E s
lt:∀i j (C:Bool→Shared→Prop),i<vs.length→j<vs.length→C (decide (r i<r j)) s→wpAny (model prog w) A (keyLt' κ (vs.getD i Value.none) (vs.getD j Value.none)) C (λ_ _=>False) s
end
noncomputable def lx:List Int→List Int→Bool
|a::r,b::s=>if a=b then lx r s else decide (a<b)
| [],_::_=>true
|_,[]=>false
theorem q8F:∀a:List Int,lx a a=false
| []=>rfl
|a::r=>by show(if a=a then lx r r else decide (a<a))=false;rw[hU rfl];exact q8F r
theorem q06:∀a b c:List Int,lx a b=true→lx b c=true→lx a c=true
| [],[],c,h,_=>by cases h
| [],_::_,[],_,h=>by cases h
| [],_::_,_::_,_,_=>rfl
|_::_,[],c,h,_=>by cases h
|_::_,_::_,[],_,h=>by cases h
|a::r,b::s,c::t,h,g=>by
 have h:(if a=b then lx r s else decide (a<b))=true:=h;have g:(if b=c then lx s t else decide (b<c))=true:=g;show(if a=c then lx r t else decide (a<c))=true;by_cases e1:a=b
 ·subst e1;rw[hU rfl]at h;by_cases e2:a=c
  ·subst e2;rw[hU rfl]at g ⊢;exact q06 r s t h g
  rw[hV e2]at g ⊢;exact g
 rw[hV e1,kI]at h;by_cases e2:b=c
 ·subst e2;rw[hV e1];exact hW h
 rw[hV e2,kI]at g;rw[hV (by lia)];exact hW (by lia)
theorem q8G:∀a b:List Int,lx a b=false→lx b a=false→a=b
| [],[],_,_=>rfl
| [],_::_,h,_=>by cases h
|_::_,[],_,h=>by cases h
|a::r,b::s,h,g=>by
 have h:(if a=b then lx r s else decide (a<b))=false:=h;have g:(if b=a then lx s r else decide (b<a))=false:=g;by_cases e:a=b
 ·subst e;rw[hU rfl]at h g;rw[q8G r s h g]
 rw[hV e,gC]at h;rw[hV (λz=>e z.symm),gC]at g;lia
theorem q7E{α:Type}{p q:α→Bool}:∀{l:List α} {x:α},(∀y∈l,p y=true→q y=true)→x∈l→q x=true→p x=false→l.countP p<l.countP q
|a::l,x,h,hx,h1,h2=>by
 have ml:l.countP p≤l.countP q:=pK λy hy=>h y (h9 _ hy);rw[nN,nN];rcases kG.mp hx with e|hx
 ·subst e;rw[h1,h2,hV kC,hU rfl];lia
 have ih:=q7E (λy hy=>h y (h9 _ hy)) hx h1 h2;have ha:=h a (kM ..);cases pa:p a with
 |false=>rw[hV kC];lia
 |true=>rw[ha pa];lia
noncomputable def rkOf(ks:List (List Int))(k:List Int):Int:=((ks.countP λy=>lx y k:Nat):Int)
theorem qBL{ks:List (List Int)}{k k':List Int}(h:k∈ks)(h':k'∈ks):rkOf ks k<rkOf ks k'↔lx k k'=true:=by(
constructor
·intro lt;cases e:lx k k' with
 |true=>rfl
 |false=>
  have:ks.countP (λy=>lx y k')≤ks.countP (λy=>lx y k):=pK λy _ hy=>by
   cases g:lx k' k with
   |true=>exact q06 _ _ _ hy g
   |false=>rw[q8G k k' e g];exact hy
  unfold rkOf at lt;lia
intro e
have:=q7E (p:=λy=>lx y k) (q:=λy=>lx y k') (l:=ks) (x:=k) (λy _ hy=>q06 _ _ _ hy e) h e (q8F k)
unfold rkOf
lia)
section
variable{prog:Program}{w:World}{A:Around}{E:Value→Shared→Prop}{s:Shared}
theorem qCX{b:Bool}{x y:Int}{t u:Tok}{Q:Bool→Shared→Prop}(h:Q (decide (x<y)) s):wpAny (model prog w) A (oneLt' b (.int x t) (.int y u)) Q E s:=by(
cases b with
|true=>have z:=kat_lt_int (prog:=prog) (w:=w) (A:=A) (E:=E) (t:=t) (u:=u) h;rw[keyLt'_oneType]at z;exact z
|false=>refine kat_one _ _ ?_;exact lt_int h)
theorem q7F{b:Bool}{Q:Bool→Shared→Prop}:∀{ns ms:List Int} {us vs:List Value} (i:Nat),IntsAre us ns→IntsAre vs ms→ns.length=ms.length→Q (lx ns ms) s→KatLex prog w A b false Q (us.zip vs) i s
| [],[],_,_,i,.nil,.nil,_,h=>h
|n::ns,m::ms,_,_,i,.cons _ t hn,.cons _ u hm,hl,h=>by
 refine kat_cons (wpAny_eqBool_int ?_);have h:Q (if n=m then lx ns ms else decide (n<m)) s:=h;by_cases e:n=m
 ·rw[hU e]at h;rw[show(n==m)=true by rw[mF];exact e];exact kat_yes (q7F (i+1) hn hm (by simpa using hl) h)
 rw[hV e]at h;rw[show(n==m)=false by rw[g0];exact e];exact kat_no (qCX h)
| [],_::_,_,_,_,_,_,hl,_=>by simp at hl
|_::_,[],_,_,_,_,_,hl,_=>by simp at hl
noncomputable def IsTI(h:Heap)(v:Value)(k:List Int):Prop:=∃a us,v=.ref a∧h.IsTuple a us.toArray∧IntsAre us k
theorem q97{h:Heap}:∀{vs:List Value} {ks:List (List Int)},Paired (IsTI h) vs ks→(∀k∈ks,0<k.length)→∃fs,KatTups h vs fs∧fs.length=ks.length∧∀v∈fs,∃i t,v=.int i t
| [],[],.nil,_=>⟨[],trivial,rfl,λv hv=>by cases hv⟩
|v::vs,k::ks,.cons x t,hp=>by
 obtain⟨fs,r,hl,hi⟩:=q97 t λk hk=>hp k (h9 _ hk);obtain⟨a,us,rfl,⟨o,ho,hc,n,hd⟩,iu⟩:=x;have h0:=hp k (kM ..);cases iu with
 |nil=>simp at h0
 |cons i t0 hr=>
  refine⟨.int i t0::fs,KatTups.cons ho hc hd (by simp) r,by simp[hl],λv hv=>?_⟩;rcases kG.mp hv with rfl|hv
  ·exact⟨i,t0,rfl⟩
  exact hi v hv
theorem qCY{vs:List Value}{ks:List (List Int)}{m:Nat}(h:Paired (IsTI s.heap) vs ks)(hw:∀k∈ks,k.length=m)(hm:0<m)(h2:2≤vs.length):RkAt prog w A vs (tuples' true) (λi=>rkOf ks (ks.getD i [])) s:=by(
have hl:=h.len
constructor
·intro Q E' q;obtain⟨fs,t,e,hi⟩:=q97 h λk hk=>by rw[hw k hk];exact hm
 exact kat_kind (T:=Value.type "int") t (by lia) (λv hv=>by obtain⟨i,t0,rfl⟩:=hi v hv;exact .now) rfl q
intro i j C hi hj c
have e1:vs[i]?=some (vs.getD i Value.none):=by rw[kE hi];simp[hi]
have e2:vs[j]?=some (vs.getD j Value.none):=by rw[kE hj];simp[hj]
obtain⟨k1,g1,a1,us1,q1,⟨o1,ho1,_,n1,d1⟩,i1⟩:=Paired.at h e1
obtain⟨k2,g2,a2,us2,q2,⟨o2,ho2,_,n2,d2⟩,i2⟩:=Paired.at h e2
have m1:k1∈ks:=mY g1
have m2:k2∈ks:=mY g2
have z1:ks.getD i []=k1:=by rw[hG,g1];rfl
have z2:ks.getD j []=k2:=by rw[hG,g2];rfl
have ll:k1.length=k2.length:=by rw[hw _ m1,hw _ m2]
have c:C (lx k1 k2) s:=by
 have y:decide (rkOf ks (ks.getD i [])<rkOf ks (ks.getD j []))=lx k1 k2:=by rw[z1,z2,rZ,kI];exact qBL m1 m2
 rw[←y];exact c
rw[q1,q2]
refine kat_lt ho1 d1 ho2 d2 ?_
have f:decide (us1.toArray.size<us2.toArray.size)=false:=by rw[kL,kL,i1.length,i2.length,ll];exact hZ (g9 _)
rw[f]
exact q7F 0 i1 i2 ll c)
end
section
variable{X:Cx}
noncomputable def TupI(K:PySem.W.Frag)(H:Hp)(v:V)(k:List Int):Prop:=∃a,v=.ref a∧SqT K H a (k.map V.int)
theorem q98{pins:List (Addr×Obj)}{σ:St}{H:Hp}{s:Shared}(I:Inv X pins σ H s):∀{xs:List V} {us:List Value} {ks:List (List Int)},Vals xs us→Paired (TupI X.K H) xs ks→Paired (IsTI s.heap) us ks
| [],_,_,.nil,.nil=>.nil
|x::xs,u::us,_,.cons r t,.cons ⟨a,e,h⟩ y=>by subst e;obtain rfl:u=Value.ref a:=r;obtain⟨its,rv,p,_⟩:=I.tuple h;exact .cons ⟨a,its,rfl,p,q3F rv⟩ (q98 I t y)
theorem q5H{xs:List V}{us:List Value}(r:Vals xs us):∀{q:List Nat},(∀i∈q,i<xs.length)→Vals (q.map λi=>xs.getD i .non) (q.map λi=>us.getD i Value.none)
| [],_=>.nil
|i::q,h=>by have hi:=h i (kM ..);have hl:=r.length;refine .cons ?_ (q5H r λj hj=>h j (h9 _ hj));obtain⟨x,e,z⟩:=r.atN (j:=i) (by lia);show RelV (xs.getD i .non) (us.getD i Value.none);rw[hG,e,hG,kE (by lia)];exact z
end
section
variable{X:Cx}{pins:List (Addr×Obj)}{σ:St}{H:Hp}{s:Shared}
theorem Inv.adopt{D:Addr}{o:HO}(I:Inv X pins σ H s)(f:FpOk X pins H D)(hD:X.s₀.heap.objs.size≤D)(ok:jF X.prog X.w (upd H D o) s.heap D o):Inv X pins σ (upd H D o) s:=by(
have low:∀b ob,X.s₀.heap.get? b=some ob→b≠D:=λb ob e=>kW (kQ (kF e) hD)
have trk:∀b u,H b=some u→b≠D:=λb u e=>qF e f.1
refine⟨I.ok,I.os,I.bare,⟨I.base.keep,I.base.slot,λb ob e n x=>?_,I.base.there,λb xs e=>?_,λb ob u e=>?_,λb ps e=>?_⟩,I.loc,I.cell,?_,λx c e=>?_,λp hp=>?_,λb u e=>?_,I.len⟩
·rw[qD (low b ob e)];exact I.base.free b ob e n x
·have z:=I.base.tups b xs e;rw[qD (trk _ _ z)];exact z
·have z:=I.base.frzs b ob u e;rw[qD (trk _ _ z)];exact z
·obtain⟨m,z⟩:=I.base.tbls b ps e;exact⟨m,by rw[qD (trk _ _ z)];exact z⟩
·rw[qD (λz=>f.2.1 z.symm)];exact I.free
·rw[qD (f.2.2.2.2.1 x c e)];exact I.freeC x c e
·obtain⟨a1,a2,a3⟩:=I.pin p hp;exact⟨a1,by rw[qD (f.2.2.2.2.2 p hp)];exact a2,a3⟩
by_cases hb:b=D
·subst hb;rw[qJ]at e;cases e;exact ok
rw[qD hb]at e
exact(I.hok b u e).stay (λ_ _ _ q=>q) (λc q=>by rw[qD (trk _ _ q)];exact q) λc xs q=>by rw[qD (trk _ _ q)];exact q)
theorem Inv.near(I:Inv X pins σ H s){A':Around}(h1:A'.handled=X.A.handled)(h2:A'.frames=X.A.frames)(xe:Value→Shared→Prop):Inv { X with A:=A',xe:=xe } pins σ H s:=⟨{ mod:=I.ok.mod,kind:=I.ok.kind,glob:=I.ok.glob,blt:=I.ok.blt,above:=I.ok.above,inj:=I.ok.inj,has:=I.ok.has,cab:=I.ok.cab,hd:=λc=>h1.trans (I.ok.hd c),frames:=h2.trans I.ok.frames,stk:=I.ok.stk,exf:=I.ok.exf,bs:=I.ok.bs,bsz:=I.ok.bsz,noex:=I.ok.noex,exfs:=I.ok.exfs,funs:=I.ok.funs,frf:=I.ok.frf },I.os,I.bare,I.base,I.loc,I.cell,I.free,I.freeC,I.pin,I.hok,I.len⟩
theorem q7G{P:PySem.Fin→Shared→Prop}{EE:Value→Shared→Prop}{A:Around}{a kS:Addr}{st:SortSt}{e1 e:Nat}{ks:List Value}{out:List Value}{us:List V}(I:Inv X pins σ H s)(fa:FpOk X pins H a)(fk:FpOk X pins H kS)(ha:X.s₀.heap.objs.size≤a)(ne:kS≠a)
 (ga:s.heap.get? a=some (seqObj "list" #[] e1)) (gk:s.heap.get? kS=some (seqObj "list" ks.toArray e)) (hk:ks.length<64) (hout:(arrOf st).map (·.2)=out.toArray) (ho:out.length<64) (hf:failedOf st=none) (rv:Vals us out)
 (h:∀s',Inv X pins σ (upd H a (.lst us)) s'→P (.done (.ret .none)) s'):wpAny (model X.prog X.w) A (ksk_tail a false e1 (.ref kS) st) P EE s:=by(
unfold ksk_tail
try dsimp only
rw[hout]
refine hI (cU gk rfl ?_ (by rw[kL,mT];lia) (mO _))
refine hI (wpAny_letGo ?_)
have ga':(s.heap.update kS (Obj.mapSeq λ_=>(#[]:Array Value))).get? a=some (seqObj "list" #[] e1):=(mB _ _ ne).trans ga
refine hI (seqEpoch_at ga' rfl ?_)
refine hI (cU ga' rfl ?_ (mO _) (by rw[hV kC,kL,mT];lia))
rw[hf]
simp only[bne_self_eq_false,Bool.false_eq_true,if_false]
refine kJ (h _ ?_)
obtain⟨c2,g2⟩:∃c2,((s.heap.update kS (Obj.mapSeq λ_=>(#[]:Array Value))).update a (Obj.mapSeq λ_=>out.toArray)).get? a=some (seqObj "list" out.toArray c2):=⟨_,pE ga' λ_=>out.toArray⟩
have I2:Inv X pins σ H { s with heap:=(s.heap.update kS (Obj.mapSeq λ_=>(#[]:Array Value))).update a (Obj.mapSeq λ_=>out.toArray),toks:=s.toks }:=I.turnedN (fp:=[kS,a]) (λb o hb eb=>by
  simp only[kG,mC,gS,not_or]at hb;exact(mB _ _ (rG hb.2)).trans ((mB _ _ (rG hb.1)).trans eb)) (λb hb=>by
  simp only[kG,mC,gS]at hb;rcases hb with rfl|rfl
  ·exact fk
  exact fa)
exact I2.adopt fa ha (show jF X.prog X.w _ _ _ (.lst us)from⟨by rw[rv.length,mT];lia,out,c2,rv,g2⟩))
theorem qCZ{P:PySem.Fin→Shared→Prop}{EE:Value→Shared→Prop}{A:Around}{a kS:Addr}{e1 e:Nat}{ks vs:List Value}{us zs:List V}{kk:List (List Int)}{m:Nat}(I:Inv X pins σ H s)(fa:FpOk X pins H a)(fk:FpOk X pins H kS)(ha:X.s₀.heap.objs.size≤a)(ne:kS≠a)
 (ga:s.heap.get? a=some (seqObj "list" #[] e1)) (gk:s.heap.get? kS=some (seqObj "list" ks.toArray e)) (rz:Vals zs ks) (rv:Vals us vs) (hl:zs.length=us.length) (h64:us.length<64) (hti:Paired (TupI X.K H) zs kk) (hw:∀k∈kk,k.length=m) (hm:0<m)
 (h:∀q:List Nat,q.Perm (List.range us.length)→(q.map λi=>kk.getD i []).Pairwise (λa b=>lx b a=false)→∀s',Inv X pins σ (upd H a (.lst (q.map λi=>us.getD i .non))) s'→P (.done (.ret .none)) s'):
 wpAny (model X.prog X.w) A (ksk_end a false vs.toArray e1 (.ref kS) ks.toArray) P EE s:=by(
have l1:=rz.length
have l2:=rv.length
have l3:=hti.len
have hlk:ks.length=vs.length:=by lia
unfold ksk_end
try dsimp only
rw[hV kC]
by_cases h2:vs.toArray.size<2
·rw[hU h2,hU h2];refine hI (kJ ?_);rw[StateT.run_pure];refine hI (kJ ?_);try dsimp only
 have hn2:vs.length<2:=by rw[kL]at h2;exact h2
 refine q7G (out:=vs) (us:=us) I fa fk ha ne ga gk (by lia) ?_ (by lia) rfl rv λs' I'=>?_
 ·rw[hV kC];show(ks.toArray.zip vs.toArray).map (·.2)=vs.toArray;apply Array.toList_inj.mp;rw[Array.toList_map,Array.toList_zip];show(ks.zip vs).map Prod.snd=vs;exact List.map_snd_zip (by lia)
 have e:(List.range us.length).map (λi=>us.getD i .non)=us:=by refine cX (by simp) λi h1 h3=>?_;rw[nO,sO,hG,kE h3];rfl
 have z:=h (List.range us.length) (List.Perm.refl _) (by rw[cR,cO];intro i j hi hj hij;rw[gI]at hi hj;lia);rw[e]at z;exact z s' I'
rw[hV h2,hV h2]
have h2':2≤ks.length:=by rw[kL]at h2;lia
have K:=qCY (prog:=X.prog) (w:=X.w) (A:=A) (s:=s) (q98 I rz hti) hw hm h2'
refine hI (K.kind _ _ ?_)
rw[hV kC]
refine hI (gB (kat_run (κ:=tuples' true) (G:=λp s'=>s'=s∧Gp vs.length p∧Srt (λi=>rkOf kk (kk.getD i [])) p vs.length) (Q:=λst' s'=>∃p:Array Nat,arrOf st'=p.map (kas_item (ks.toArray.zip vs.toArray))∧failedOf st'=none∧s'=s∧Gp vs.length p∧Srt (λi=>rkOf kk (kk.getD i [])) p vs.length) hlk (by lia) (by lia) (λp' st' s' _ a2 a3 a4=>⟨p',a2,a3,a4⟩) ?_) ?_ λ_ _ x=>x)
·refine qDS (c:=rc λi=>rkOf kk (kk.getD i [])) (n:=vs.length) (λi j C hi hj c=>K.lt i j C (by lia) (by lia) c) _ (yG (λp q=>⟨rfl,q⟩) _ (qCW (by lia)))
rintro⟨⟨⟩,st'⟩ s' ⟨p,har,hf,rfl,gp,sr⟩
try dsimp only
have pp:p.toList.Perm (List.range vs.length):=by have:=Array.perm_iff_toList_perm.mp gp;simpa using this
have hin:∀i∈p.toList,i<us.length:=λi hi=>by rw[l2];exact mZ.mp (pp.mem_iff.mp hi)
have pw:(p.toList.map λi=>kk.getD i []).Pairwise (λx y=>lx y x=false):=by
 rw[cR,cO];intro i j hi hj hij;rw[mU,gp.size]at hi hj;have z:rkOf kk (kk.getD (p.getD i 0) [])≤rkOf kk (kk.getD (p.getD j 0) []):=sr i j (by lia) hj;have gi:p.getD i 0=p.toList[i]'(by rw[mU,gp.size];exact hi):=by simp[Array.getD,gp.size,hi]
 have gj:p.getD j 0=p.toList[j]'(by rw[mU,gp.size];exact hj):=by simp[Array.getD,gp.size,hj]
 rw[gi,gj]at z;have mem:∀x,x<kk.length→kk.getD x []∈kk:=λx hx=>by rw[hG,kE hx];exact rT hx
 cases g:lx (kk.getD (p.toList[j]'(by rw[mU,gp.size];exact hj)) []) (kk.getD (p.toList[i]'(by rw[mU,gp.size];exact hi)) [])with
 |false=>rfl
 |true=>have b1:=hin _ (rT (show j<p.toList.length by rw[mU,gp.size];exact hj));have b2:=hin _ (rT (show i<p.toList.length by rw[mU,gp.size];exact hi));have lt:=(qBL (mem _ (by lia)) (mem _ (by lia))).mpr g;lia
exact q7G (out:=p.toList.map λi=>vs.getD i Value.none) (us:=p.toList.map λi=>us.getD i .non) I fa fk ha ne ga gk (by lia) (kat_snds hlk har) (by rw[h8,pp.length_eq,gI];lia) hf (q5H rv hin) λs' I'=>h p.toList (by rw[l2];exact pp) pw s' I')
end
section
variable{X:Cx}{pins:List (Addr×Obj)}{σ:St}
noncomputable def TupD(H:Hp)(v:V)(k:List Int):Prop:=∃a,v=.ref a∧H a=some (.tup (k.map V.int))
theorem TupD.i{K:PySem.W.Frag}{H:Hp}{v:V}{k:List Int}(h:TupD H v k):TupI K H v k:=let⟨a,e,z⟩:=h;⟨a,e,SqT.of z⟩
theorem TupD.same{H H':Hp}{v:V}{k:List Int}(h:TupD H v k)(s:Same H H'):TupD H' v k:=let⟨a,e,z⟩:=h;⟨a,e,s _ _ z⟩
noncomputable def dI(ks:List (Int×Int)):List (Key×V):=ks.map λp=>((.inl p.1:Key),V.int p.2)
theorem zN:∀{ks:List (Int×Int)} {n m:Int},(ks.map (·.1)).Nodup→(n,m)∈ks→valV (dI ks) (.inl n:Key)=some (.int m)
|p::ks,n,m,nd,h=>by
 obtain⟨n1,n2⟩:=mM.mp nd;show valV (((.inl p.1:Key),V.int p.2)::dI ks) (.inl n)=_;rcases kG.mp h with rfl|h
 ·exact y6 rfl
 have ne:p.1≠n:=λe=>n1 (by show p.1∈_;rw[e];exact List.mem_map_of_mem (f:=λx:Int×Int=>x.1) h);rw[jV (λe=>ne (wD e))];exact zN n2 h
theorem zO:∀{ks:List (Int×Int)} {n:Int},n∉ks.map (·.1)→valV (dI ks) (.inl n:Key)=none
| [],n,_=>rfl
|p::ks,n,h=>by
 show valV (((.inl p.1:Key),V.int p.2)::dI ks) (.inl n)=_;have h':n≠p.1∧n∉ks.map (·.1):=by simpa using h
 rw[jV (λe=>h'.1 (wD e).symm)];exact zO h'.2
end
end L2
namespace W1
theorem qBM{α:Type}(l:List α)(i j:Nat)(x d:α):(l.set i x).getD j d=if i=j∧i<l.length then x else l.getD j d:=by(
rw[hG,mQ,hG]
by_cases h:i=j
·subst h;rw[hU rfl];by_cases h2:i<l.length
 ·rw[hU h2,hU ⟨rfl,h2⟩];rfl
 rw[hV h2,hV (λz=>h2 z.2),wK (by lia)]
rw[hV h,hV (λz=>h z.1)])
theorem q0Y{P b j:Nat}(h:j<P):(b*P+j) / P=b:=by rw[Nat.mul_comm,Nat.mul_add_div (by lia),Nat.div_eq_of_lt h,Nat.add_zero]
theorem q8H{B P b j:Nat}(hb:b<B)(hj:j<P):b*P+j<B*P:=by have:=pR P (show b+1≤B from hb);rw[c8]at this;lia
theorem q60{α:Type}[DecidableEq α]:∀{l m:List α},l.Nodup→m.Nodup→(∀x,x∈l↔x∈m)→l.Perm m
| [],m,_,_,h=>by
 cases m with
 |nil=>exact .nil
 |cons a m=>exact absurd ((h a).mpr kM) (by simp)
|a::l,m,h1,h2,h=>by
 have ha:=(h a).mp kM;obtain⟨n1,n2⟩:=mM.mp h1;refine List.Perm.trans (List.Perm.cons a (q60 n2 (h2.erase a) λx=>?_)) (List.perm_cons_erase ha).symm;rw[List.Nodup.mem_erase_iff h2];constructor
 ·intro hx;exact⟨λe=>n1 (e▸hx),(h x).mp (h9 _ hx)⟩
 rintro⟨ne,hx⟩
 exact(kG.mp ((h x).mpr hx)).resolve_left ne
theorem qBN{α:Type}[DecidableEq α]:∀{l m:List α},l.Nodup→(∀x∈l,x∈m)→l.length≤m.length
| [],_,_,_=>mO _
|a::l,m,h1,h=>by obtain⟨n1,n2⟩:=mM.mp h1;have ha:=h a kM;have:=qBN (m:=m.erase a) n2 λx hx=>(List.mem_erase_of_ne (show x≠a from λe=>n1 (e▸hx))).mpr (h x (h9 _ hx));rw[List.length_erase_of_mem ha]at this;have h0:=List.length_pos_of_mem ha;rw[kX];lia
noncomputable abbrev Mp:=List (Int×Int)
noncomputable def jG(W:Mp)(n:Int):Mp:=W.filter λq=>decide (q.1≠n)
noncomputable def putW(W:Mp)(n p:Int):Mp:=if(W.any λq=>decide (q.1=n))=true then W.map (λq=>if q.1=n then(q.1,p)else q)else W++[(n,p)]
theorem qU{W:Mp}{n:Int}{q:Int×Int}:q∈jG W n↔q∈W∧q.1≠n:=by unfold jG;rw[gQ,kI]
theorem v9{W:Mp}{n:Int}(h:(W.map (·.1)).Nodup):((jG W n).map (·.1)).Nodup:=(h.sublist ((wX ..).map _))
theorem q07{W:Mp}{n p:Int}(h:(W.map (·.1)).Nodup){q:Int×Int}:q∈putW W n p↔q=(n,p)∨q∈jG W n:=by(
unfold putW
by_cases e:(W.any λq=>decide (q.1=n))=true
·rw[hU e,mH];obtain⟨r,hr,er⟩:=rV.mp e;have er:r.1=n:=mK er;constructor
 ·rintro⟨x,hx,rfl⟩
  by_cases ex:x.1=n
  ·rw[hU ex];exact .inl (by rw[ex])
  rw[hV ex];exact .inr (qU.mpr ⟨hx,ex⟩)
 rintro(rfl|h2)
 ·exact⟨r,hr,by rw[hU er,er]⟩
 obtain⟨a,b⟩:=qU.mp h2;exact⟨q,a,hV b⟩
rw[hV e,mS,kN]
have no:∀x∈W,x.1≠n:=λx hx z=>e (rV.mpr ⟨x,hx,hW z⟩)
constructor
·rintro(h1|h1)
 ·exact .inr (qU.mpr ⟨h1,no _ h1⟩)
 exact .inl h1
rintro(h1|h1)
·exact .inr h1
exact .inl (qU.mp h1).1)
theorem q5I{W:Mp}{n p:Int}(h:(W.map (·.1)).Nodup):((putW W n p).map (·.1)).Nodup:=by(
unfold putW
by_cases e:(W.any λq=>decide (q.1=n))=true
·rw[hU e,cC];have:(λx:Int×Int=>x.1) ∘ (λq:Int×Int=>if q.1=n then(q.1,p)else q)=λx=>x.1:=by funext x;show(if x.1=n then(x.1,p)else x).1=x.1;split<;>rfl
 rw[this];exact h
rw[hV e,mI]
refine rL.mpr ⟨h,by simp,λa ha b hb z=>e ?_⟩
obtain⟨x,hx,rfl⟩:=mH.mp ha
have hb:b=n:=by simpa using hb
exact rV.mpr ⟨x,hx,hW (by rw[z,hb])⟩)
theorem qD0{W:Mp}{n:Int}(h:∀q∈W,q.1≠n):jG W n=W:=pX.mpr λq hq=>hW (h q hq)
structure BM where
P:Nat
B:Nat
ns:List Int
W:Mp
V:Mp
nx:Int
bs:List (Option Int)
ss:List Int
lv:List Int
fi:List Int
bo:List Int
namespace BM
variable{m:BM}
noncomputable def lvF(P:Nat)(V:Mp)(lv:List Int)(n:Int):List Int:=match V.find? λq=>decide (q.1=n)with
|some q=>lv.set (q.2 / (P:Int)).toNat (lv.getD (q.2 / (P:Int)).toNat 0-1)
|none=>lv
end BM
end W1
namespace L2
open PySem PySem.Spec PyProof.Rows
noncomputable def qGI(K:PySem.W.Frag):R2:=λx y H Q=>∃p xs e,x=.ref p∧y=.ref e∧SqL K H p xs∧SqL K H e []∧Q (.bl (decide (xs≠[]))) H
theorem qF7{X:Cx}(hu:X.A.units+64<cLine):OpR X (compareOp .NotEq) (qGI X.K):=by(
intro pins s σ H x y v u Q I rx ry hZ
obtain⟨p,xs,e,ex,ey,hp,he,q⟩:=hZ
subst ex ey
cases rx
cases ry
obtain⟨i1,r1,p1,_⟩:=I.list hp
obtain⟨i2,r2,p2,_⟩:=I.list he
have l1:=r1.length
have l2:=r2.length
cases xs with
|nil=>exact SeqAt.RcNeAt.lists (e:=λ_=>true) p1.isList p2.isList (by simp at l1 l2 ⊢;lia) (by lia) (λj h1 h2=>by simp at l1 h1;lia) _ _ _ _ ⟨.bl false,H,I,by rw[zI];rfl,q⟩
|cons z zs=>exact SeqAt.RcNeAt.lists_lengths p1.isList p2.isList (by simp at l1 l2 ⊢;lia) (by lia) _ _ _ _ ⟨.bl true,H,I,rfl,q⟩)
theorem q61{n j:Nat}(h:j<n):ixN n (j:Int)=some j:=by(
unfold ixN
have a:(0:Int)≤j:=by lia
have b:(j:Int)<n:=by lia
simp[a,b,h])
theorem q7H{V:List (Int×Int)}{n:Int}:q3R (dI V) (Sum.inl n:Key)=dI (W1.jG V n):=by(
unfold q3R dI W1.jG
rw[List.filter_map]
congr 1
apply cS
intro q _
show decide ((Sum.inl q.1:Key)≠Sum.inl n)=decide (q.1≠n)
by_cases e:q.1=n<;>simp[e])
theorem q99{W:List (Int×Int)}{n p:Int}:putK (dI W) (Sum.inl n:Key) (.int p)=dI (W1.putW W n p):=by(
unfold putK dI W1.putW
have e:((W.map λp=>((Sum.inl p.1:Key),V.int p.2)).any λkv=>decide (kv.1=Sum.inl n))=W.any λq=>decide (q.1=n):=by
 rw[lN];congr 1;funext q;show decide ((Sum.inl q.1:Key)=Sum.inl n)=decide (q.1=n);by_cases e:q.1=n
 ·rw[e];simp
 rw[hZ e,hZ (λz=>e (wD z))]
rw[e]
by_cases h:(W.any λq=>decide (q.1=n))=true
·rw[hU h,hU h,cC,cC];apply wY;intro q _;show(if(Sum.inl q.1:Key)=Sum.inl n then((Sum.inl q.1:Key),V.int p)else((Sum.inl q.1:Key),V.int q.2))=_;by_cases e:q.1=n
 ·rw[hU (by rw[e])];show _=(λp:Int×Int=>((Sum.inl p.1:Key),V.int p.2)) (if q.1=n then(q.1,p)else q);rw[hU e]
 rw[hV (λz=>e (wD z))];show _=(λp:Int×Int=>((Sum.inl p.1:Key),V.int p.2)) (if q.1=n then(q.1,p)else q);rw[hV e]
rw[hV h,hV h,mI]
rfl)
theorem qA1{V:List (Int×Int)}{n p:Int}:W1.putW (W1.jG V n) n p=W1.jG V n++[(n,p)]:=by(
unfold W1.putW
rw[hV]
intro h
obtain⟨q,hq,e⟩:=rV.mp h
exact(W1.qU.mp hq).2 (mK e))
theorem setV{ns:List Int}{c:Nat}{x:Int}:(ns.map V.int).set c (.int x)=(ns.set c x).map V.int:=by rw[pA]
theorem atV{ns:List Int}{c:Nat}(h:c<ns.length):atI (ns.map V.int) (c:Int)=some (.int (ns.getD c 0)):=by refine q0V ?_;rw[mG,kE h,hG,kE h];rfl
theorem qBO{a:Addr}{o:Obj}{kvs:List (Key×V)}{D:Addr}{H2:Hp}{g:TG}{tc:TT}{te:TE}{σ0:St}{R:Hp→Prop}(Pv:Nat→Hp→Prop)(h0:Pv 0 H2)(hl:∀i H,Pv i H→H a=some (.frz o (.dK kvs)))
 (hs:∀(i:Nat) kv H,kvs[i]?=some kv→Pv i H→g (kV kv.1) σ0 H λσ5 H5=>tc σ5 H5 λb H6=>if b=true then te σ5 H6 (λv H7=>∃vs,H7 D=some (.lst vs)∧vs.length<sizeLine∧Pv (i+1) (upd H7 D (.lst (vs++[v]))))else Pv (i+1) H6) (hd:∀H,Pv kvs.length H→R H):
 ∃W:Nat→Nat→Hp→Prop,(∃m,W 0 m H2)∧∀i m H3,W i m H3→((Itd a o kvs).stop i H3∧R H3)∨((Itd a o kvs).go i H3∧∃N:Hp→Prop,(∀H',N H'→∃m',m'<m∧W (i+1) m' H')∧∀x H4,(Itd a o kvs).yld i H3 x H4→g x σ0 H4 λσ5 H5=>tc σ5 H5 λb H6=>if b=true then te σ5 H6 (λv H7=>∃vs,H7 D=some (.lst vs)∧vs.length<sizeLine∧N (upd H7 D (.lst (vs++[v]))))else N H6):=qCV (Q:=λ_ H=>R H) Pv h0 hl hs hd
theorem q8I{H H':Hp}{us:List V}{ks:List (List Int)}(h:Paired (TupD H) us ks)(s:Same H H'):Paired (TupD H') us ks:=Paired.mapP h λ_ _ z=>z.same s
theorem qD1{K:PySem.W.Frag}{H:Hp}{us:List V}{ks:List (List Int)}(h:Paired (TupD H) us ks):Paired (TupI K H) us ks:=Paired.mapP h λ_ _ z=>z.i
theorem qA2{lo:Int}{n:Nat}{D:Addr}{H2:Hp}{g:TG}{tc:TT}{te:TE}{σ0:St}{R:Hp→Prop}(Pv:Nat→Hp→Prop)(h0:Pv 0 H2)
 (hs:∀(i:Nat) H,i<n→Pv i H→g (.int (lo+i)) σ0 H λσ5 H5=>tc σ5 H5 λb H6=>if b=true then te σ5 H6 (λv H7=>∃vs,H7 D=some (.lst vs)∧vs.length<sizeLine∧Pv (i+1) (upd H7 D (.lst (vs++[v]))))else Pv (i+1) H6) (hd:∀H,Pv n H→R H):
 ∃W:Nat→Nat→Hp→Prop,(∃m,W 0 m H2)∧∀i m H3,W i m H3→((Itr lo n).stop i H3∧R H3)∨((Itr lo n).go i H3∧∃N:Hp→Prop,(∀H',N H'→∃m',m'<m∧W (i+1) m' H')∧∀x H4,(Itr lo n).yld i H3 x H4→g x σ0 H4 λσ5 H5=>tc σ5 H5 λb H6=>if b=true then te σ5 H6 (λv H7=>∃vs,H7 D=some (.lst vs)∧vs.length<sizeLine∧N (upd H7 D (.lst (vs++[v]))))else N H6):=qBF (Q:=λ_ H=>R H) Pv h0 hs hd
theorem qF8{H H3:Hp}{a:Addr}{u:HO}(ha:H a=some u)(k:∀b o,b≠a→H b=some o→H3 b=some o):Same H (upd H3 a u):=λb o e=>by(
by_cases z:b=a
·rw[z,qJ,←ha,←z];exact e
rw[qD z]
exact k b o z e)
theorem q62{X:Cx}{K:PySem.W.Frag}{e:Expr}{ta:TE}{f:Str}{pos:Pos}(eK:X.K=K)(he:PE X e ta)(hb:attributeBase e f X.env (eval e X.env)=eval e X.env):PE X (.Attribute e f pos) (tFld K ta f):=by subst eK;exact qM he hb
end L2
namespace L2
open PySem PySem.W PySem.Spec PyProof.Rows
noncomputable def BmIn(base:Heap)(mg:Str→Option Value):Prop:=∃bm o,mg "__builtins__"=some (.ref bm)∧bm≠builtinsNs∧base.get? bm=some o∧o.cls=.type "module"∧o.dict=some builtinsNs∧o.data=.plain
theorem qA3{P:Program}{w:World}{K:PySem.W.Frag}{mg mb:Str→Option Value}{CX:CXT}{k:Nat}{fa a:Addr}{fd:FuncData}{x:Str}{sp:Sp}{s₁:Shared}{vs:List Value}{ns:List Int}(ts:List Addr)
 (KX:K.In s₁.heap) (hts:∀T∈ts,s₁.heap.get? T=some (tabObj #[])∧K.lookup T=none∧∃c,codeHdIn K c T=true) (hns:s₁.heap.Ns mainGlobals mg) (hb:s₁.heap.Ns builtinsNs mb) (hbb:∀x:Str,x≠"__name__"→mb x=bootBuiltins x) (hlim:s₁.heap.NoLimit) (hbm:BmIn s₁.heap mg) (hg:s₁.gens=#[])
 (ha:s₁.heap.get? a=some { cls:=.type "list",data:=.seq vs.toArray }) (hi:IntsAre vs ns) (hl:ns.length≤sizeLine) (hr:Room k callerA)
 (F:∀base:Heap,K.In base→base.Ns mainGlobals mg→BmIn base mg→FnOk P w K mg base CX k fa fd [x] sp) (hbind:∀(s:Shared) (u:Value),BindsTo s fd ⟨[u],[]⟩ [(x,u)])
 (hsp:∀H:Hp,SqL K H a (ns.map V.int)→(∀T∈ts,H T=some (.tbl #[]))→sp [.ref a] H (λv _=>v=.bl true) λ_ _ _=>False)
 (hCX:∀H e s',CX [] H s₁ (λ_ _ _=>False) e s'→False):
 codeAny (model P w) callerA (.call (.ref fa) ⟨[.ref a],[]⟩) (λr s'=>r=.ok (.ret (.bool true))∧OldK s₁.heap s'.heap∧s'.os=s₁.os∧AllBare s'.gens) s₁:=by(
have rv:=q5B hi
have lenV:=hi.length
have nat:a∉ts:=λz=>by have e:=(hts a z).1;rw[ha]at e;cases e
have core:∀H:Hp,SqL K H a (ns.map V.int)→HOk P w H s₁.heap→(∀b,H b=none∨(b=a∧K.lookup a=none∧∃o xs,H b=some (.frz o (.lst xs)))∨(b∈ts∧H b=some (.tbl #[])))→(∀T∈ts,H T=some (.tbl #[]))→codeAny (model P w) callerA (.call (.ref fa) ⟨[.ref a],[]⟩) (λr s'=>r=.ok (.ret (.bool true))∧OldK s₁.heap s'.heap∧s'.os=s₁.os∧AllBare s'.gens) s₁:=by
 intro H hS hok hO hT;have base_of:∀{b:Addr} {o:Obj},s₁.heap.get? b=some o→H b=none→(hidT s₁.heap H).get? b=some o:=λe n=>q3I e n;have noA:∀{b:Addr} {o:Obj} {es:Array DictEntry} {ep:Nat},s₁.heap.get? b=some o→o.data=.dict es ep→H b=none:=fun {b o es ep} e d=>by
  rcases hO b with z|⟨rfl,_⟩|⟨z,_⟩
  ·exact z
  ·rw[ha]at e;cases e;cases d
  rw[(hts b z).1]at e;cases e;cases d
 have nsK:∀{b:Addr} {m:Str→Option Value},s₁.heap.Ns b m→(hidT s₁.heap H).Ns b m:=fun {b m} ⟨o,es,ep,e,d,r⟩=>⟨o,es,ep,base_of e (noA e d),d,r⟩
 have hKb:K.In (hidT s₁.heap H):=λb o e=>base_of (KX b o e) (by
  rcases hO b with z|⟨rfl,z,_⟩|⟨z,_⟩
  ·exact z
  ·rw[z]at e;cases e
  rw[(hts b z).2.1]at e;cases e)
 have hM:Mod K mg (hidT s₁.heap H):=⟨hKb,nsK hns,⟨mb,nsK hb,hbb⟩,let⟨mc,h1,h2⟩:=hlim;⟨mc,nsK h1,h2⟩⟩;have hB:BmIn (hidT s₁.heap H) mg:=by
  obtain⟨bm,o,b1,b2,b3,b4,b5,b6⟩:=hbm;refine⟨bm,o,b1,b2,base_of b3 ?_,b4,b5,b6⟩;rcases hO bm with z|⟨rfl,_⟩|⟨z,_⟩
  ·exact z
  ·rw[ha]at b3;cases b3;exact absurd (Value.type.inj b4) (by decide)
  rw[(hts bm z).1]at b3;cases b3;cases b4
 have e0:Env0 P w K mg (hidT s₁.heap H) callerA [] s₁ H:=⟨rfl,hM,λb o e=>q8S e,wE (q4W _ _),trivial,λb hb=>absurd (show b∈([]:List Addr)from hb) (by simp),hok,.of_eq hg⟩;refine rA ((F _ hKb (nsK hns) hB).run callerA [] s₁ H ⟨[.ref a],[]⟩ [.ref a] [.ref a] _ _ hr e0 (hbind s₁ (.ref a)) (.cons rfl .nil) (hsp H hS hT)) λr s' h=>?_;cases r with
 |error e=>exact(hCX H e s' h).elim
 |ok fl=>
  cases fl with
  |next=>exact False.elim h
  |brk=>exact False.elim h
  |cont=>exact False.elim h
  |ret u=>
   obtain⟨v,H',os,bare,un,hok',r',q⟩:=h;have q':v=.bl true:=q;subst q';obtain rfl:u=Value.bool true:=r';have kept:∀b o,s₁.heap.get? b=some o→b∉ts→s'.heap.get? b=some o:=λb o e nb=>by
    rcases hO b with z|⟨rfl,_,ob,xs,z⟩|⟨z,_⟩
    ·exact un.keep b o e z (by intro z;exact absurd (show b∈([]:List Addr)from z) (by simp)) (by simp)
    ·have z2:=un.frzs _ ob _ z;obtain⟨e1,_⟩:=hok _ _ z;obtain⟨e2,_⟩:=hok' _ _ z2;rw[e]at e1;cases e1;exact e2
    exact absurd z nb
   refine⟨rfl,⟨λb o e=>?_,λb o e=>?_⟩,os,bare⟩
   ·by_cases nb:b∈ts
    ·obtain⟨g,_,c,hc⟩:=hts b nb;obtain⟨more,z2⟩:=un.tbls b _ (hT b nb);have g2:s'.heap.get? b=some { cls:=.none,data:=.fields (#[]++more) }:=hok' _ _ z2;rw[g]at e;cases e;exact .inr (.inl ⟨((nQ KX hc).tab g).isCodeTable,rfl,#[],more,rfl,g2⟩)
    exact .inl (kept b o e nb)
   by_cases nb:b∈ts
   ·obtain⟨more,z2⟩:=un.tbls b _ (hT b nb);exact⟨_,hok' _ _ z2⟩
   exact⟨o,kept b o e nb⟩
have tb:∀T∈ts,∀H:Hp,H T=some (.tbl #[])→∀u,H T=some u→jF P w H s₁.heap T u:=λT hT H e u e'=>by rw[e]at e';cases e';exact(hts T hT).1
cases hk:K.lookup a with
|some o=>
 have e:=KX a o hk;rw[ha]at e;cases e;refine core (λb=>if b∈ts then some (.tbl #[])else none) (.inr ⟨_,vs.toArray,_,hk,rfl,rfl,rfl,by rw[kL,lenV];exact hl,by simpa using rv⟩) (λb u z=>?_) (λb=>?_) λT hT=>hU hT
 ·by_cases hb':b∈ts
  ·exact tb b hb' _ (hU hb') u z
  have z':=(hV hb').symm.trans z;cases z'
 by_cases hb':b∈ts
 ·exact .inr (.inr ⟨hb',hU hb'⟩)
 exact .inl (hV hb')
|none=>
 refine core (λb=>if b=a then some (.frz { cls:=.type "list",data:=.seq vs.toArray } (.lst (ns.map V.int)))else if b∈ts then some (.tbl #[])else none) (.inl (.inr ⟨{ cls:=.type "list",data:=.seq vs.toArray },hU rfl⟩)) (λb u z=>?_) (λb=>?_) λT hT=>?_
 ·by_cases hb':b=a
  ·have z':=(hU hb').symm.trans z;cases z';subst hb';exact⟨ha,by rw[h8];exact hl,vs,_,rv,ha⟩
  by_cases hb2:b∈ts
  ·exact tb b hb2 _ ((hV hb').trans (hU hb2)) u z
  have z':=((hV hb').trans (hV hb2)).symm.trans z;cases z'
 ·by_cases hb':b=a
  ·exact .inr (.inl ⟨hb',hk,_,_,hU hb'⟩)
  by_cases hb2:b∈ts
  ·exact .inr (.inr ⟨hb2,(hV hb').trans (hU hb2)⟩)
  exact .inl ((hV hb').trans (hV hb2))
 have:T≠a:=λz=>nat (z▸hT);exact(hV this).trans (hU hT))
theorem qBP{l:PySem.W.OpenLaw}{n k:Nat}{q:Program}{loose:List Str}{XP:(Str→Option Value)→Heap→Prop}{YP:World→Heap→Prop}{d:DefRec}{K:Params→PySem.W.Frag}{CX:World→CXT}{sp:World→Sp}{x:Str}(ts:List Addr)
 (hn:l.most=some n) (hn2:n≤sizeLine) (hdf:d.params.defaults=[]) (hr:Room k callerA)
 (hY:∀(w:World) (h:Heap),YP w h→(K w.params).In h∧∀T∈ts,h.get? T=some (tabObj #[])) (hT:∀w:World,∀T∈ts,(K w.params).lookup T=none∧∃c,codeHdIn (K w.params) c T=true)
 (F:∀(w:World) (mg:Str→Option Value) (fa:Addr) (h:Heap),(K w.params).In h→h.Ns mainGlobals mg→mg d.name=some (.ref fa)→∃fd:FuncData,(∀(s:Shared) (u:Value),BindsTo s fd ⟨[u],[]⟩ [(x,u)])∧∀base:Heap,(K w.params).In base→base.Ns mainGlobals mg→BmIn base mg→FnOk l.prog w (K w.params) mg base (CX w) k fa fd [x] (sp w))
 (hsp:∀(w:World) (H:Hp) (a:Addr) (ns:List Int),ns.length≤n→SqL (K w.params) H a (ns.map V.int)→(∀T∈ts,H T=some (.tbl #[]))→sp w [.ref a] H (λv _=>v=.bl true) λ_ _ _=>False)
 (hCX:∀(w:World) (H:Hp) (s:Shared) (e:Value) (s':Shared),CX w [] H s (λ_ _ _=>False) e s'→False):
 PySem.W.WalkO q loose XP YP l.row.toRowW d [] (λf vs=>PySem.call f vs):=by(
refine Att.attach_call hn hdf λw s₀ s₁ mg mb fa o pm cd doc a vs ns G Y ho hd hcd hmg hobj hints hlen hg=>?_
obtain⟨KX,KT⟩:=hY w _ Y
obtain⟨fd,hb,hF⟩:=F w mg fa _ KX G.T.g hmg
exact qA3 ts KX (λT h=>⟨KT T h,hT w T h⟩) G.T.g G.T.b G.T.builtins G.T.nolimit (let⟨bm,ob,b1,b2,b3,b4,b5,b6⟩:=G.T.bmain;⟨bm,ob,b1,b2,b3,b4,b5,b6⟩) hg hobj hints (kY hlen hn2) hr hF hb (λH hS hH=>hsp w H a ns hlen hS hH) λH e s'=>hCX w H s₁ e s')
structure FunT(K:PySem.W.Frag)(x qual:Str)(st:Stmt)(c f:Addr)(fd:FuncData):Prop where
ex:∃(oc:Value) (od:Option Addr) (kV doc pm:Value) (an:Option Addr) (ct:Value) (osl:Array (Option Value)),fd=PySem.W.fnOf x qual (yB st) (jR st) (qH st) .none kV doc pm an (.ref c) ct∧K.lookup f=some ⟨oc,od,.func fd,osl⟩∧PySem.W.codeIn K (.ref c) qual=true
section
variable{P:Program}{w:World}{K:PySem.W.Frag}{mg:Str→Option Value}{base:Heap}
theorem FunT.mk'{x qual:Str}{st:Stmt}{c f:Addr}{oc:Value}{od an:Option Addr}{osl:Array (Option Value)}{kV doc pm ct:Value}(l:K.lookup f=some ⟨oc,od,.func (PySem.W.fnOf x qual (yB st) (jR st) (qH st) .none kV doc pm an (.ref c) ct),osl⟩)
 (h:PySem.W.codeIn K (.ref c) qual=true):FunT K x qual st c f (PySem.W.fnOf x qual (yB st) (jR st) (qH st) .none kV doc pm an (.ref c) ct):=⟨⟨oc,od,kV,doc,pm,an,ct,osl,rfl,l,h⟩⟩
theorem FunT.ok0{x qual:Str}{st:Stmt}{c f:Addr}{fd:FuncData}{N ps:List Str}{k:Nat}{sp:Sp}(F:FunT K x qual st c f fd)(S:FnScope N ps (qH st))
 (hbody:∀(A:Around) (outer:List Env) (s:Shared) (H:Hp) (vs:List V) (Q:VK) (E:XK),Room k (A.deeper (envOfC qual (qH st) s.heap.objs.size f (.ref c)))→sp vs H Q E→∃t,PSs (cxOf CX0 P w K mg base N qual (qH st) f (.ref c) A outer s H E).nox (jR st) t∧t { nx:=λ_ H'=>Q .non H',rt:=Q } (start N vs) H)(len:∀vs H Q E,sp vs H Q E→vs.length=ps.length:=by intro _ _ _ _ h;(repeat obtain⟨_,h⟩:=h);all_goals subst_vars;rfl):FnOk P w K mg base CX0 (k+1) f fd ps sp:=by(
obtain⟨oc,od,kV,doc,pm,an,ct,osl,rfl,lk,hcd⟩:=F.ex
refine qAT lk hcd S len λA outer s H vs Q E hr hsp=>?_
obtain⟨t,h,q⟩:=hbody A outer s H vs Q E hr hsp
exact⟨t,h.nox,q⟩)
noncomputable def q2K(K:PySem.W.Frag)(ts:List Addr):Sp:=λvs H Q _=>∃(a:Addr) (ns:List Int),vs=[.ref a]∧SqL K H a (ns.map V.int)∧ns.length≤63∧(∀T∈ts,H T=some (.tbl #[]))∧∀H',Q (.bl true) H'
end
noncomputable def qBQ(K:PySem.W.Frag)(C:Addr):Prop:=PySem.W.findIn K (.ref C) "__class__"=some (some (.builtin "object.__class__"))∧PySem.W.specialIn K (.builtin "object.__class__") "__get__"=some (some (.builtin "getset_descriptor.__get__"))∧PySem.W.takesIn K (.builtin "object.__class__")=some true∧PySem.W.mroIn K C (.type "object")=some true
theorem qBQ.ty{K:PySem.W.Frag}{H:Hp}{a C dx:Addr}{fs:List (Str×V)}(h:qBQ K C)(cl:Cls K C)(e:H a=some (.ins C dx fs)):KndT K H (.ref a) (.ref C):=.inl (.ins e cl h.1 h.2.1 h.2.2.1 h.2.2.2)
noncomputable def fnOb(fd:FuncData):Obj:={ cls:=.type "function",data:=.func fd }
noncomputable def fnO(f:Addr)(fd:FuncData):HO:=.ext λh=>h.get? f=some (fnOb fd)
noncomputable def cdO(c:Addr)(q:Str):HO:=.ext λh=>∃o vs t,h.get? c=some o∧o.data=.fields vs∧vs[1]?=some (.str q t)
theorem qBR{P:Program}{w:World}{H:Hp}{h:Heap}{f:Addr}{fd:FuncData}(e:h.get? f=some (fnOb fd)):jF P w H h f (fnO f fd):=⟨e,⟨_,e⟩,λ_ _ a b=>b _ a⟩
theorem qF9{P:Program}{w:World}{H:Hp}{h:Heap}{c:Addr}{q:Str}(e:h.CodeRec (.ref c) q):jF P w H h c (cdO c q):=by obtain⟨c',o,vs,t,e0,e1,e2,e3⟩:=e;cases e0;exact⟨⟨o,vs,t,e1,e2,e3⟩,⟨_,e1⟩,λ_ _ ⟨o,vs,t,a,b⟩ k=>⟨o,vs,t,k _ a,b⟩⟩
theorem qFA{P:Program}{w:World}{H:Hp}{h:Heap}{f:Addr}{fd:FuncData}(ok:HOk P w H h)(e:H f=some (fnO f fd)):h.get? f=some (fnOb fd):=(ok f _ e).1
theorem qFB{P:Program}{w:World}{H:Hp}{h:Heap}{c:Addr}{q:Str}(ok:HOk P w H h)(e:H c=some (cdO c q)):h.CodeRec (.ref c) q:=let⟨o,vs,t,a,b⟩:=(ok c _ e).1
 ⟨c,o,vs,t,rfl,a,b⟩
noncomputable def uL(base:Heap)(cs:List Addr):Hp:=λb=>if(base.get? b).isSome=true∨b∈cs then none else some (.lst [])
theorem q08{h base base':Heap}:∀{l:List Env},h.FunFrames base l→(∀L∈frs l,base.get? L=none→base'.get? L=none)→h.FunFrames base' l
| [],_,_=>trivial
|env::r,⟨hk,⟨L,o,hf,hn,ho,hd⟩,hr⟩,k=>by
 have hL:L∈frs (env::r):=by unfold frs;rw[dU,hf];exact kM
 exact⟨hk,⟨L,o,hf,k L hL hn,ho,hd⟩,q08 hr λb hb=>k b (by unfold frs;rw[dU,hf];exact h9 _ hb)⟩
theorem Inv.env0C{X:Cx}{pins:List (Addr×Obj)}{σ:St}{H:Hp}{s:Shared}(I:Inv X pins σ H s)(cs:List Addr)(hcs:∀c∈cs,∃x,X.fn x=true∧X.env.cells.lookup x=some c):
 Env0 X.prog X.w X.K X.mg (hidT s.heap (uL X.base cs)) X.A X.stack s H∧(∀b o,X.base.get? b=some o→(hidT s.heap (uL X.base cs)).get? b=some o)∧∀c∈cs,∀o,s.heap.get? c=some o→(hidT s.heap (uL X.base cs)).get? c=some o:=by(
have up:∀b o,X.base.get? b=some o→(hidT s.heap (uL X.base cs)).get? b=some o:=λb o e=>q3I (I.bk b o e) (hU (.inl (by rw[e];rfl)))
have inv:∀{b:Addr} {o:Obj},(hidT s.heap (uL X.base cs)).get? b=some o→s.heap.get? b=some o∧((∃o',X.base.get? b=some o')∨b∈cs):=fun {b o} e=>by
 obtain⟨e1,n⟩:=q8S e;refine⟨e1,?_⟩;by_cases z:(X.base.get? b).isSome=true∨b∈cs
 ·rcases z with z|z
  ·exact .inl (dR.mp z)
  exact .inr z
 rw[show uL X.base cs b=some (.lst [])from hV z]at n;cases n
obtain⟨mb,hb1,hb2⟩:=I.ok.mod.blt
refine⟨⟨I.ok.frames,⟨I.ok.mod.kin.keeps up,I.ok.mod.glob.keeps up,⟨mb,hb1.keeps up,hb2⟩,I.ok.mod.nolimit.keeps up⟩,λb o e=>?_,by rw[q4W];exact kB _,q08 I.stack λL hL n=>?_,I.stkFree,I.hok,I.bare⟩,up,λc hc o e=>q3I e (hU (.inr hc))⟩
·obtain⟨e1,z⟩:=inv e;rcases z with⟨o',z⟩|z
 ·exact⟨e1,(I.bs b o' z).2⟩
 obtain⟨x,_,hx⟩:=hcs b z;exact⟨e1,I.freeC x b hx⟩
cases e:(hidT s.heap (uL X.base cs)).get? L with
|none=>rfl
|some o=>
 obtain⟨e1,z⟩:=inv e;rcases z with⟨o',z⟩|z
 ·rw[n]at z;cases z
 obtain⟨x,hf,hx⟩:=hcs L z;rcases kG.mp (I.stkSub L hL)with y|y
 ·exact absurd y (I.cne x L hx)
 obtain⟨_,o2,ho,_⟩:=I.ok.funs.mem y;exact absurd (kF ho) (cH.mpr (I.ok.cab x L hf hx)))
noncomputable def q44(cells:List (Str×Addr))(σ:St)(base':Heap)(ix:List (Nat×Str)):Prop:=∀p∈ix,∀v,σ[p.1]?=some (some v)→∃c u,cells.lookup p.2=some c∧RelV v u∧base'.IsCell c (some u)
noncomputable def qGJ(T:Addr)(pos:Pos)(qual:Str)(params:Arguments)(body:Expr)(scope:Scope)(clos:List (Str×Addr))(pm:Value):TE:=λσ H Q=>∃ps,H T=some (.tbl ps)∧TriplesOk ps.toList∧codeAmong pos ps.toList=none∧∀(f c':Addr) (ctv:Value),H f=none→H c'=none→f≠c'→Q (.ref f) (upd (upd (upd H T (.tbl (ps++#[rawInt pos.line,rawInt pos.col,.ref c']))) c' (cdO c' qual)) f (fnO f (kla_fn "<lambda>" qual params body scope clos pm (.ref c') ctv)))
theorem qD2{X:Cx}{c T:Addr}{params:Arguments}{body:Expr}{scope:Scope}{pos:Pos}{clos:List (Str×Addr)}(hcode:X.env.code=.ref c)(hcd:codeHdIn X.K c T=true)(B:BmIn X.base X.mg)(hcl:closureFor scope X.env=pure clos)(hdef:defaultsOf params X.env=([],[])):
 PE X (.Lambda params body scope pos) (qGJ T pos (X.env.qual++"<lambda>") params body scope clos ((X.mg "__name__").getD .none)):=by(
intro pins s σ H Q I hZ
obtain⟨ps,hT,ht,hnf,q⟩:=hZ
have hP:s.heap.get? T=some (tabObj ps):=I.hok T _ hT
have hgs:s.heap.Ns mainGlobals X.mg:=I.ok.mod.glob.keeps I.bk
obtain⟨bm,ob,b1,b2,b3,b4,b5,b6⟩:=B
have b3':=I.bk _ _ b3
have hgP:mainGlobals≠T:=λz=>by obtain⟨o,es,ep,e,hd,_⟩:=hgs;rw[z,hP]at e;cases e;cases hd
have hbP:bm≠T:=λz=>by rw[z,hP]at b3';cases b3';cases b4
have hbG:bm≠mainGlobals:=λz=>by obtain⟨o,es,ep,e,hd,_⟩:=hgs;rw[z,e]at b3';cases b3';rw[hd]at b6;cases b6
refine kla_eval hdef (kla_makeFunction (clos:=clos) hcl I.ok.glob hgs hcode (nQ I.kIn hcd) hP ht hnf hgP ⟨bm,ob,b1,b2,hbG,hbP,b3',b4,b5,b6⟩ λc' ctv h' tk hx hge hlt hrec htb=>?_)
have trk:∀b u,s.heap.get? b=some u→b≠T→∀o,(h'.push o).get? b=some u:=λb u e n o=>hR _ (hx b u n e)
have sz:s.heap.objs.size≤h'.objs.size:=kY hge (wZ hlt)
have nF:H h'.objs.size=none:=I.hok.fresh sz
have nC:H c'=none:=I.hok.fresh hge
have fc:h'.objs.size≠c':=dN hlt
have other:∀{b:Addr},b≠T→b≠c'→b≠h'.objs.size→∀u:HO,(upd (upd (upd H T (.tbl (ps++#[rawInt pos.line,rawInt pos.col,.ref c']))) c' (cdO c' (X.env.qual++"<lambda>"))) h'.objs.size (fnO h'.objs.size (kla_fn "<lambda>" (X.env.qual++"<lambda>") params body scope clos ((X.mg "__name__").getD .none) (.ref c') ctv))) b=H b:=fun {b} z1 z2 z3 _=>by rw[qD z3,qD z2,qD z1]
refine⟨.ref h'.objs.size,_,?_,rfl,q _ c' ctv nF nC fc⟩
refine I.un (t':=tk) ⟨λb o e n _ _=>trk b o e (qF hT n).symm _,λb o e n _ _=>⟨o.slots,trk b o e (qF hT n).symm _⟩,λb o e n _=>?_,λb o e _=>?_,λb xs e=>?_,λb o u e=>?_,λb qs e=>?_⟩ λb u e=>?_
·have hb:b<s.heap.objs.size:=kF e;rw[other (qF hT n).symm (kW (kQ hb hge)) (kW (kQ hb sz)) (.lst [])];exact n
·by_cases z:b=T
 ·subst z;exact⟨_,hR _ htb⟩
 exact⟨o,trk b o e z _⟩
·rw[other (λz=>by rw[z,hT]at e;cases e) (qF e nC) (qF e nF) (.lst [])];exact e
·rw[other (λz=>by rw[z,hT]at e;cases e) (qF e nC) (qF e nF) (.lst [])];exact e
·by_cases z:b=T
 ·subst z;rw[hT]at e;cases e;refine⟨#[rawInt pos.line,rawInt pos.col,.ref c'],?_⟩;rw[qD (qF hT nF),qD (qF hT nC)];exact qJ
 exact⟨#[],by rw[other z (qF e nC) (qF e nF) (.lst []),e];simp⟩
by_cases z3:b=h'.objs.size
·subst z3;rw[qJ]at e;cases e;exact qBR (kU _ rfl)
by_cases z2:b=c'
·subst z2;rw[qD z3,qJ]at e;cases e;exact qF9 (hrec.push _)
by_cases z:b=T
·subst z;rw[qD z3,qD z2,qJ]at e;cases e;exact hR _ htb
rw[other z z2 z3 (.lst [])]at e
refine(I.hok b u e).stay (λd v hd r=>trk d v r (λy=>?_) _) (λd r=>?_) λd xs r=>?_
·rcases hd with hd|hd
 ·exact z (hd▸y)
 rw[y,hT]at hd;cases hd
·rw[other (λy=>by rw[y,hT]at r;cases r) (qF r nC) (qF r nF) (.lst [])];exact r
rw[other (λy=>by rw[y,hT]at r;cases r) (qF r nC) (qF r nF) (.lst [])];exact r)
noncomputable abbrev envL(qual:Str)(scope:Scope)(clos:List (Str×Addr))(L f:Addr)(cd:Value):Env:=newEnv scope L mainGlobals clos (qual++".<locals>.") (some f) cd none builtinsNs
noncomputable def qBS(CX:CXT)(P:Program)(w:World)(K:PySem.W.Frag)(mg:Str→Option Value)(base:Heap)(N:List Str)(qual:Str)(scope:Scope)(clos:List (Str×Addr))(f:Addr)(cd:Value)(A:Around)(outer:List Env)(s:Shared)(H:Hp)(E:XK):Cx where
prog:=P
w:=w
K:=K
mg:=mg
base:=base
A:=A.deeper (envL qual scope clos s.heap.objs.size f cd)
N:=N
s₀:=s
H₀:=H
env:=envL qual scope clos s.heap.objs.size f cd
outer:=outer
stack:=envL qual scope clos s.heap.objs.size f cd::outer
ex:=[]
calm:=true
fn:=λ_=>false
pn:=[]
xe:=λe s'=>wpAny (model P w) (A.deeper (envL qual scope clos s.heap.objs.size f cd)) (leaving (envL qual scope clos s.heap.objs.size f cd) e) (λ_ s''=>CX outer H s E e s'') (λe' s''=>CX outer H s E e' s'') s'
structure LamSc(scope:Scope)(x0:Str)(clos:List (Str×Addr))(fvs:List V)(base:Heap):Prop where
kind:scope.kind=.function
co:scope.isCoroutine=false
gen:scope.isGenerator=false
par:scope.names.lookup x0=some .local
nocell:∀y∈scope.names,y.2≠ .cell
free:∀y,scope.names.lookup y=some .free→∃c,clos.lookup y=some c
inj:∀x y c,clos.lookup x=some c→clos.lookup y=some c→x=y
at':∀(j:Nat) (x:Str) (c:Addr),clos[j]?=some (x,c)→scope.names.lookup x=some .free∧clos.lookup x=some c∧∃v u,fvs[j]?=some v∧RelV v u∧base.IsCell c (some u)
len:fvs.length=clos.length
theorem qD3{CX:CXT}{P:Program}{w:World}{K:PySem.W.Frag}{mg:Str→Option Value}{base:Heap}{k:Nat}{f c:Addr}{name qual:Str}{params:Arguments}{body:Expr}{scope:Scope}{pm ct:Value}{x0:Str}{clos:List (Str×Addr)}{fvs:List V}{sp:Sp}(S:LamSc scope x0 clos fvs base)
 (len:∀vs H Q E,sp vs H Q E→vs.length=1) (hf:∀vs H Q E,sp vs H Q E→H f=some (fnO f (kla_fn name qual params body scope clos pm (.ref c) ct))∧H c=some (cdO c qual))
 (hbody:∀(A:Around) (outer:List Env) (s:Shared) (H:Hp) (v0:V) (Q:VK) (E:XK),Room k (A.deeper (envL qual scope clos s.heap.objs.size f (.ref c)))→sp [v0] H Q E→∃t,PE (qBS CX P w K mg base (x0::clos.map (·.1)) qual scope clos f (.ref c) A outer s H E) body t∧t (some v0::fvs.map some) H Q):
 FnOk P w K mg base CX (k+1) f (kla_fn name qual params body scope clos pm (.ref c) ct) [x0] sp:=by(
refine⟨len,λA outer s H args us vs Q E hr e0 hb r hsp=>?_⟩
have hl:=len _ _ _ _ hsp
obtain⟨v0,rfl⟩:∃v0,vs=[v0]:=match vs,hl with| [v],_=>⟨v,rfl⟩
obtain⟨u0,rfl,r0⟩:=q3O r
have lim:s.heap.NoLimit:=e0.mod.nolimit.keeps λb o e=>(e0.bs b o e).1
obtain⟨hf1,hc1⟩:=hf _ _ _ _ hsp
refine kla_callFunE hr.depth (qFA e0.hok hf1) rfl S.co S.gen rfl (qFB e0.hok hc1) (hb _ _ _ _ ?_)
refine pQ S.nocell (λy hy=>?_) (λh' hn hs=>?_) S.kind
·obtain rfl:y=(x0,u0):=by simpa using hy
 exact S.par
have hk:∀b o,s.heap.get? b=some o→h'.get? b=some o:=λb o e=>by have:=hs.2 b (kW (kF e));rw[this];exact hR _ e
refine⟨lim.keeps hk,kla_codeExpr ?_⟩
obtain⟨t,ht,hq⟩:=hbody A outer s H v0 Q E (hr.deeper _) hsp
have noA:∀b:Addr,b∉(qBS CX P w K mg base (x0::clos.map (·.1)) qual scope clos f (.ref c) A outer s H E).ex:=λb z=>absurd (show b∈([]:List Addr)from z) (by simp)
have cat:∀y d,clos.lookup y=some d→∃u,base.IsCell d (some u):=λy d e=>by obtain⟨j,hj,ej⟩:=List.getElem_of_mem (mV e);obtain⟨_,_,v,u,_,_,hu⟩:=S.at' j y d (kD.mpr ⟨hj,ej⟩);exact⟨u,hu⟩
have I:Inv (qBS CX P w K mg base (x0::clos.map (·.1)) qual scope clos f (.ref c) A outer s H E) [] (some v0::fvs.map some) H { s with heap:=h',toks:=s.toks + [(x0,u0)].length }:=by
 refine⟨⟨e0.mod,S.kind,rfl,rfl,kB _,S.inj,λy hy=>?_,λy c z _=>absurd (show false=true from z) (by decide),λ_=>hr.hd,pN e0.frames,.inr ⟨rfl,rfl⟩,λb z=>absurd z (noA b),e0.bs,e0.bsz,λb _ _=>noA b,λb z=>absurd z (noA b),e0.funs,e0.frf⟩,rfl,e0.bare,Un.kept hk,⟨_,hn,λi y v h1 h2 h3=>?_⟩,λy d e=>?_,e0.hok.fresh (kB _),λy d e=>?_,λp hp=>absurd (show p∈([]:List (Addr×Obj))from hp) (by simp),e0.hok.kept hk,?_⟩
 ·have hy:scope.names.lookup y=some .cell∨scope.names.lookup y=some .free:=hy;rcases hy with hy|hy
  ·exact absurd rfl (S.nocell _ (mV hy))
  exact S.free y hy
 ·cases i with
  |zero=>obtain rfl:=kH h1;obtain rfl:=kH (kH h2);refine⟨u0,r0,.inl ⟨S.par,?_⟩⟩;show([(x0,u0)]:List (Str×Value)).reverse.lookup x0=some u0;simp
  |succ j=>have h1:(clos.map (·.1))[j]?=some y:=h1;have h2:(fvs.map some)[j]?=some (some v):=h2;rw[mG]at h1 h2;obtain⟨⟨y',d⟩,hd,rfl⟩:=mP.mp h1;obtain⟨v',hv,ev⟩:=mP.mp h2;obtain rfl:=kH ev;obtain⟨a1,a2,v2,u,a3,a4,a5⟩:=S.at' j _ d hd;rw[hv]at a3;obtain rfl:=kH a3;exact⟨u,a4,.inr ⟨.inr a1,d,a2,a5.keeps λb o e=>hk b o (e0.bs b o e).1⟩⟩
 ·obtain⟨u,hu⟩:=cat y d e;exact⟨_,hu.keeps λb o e=>hk b o (e0.bs b o e).1⟩
 ·obtain⟨u,o,ho,_⟩:=cat y d e;exact(e0.bs _ _ ho).2
 show(some v0::fvs.map some).length=(x0::clos.map (·.1)).length;rw[kX,kX,h8,h8,S.len]
exact gB (ht [] _ _ H _ I hq) (λu s' ⟨v,H',J,rv,q⟩=>⟨v,H',J.os,J.bare,J.base,J.hok,rv,q⟩) λe s' hs=>hs)
theorem qD4{scope:Scope}{env:Env}(h:(scope.names.all λy=>decide (y.2≠ .free)||(env.cells.lookup y.1).isSome)=true):closureFor scope env=pure (clOf env scope.names []):=q3Z λy hy hf=>by(
 have q:=dE.mp h y hy;rw[gL,kI]at q;rcases q with q|q
 ·exact absurd hf q
 exact dR.mp q)
theorem qA4{scope:Scope}{x0 y:Str}{ca:Addr}{v:V}{u:Value}{base:Heap}(hk:scope.kind=.function)(hco:scope.isCoroutine=false)(hg:scope.isGenerator=false)(hp:scope.names.lookup x0=some .local)
 (hn:(scope.names.all λz=>decide (z.2≠ .cell)&&(decide (z.2≠ .free)||decide (z.1=y)))=true) (hf:scope.names.lookup y=some .free) (r:RelV v u) (hc:base.IsCell ca (some u)):LamSc scope x0 [(y,ca)] [v] base:=by(
have at1:∀z∈scope.names,z.2≠ .cell∧(z.2≠ .free∨z.1=y):=λz hz=>by have q:=dE.mp hn z hz;rw[kO,gL,kI,kI,kI]at q;exact q
have lk:([(y,ca)]:List (Str×Addr)).lookup y=some ca:=by simp
have one:∀x c,([(y,ca)]:List (Str×Addr)).lookup x=some c→x=y∧c=ca:=λx c e=>by have m:=mV e;simpa using m
refine⟨hk,hco,hg,hp,λz hz=>(at1 z hz).1,λz hz=>?_,λa b c h1 h2=>?_,λj x c h=>?_,rfl⟩
·have m:=(at1 _ (mV hz)).2;rcases m with m|m
 ·exact absurd rfl m
 exact⟨ca,by rw[show z=y from m];exact lk⟩
·rw[(one _ _ h1).1,(one _ _ h2).1]
match j,h with
|0,h=>
 obtain⟨rfl,rfl⟩:y=x∧ca=c:=by simpa using h
 exact⟨hf,lk,v,u,rfl,r,hc⟩
|j+1,h=>exact absurd h (by simp))
theorem q7I{env:Env}{names:List (Str×NameKind)}{y:Str}{ca:Addr}(e:env.cells.lookup y=some ca)(h:clOf env names []=match env.cells.lookup y with|some a=>[(y,a)] |none=>[]):clOf env names []=[(y,ca)]:=by rw[h,e]
noncomputable def qFC(T:Addr)(pos:Pos)(qual:Str)(params:Arguments)(body:Expr)(scope:Scope)(clos:List (Str×Addr))(pm:Value):TE:=λσ H Q=>∃ps c',H T=some (.tbl ps)∧TriplesOk ps.toList∧codeAmong pos ps.toList=some (.ref c')∧∀(f:Addr) (ctv:Value),H f=none→Q (.ref f) (upd H f (fnO f (kla_fn "<lambda>" qual params body scope clos pm (.ref c') ctv)))
theorem qBT{X:Cx}{c T:Addr}{params:Arguments}{body:Expr}{scope:Scope}{pos:Pos}{clos:List (Str×Addr)}(hcode:X.env.code=.ref c)(hcd:codeHdIn X.K c T=true)(B:BmIn X.base X.mg)(hcl:closureFor scope X.env=pure clos)(hdef:defaultsOf params X.env=([],[])):
 PE X (.Lambda params body scope pos) (qFC T pos (X.env.qual++"<lambda>") params body scope clos ((X.mg "__name__").getD .none)):=by(
intro pins s σ H Q I hZ
obtain⟨ps,c',hT,ht,hnf,q⟩:=hZ
have hP:s.heap.get? T=some (tabObj ps):=I.hok T _ hT
have hgs:s.heap.Ns mainGlobals X.mg:=I.ok.mod.glob.keeps I.bk
obtain⟨bm,ob,b1,b2,b3,b4,b5,b6⟩:=B
have b3':=I.bk _ _ b3
have hbP:bm≠T:=λz=>by rw[z,hP]at b3';cases b3';cases b4
have hbG:bm≠mainGlobals:=λz=>by obtain⟨o,es,ep,e,hd,_⟩:=hgs;rw[z,e]at b3';cases b3';rw[hd]at b6;cases b6
refine kla_eval hdef (kla_makeFunctionHit (clos:=clos) hcl I.ok.glob hgs hcode (nQ I.kIn hcd) hP ht hnf ⟨bm,ob,b1,b2,hbG,hbP,b3',b4,b5,b6⟩ λctv h' tk hx sz=>?_)
have trk:∀b u,s.heap.get? b=some u→∀o,(h'.push o).get? b=some u:=λb u e o=>hR _ (hx b u e)
have nF:H h'.objs.size=none:=I.hok.fresh sz
refine⟨.ref h'.objs.size,_,?_,rfl,q _ ctv nF⟩
refine I.un (t':=tk) ⟨λb o e n _ _=>trk b o e _,λb o e n _ _=>⟨o.slots,trk b o e _⟩,λb o e n _=>?_,λb o e _=>⟨o,trk b o e _⟩,λb xs e=>?_,λb o u e=>?_,λb qs e=>?_⟩ λb u e=>?_
·rw[qD (kW (kQ (kF e) sz))];exact n
·rw[qD (qF e nF)];exact e
·rw[qD (qF e nF)];exact e
·exact⟨#[],by rw[qD (qF e nF),e];simp⟩
by_cases z3:b=h'.objs.size
·subst z3;rw[qJ]at e;cases e;exact qBR (kU _ rfl)
rw[qD z3]at e
refine(I.hok b u e).stay (λd v hd r=>trk d v r _) (λd r=>?_) λd xs r=>?_
·rw[qD (qF r nF)];exact r
rw[qD (qF r nF)];exact r)
noncomputable def qGK(T:Addr)(pos:Pos)(qual:Str)(params:Arguments)(body:Expr)(scope:Scope)(clos:List (Str×Addr))(pm:Value):TE:=λσ H Q=>∃ps,H T=some (.tbl ps)∧TriplesOk ps.toList∧((codeAmong pos ps.toList=none∧∀(f c':Addr) (ctv:Value) (H':Hp),H f=none→H' f=some (fnO f (kla_fn "<lambda>" qual params body scope clos pm (.ref c') ctv))→H' c'=some (cdO c' qual)→H' T=some (.tbl (ps++#[rawInt pos.line,rawInt pos.col,.ref c']))→(∀b o,b≠T→H b=some o→H' b=some o)→Q (.ref f) H')∨∃c',codeAmong pos ps.toList=some (.ref c')∧∀(f:Addr) (ctv:Value) (H':Hp),H f=none→H' f=some (fnO f (kla_fn "<lambda>" qual params body scope clos pm (.ref c') ctv))→Same H H'→Q (.ref f) H')
theorem qD5{X:Cx}{c T:Addr}{params:Arguments}{body:Expr}{scope:Scope}{pos:Pos}{clos:List (Str×Addr)}(hcode:X.env.code=.ref c)(hcd:codeHdIn X.K c T=true)(B:BmIn X.base X.mg)(hcl:closureFor scope X.env=pure clos)(hdef:defaultsOf params X.env=([],[])):
 PE X (.Lambda params body scope pos) (qGK T pos (X.env.qual++"<lambda>") params body scope clos ((X.mg "__name__").getD .none)):=λpins s σ H Q I ⟨ps,hT,ht,h⟩=>by(
rcases h with⟨hn,q⟩|⟨c',hn,q⟩
·exact qD2 hcode hcd B hcl hdef pins s σ H Q I ⟨ps,hT,ht,hn,λf c' ctv nf nc fc=>q f c' ctv _ nf qJ (by rw[qD fc.symm];exact qJ) (by rw[qD (qF hT nf),qD (qF hT nc)];exact qJ) λb o nb e=>by rw[qD (qF e nf),qD (qF e nc),qD nb];exact e⟩
exact qBT hcode hcd B hcl hdef pins s σ H Q I ⟨ps,c',hT,ht,hn,λf ctv nf=>q f ctv _ nf qJ (Same.upd nf)⟩)
theorem qD6{X:Cx}{CX:CXT}{k:Nat}{f:Addr}{fd:FuncData}{ps:List Str}{sp:Heap→Sp}{dvs:List V}{ds:List Value}{E:XK}{pins:List (Addr×Obj)}{σ:St}{H:Hp}{s:Shared}{Q:VK}{us:List Value}{vs:List V}(ix:List (Nat×Str))
 (hix:∀p∈ix,X.N[p.1]?=some p.2∧X.env.scope.names.lookup p.2=some .cell∧X.fn p.2=true)
 (F:∀base',(∀b o,X.base.get? b=some o→base'.get? b=some o)→q44 X.env.cells σ base' ix→FnOk X.prog X.w X.K X.mg base' CX k f fd ps (sp base')) (hr:Room k X.A) (hb:jO X.K fd ps ds) (hd:Vals dvs ds) (hx:uF CX X E)
 (I:Inv X pins σ H s) (r:Vals vs us) (h:∀base',(∀b o,X.base.get? b=some o→base'.get? b=some o)→q44 X.env.cells σ base' ix→sp base' (vs++dvs) H Q E):wpAny (model X.prog X.w) X.A (call (.ref f) us) (EP X pins σ Q) X.xe s:=by(
have r2:Vals (vs++dvs) (us++ds):=r.append hd
obtain⟨e0,up,cel⟩:=I.env0C (ix.filterMap λp=>X.env.cells.lookup p.2) (λc hc=>by obtain⟨p,hp,e⟩:=r9.mp hc;exact⟨p.2,(hix p hp).2.2,e⟩)
have cv:q44 X.env.cells σ (hidT s.heap (uL X.base (ix.filterMap λp=>X.env.cells.lookup p.2))) ix:=λp hp v hv=>by
 obtain⟨h1,h2,h3⟩:=hix p hp;obtain⟨m,_,hl⟩:=I.loc;obtain⟨u,ru,lk⟩:=hl p.1 p.2 v h1 hv (.inr (.inl h2));rcases lk with⟨z,_⟩|⟨_,c,hc,o,ho,hd⟩
 ·have z:X.env.scope.names.lookup p.2=some .local:=z;rw[h2]at z;cases z
 exact⟨c,u,hc,ru,o,cel c (r9.mpr ⟨p,hp,hc⟩) o ho,hd⟩
have q:=h _ up cv
have hl:(us++ds).length=ps.length:=by rw[←r2.length];exact(F _ up cv).len _ _ _ _ q
refine dQ (rA ((F _ up cv).run X.A X.stack s H ⟨us,[]⟩ (us++ds) (vs++dvs) Q E hr e0 (hb s us I.kIn hl) r2 q) λr s' hq=>?_)
cases r with
|error e=>exact hx pins σ H s e s' I hq
|ok fl=>
 cases fl with
 |ret u=>exact I.after hq
 |next=>exact False.elim hq
 |brk=>exact False.elim hq
 |cont=>exact False.elim hq)
section
variable{X:Cx}{pins:List (Addr×Obj)}{σ:St}{H:Hp}{s:Shared}
theorem qA5{P:PySem.Fin→Shared→Prop}{EE:Value→Shared→Prop}{a f:Addr}{n:Nat}{vs:List Value}{us:List V}(I:Inv X pins σ H s)
 (ho:s.heap.get? a=some (seqObj "list" vs.toArray n)) (fa:FpOk X pins H a) (ha:X.s₀.heap.objs.size≤a) (rv:Vals us vs) (h64:us.length<64)
 (Pv:Nat→List V→Hp→Prop) (h0:Pv 0 [] H) (hs:∀i x zs H' pins' s' u,us[i]?=some x→RelV x u→Pv i zs H'→Inv { X with A:=X.A.in1.in1,xe:=λ_ _=>False } pins' σ H' s'→wpAny (model X.prog X.w) X.A.in1.in1 (call (.ref f) [u]) (EP { X with A:=X.A.in1.in1,xe:=λ_ _=>False } pins' σ (λz H''=>Pv (i+1) (zs++[z]) H'')) (λ_ _=>False) s')
 (hd:∀zs H',H' a=none→zs.length=us.length→Pv us.length zs H'→∃kk m,Paired (TupI X.K H') zs kk∧(∀k∈kk,k.length=m)∧0<m∧∀q:List Nat,q.Perm (List.range us.length)→(q.map λi=>kk.getD i []).Pairwise (λa b=>lx b a=false)→∀s',Inv X pins σ (upd H' a (.lst (q.map λi=>us.getD i .non))) s'→P (.done (.ret .none)) s'):
 wpAny (model X.prog X.w) X.A.in1.in1 (ksk_tree a (.ref f) false) P EE s:=by(
have hal:a<s.heap.objs.size:=kF ho
have hl:=rv.length
obtain⟨e1,g1⟩:∃e1,(s.heap.update a (Obj.mapSeq λ_=>(#[]:Array Value))).get? a=some (seqObj "list" #[] e1):=⟨_,pE ho λ_=>#[]⟩
unfold ksk_tree
refine hI (listItems_at ho rfl (hI (cU ho rfl (hI (seqEpoch_at g1 rfl ?_)) (by rw[kL,mT];lia) (mO _))))
refine hI (wpAny_newTuple (hI (p7 (gO ?_) (mO _))) (by show vs.length≤_;rw[mT];lia))
have hks:((s.heap.update a (Obj.mapSeq λ_=>(#[]:Array Value))).push (seqObj "tuple" vs.toArray 0)).objs.size=s.heap.objs.size+1:=by rw[lA,nP]
obtain⟨kS,eks⟩:∃kS:Addr,kS=((s.heap.update a (Obj.mapSeq λ_=>(#[]:Array Value))).push (seqObj "tuple" vs.toArray 0)).objs.size:=⟨_,rfl⟩
have ksz:s.heap.objs.size≤kS:=by rw[eks,hks];exact dA _
have ne:kS≠a:=dN (kQ hal ksz)
show wpAny (model X.prog X.w) X.A.in1.in1 (ksk_rest a (.ref f) false vs.toArray e1 (.ref ((s.heap.update a (Obj.mapSeq λ_=>(#[]:Array Value))).push (seqObj "tuple" vs.toArray 0)).objs.size)) P EE { s with heap:=((s.heap.update a (Obj.mapSeq λ_=>(#[]:Array Value))).push (seqObj "tuple" vs.toArray 0)).push (seqObj "list" #[] 0) }
rw[←eks]
have gk0:(((s.heap.update a (Obj.mapSeq λ_=>(#[]:Array Value))).push (seqObj "tuple" vs.toArray 0)).push (seqObj "list" #[] 0)).get? kS=some (seqObj "list" #[] 0):=by rw[eks];exact kU _ rfl
have ga0:=hR (seqObj "list" #[] 0) (hR (seqObj "tuple" vs.toArray 0) g1)
have I0:Inv X pins σ H { s with heap:=((s.heap.update a (Obj.mapSeq λ_=>(#[]:Array Value))).push (seqObj "tuple" vs.toArray 0)).push (seqObj "list" #[] 0),toks:=s.toks }:=I.turnedN (fp:=[a]) (λb o hb' e=>hR _ (hR _ ((mB _ _ (λz=>hb' (kN.mpr z.symm))).trans e))) (λb hb'=>by rw[kN.mp hb'];exact fa)
have fk0:FpOk X pins H kS:=I.fpOk ksz (I.hok.fresh ksz)
have fp:∀{H':Hp} {b:Addr},FpOk X pins H b→H' b=none→FpOk X pins H' b:=λf e=>⟨e,f.2⟩
unfold ksk_rest
refine hI (wpAny_rule ?_)
first
 |rw[List.forIn_toArray]
 |(rw[←Array.forIn_toList];simp only[List.toList_toArray])
refine hI (ksk_fold (I:=λi s'=>∃H' zs ks e,Inv X pins σ H' s'∧s'.heap.get? a=some (seqObj "list" #[] e1)∧s'.heap.get? kS=some (seqObj "list" (List.toArray ks) e)∧Vals zs ks∧zs.length=i∧Pv i zs H'∧H' a=none∧H' kS=none) vs 0 _ ⟨H,[],[],0,I0,ga0,gk0,.nil,rfl,h0,fa.1,fk0.1⟩ (λj x s' hx hJ=>?_) λs' hJ=>?_)
·obtain⟨H',zs,ks,e,I1,ga,gk,rz,lz,pv,na,nk⟩:=hJ;rw[Nat.zero_add]at lz pv ⊢;have hj:j<vs.length:=(kD.mp hx).1;obtain⟨y,ey,ry⟩:=rv.atN (j:=j) hj;obtain rfl:vs[j]=x:=(kD.mp hx).2;have I2:=(I1.near (A':=X.A.in1.in1) rfl rfl λ_ _=>False).pinned (fp:=[a,kS]) (λb hb'=>by
  simp only[kG,mC,gS]at hb';rcases hb' with rfl|rfl
  ·exact fp fa na
  ·exact fp fk0 nk) (λb hb'=>by
  simp only[kG,mC,gS]at hb';rcases hb' with rfl|rfl
  ·exact⟨_,ga,λv z=>by cases z⟩
  exact⟨_,gk,λv z=>by cases z⟩)
 refine hI (cT (gB (hs j y zs H' _ _ _ ey ry pv I2) (λu s'' hq=>?_) λ_ _ z=>z.elim));obtain⟨z,H'',I3,ru,q⟩:=hq;have pa:=I3.pin (a,seqObj "list" #[] e1) (kP _ (kP _ (uE (by simp) ga)));have pk:=I3.pin (kS,seqObj "list" (List.toArray ks) e) (kP _ (kP _ (uE (by simp) gk)));have lk:=rz.length;have ea:(List.toArray ks).push u=List.toArray (ks++[u]):=by simp
 obtain⟨c2,g2⟩:∃c2,(s''.heap.update kS (Obj.mapSeq (·.push u))).get? kS=some (seqObj "list" (List.toArray (ks++[u])) c2):=⟨_,by rw[←ea];exact pE pk.1 (·.push u)⟩;try dsimp only
 refine hI (cU pk.1 rfl ?_ (by rw[kL,mT];lia) (kY (wE (Array.size_push ..)) (by rw[kL,mT];lia)));have I4:Inv X pins σ H'' s'':=(I3.unpinned).near (A':=X.A) rfl rfl X.xe;have I5:Inv X pins σ H'' { s'' with heap:=s''.heap.update kS (Obj.mapSeq (·.push u)),toks:=s''.toks }:=I4.turnedN (fp:=[kS]) (λb o hb' e=>(mB _ _ (λz=>hb' (kN.mpr z.symm))).trans e) (λb hb'=>by rw[kN.mp hb'];exact fp fk0 pk.2.1);exact kJ ⟨rfl,H'',zs++[z],ks++[u],c2,I5,(mB _ _ ne).trans pa.1,g2,rz.append (.cons ru .nil),by rw[kZ,lz];rfl,q,pa.2.1,pk.2.1⟩
obtain⟨H',zs,ks,e,I1,ga,gk,rz,lz,pv,na,nk⟩:=hJ
rw[Nat.zero_add,←hl]at lz pv
obtain⟨kk,m,hti,hw,hm,fin⟩:=hd zs H' na lz pv
try dsimp only
refine hI (listItems_at gk rfl ?_)
exact qCZ I1 (fp fa na) (fp fk0 nk) ha ne ga gk rz rv lz h64 hti hw hm fin)
end
noncomputable def oneQ(R:V→Hp→Prop):List V→Hp→Prop
| [v],H=>R v H
|_,_=>False
theorem qD7{R:V→Hp→Prop}:∀{xs:List V} {H:Hp},oneQ R xs H→∃v,xs=[v]∧R v H
| [v],_,h=>⟨v,rfl,h⟩
| [],_,h=>h.elim
|_::_::_,_,h=>h.elim
noncomputable def tSL(P:Program)(w:World)(K:PySem.W.Frag)(mg:Str→Option Value)(base:Heap)(cells:List (Str×Addr))(ix:List (Nat×Str))(k:Nat)(x:Str)(tl:TE)(ta:TA):TE:=λσ H Q=>ta σ H λvs H1=>tl σ H1 λfv H2=>∃(f:Addr) (fd:FuncData) (sp:Heap→Sp),fv=.ref f∧(∀base',(∀b o,base.get? b=some o→base'.get? b=some o)→q44 cells σ base' ix→FnOk P w K mg base' CX0 k f fd [x] (sp base'))∧jO K fd [x] []∧∃(l:Addr) (us:List V) (Pv:Nat→List V→Hp→Prop),vs=[.ref l]∧SqL K H2 l us∧us.length<64∧Pv 0 [] H2∧(∀base' i x zs H',q44 cells σ base' ix→us[i]?=some x→Pv i zs H'→sp base' [x] H' (λz H''=>Pv (i+1) (zs++[z]) H'') E0)∧∀zs H',zs.length=us.length→Pv us.length zs H'→∃kk m,Paired (TupI K H') zs kk∧(∀k∈kk,k.length=m)∧0<m∧∀q:List Nat,q.Perm (List.range us.length)→(q.map λi=>kk.getD i []).Pairwise (λa b=>lx b a=false)→NewO H' (.lst (q.map λi=>us.getD i .non)) Q
theorem q8J{X:Cx}{k:Nat}{x:Str}{e le:Expr}{tl:TE}{ta:TA}{p kp pos:Pos}(ix:List (Nat×Str))(hix:∀p∈ix,X.N[p.1]?=some p.2∧X.env.scope.names.lookup p.2=some .cell∧X.fn p.2=true)(hr:Room (k+2) X.A)(hg:Gl X "sorted")(hm:X.mg "sorted"=none)(hl:PE X le tl)(ha:PA X [e] ta)
 (he:starEach [e] X.env=[(false,eval e X.env)]:=by rfl) (hse:starEach ([]:List Expr) X.env=[]:=by rfl):
 PE X (.Call (.Name "sorted" p) [e] [⟨some "key",le,kp⟩] pos) (tSL X.prog X.w X.K X.mg X.base X.env.cells ix k x tl ta):=by(
intro pins s σ H Q I h
refine gM (q2G I hg hm (u:=.builtin "sorted") (by kernel_rfl) ?_ (by decide) (by decide))
refine callWith_kw (thn (ha pos pins s σ H _ I h) λus s1 ⟨vs,H1,I1,r1,q1⟩=>?_) (by rw[he,hse];rfl) (by rw[he];rfl)
have pk:PK X [⟨some "key",le,kp⟩] (qAQ tl tNil):=qC6 hl qE4
refine thn (pk pos pins s1 σ H1 (oneQ _) I1 q1) λws s2 hZ=>?_
obtain⟨xs,H2,I2,r2,q2⟩:=hZ
obtain⟨v,rfl,f,fd,sp,rfl,F,hb,q2⟩:=qD7 q2
obtain⟨w,rfl,rw⟩:=q3O r2
obtain rfl:w=Value.ref f:=rw
obtain⟨l,us',Pv,ev,hq,h64,p0,hs,hd⟩:=q2
subst ev
obtain⟨u,rfl,ru⟩:=q3O r1
obtain rfl:u=Value.ref l:=ru
obtain⟨its,rv,pl,hz⟩:=I2.list hq
have hlen:=rv.length
show wpAny (model X.prog X.w) X.A (call (.builtin "sorted") [.ref l] [(Str.ofString "key",.ref f)]) _ _ _
refine call_function_entry_kw kind_sorted plain_sorted entry_sorted (ksk_s1 _ _) ?_
unfold Builtin.«sorted»
refine hI (m:=checkCount "sorted" 1 1 _) (kJ (hI (collect_list pl.isList (hI (p7 ?_ (by rw[mT];show its.length≤_;lia))))))
have hsz:((s2.heap.push (seqObj "list" #[] 0)).update s2.heap.objs.size (Obj.mapSeq (· ++its.toArray))).objs.size=s2.heap.objs.size+1:=by rw[nP,lA]
have g:(((s2.heap.push (seqObj "list" #[] 0)).update s2.heap.objs.size (Obj.mapSeq (· ++its.toArray))).push (seqObj "list" its.toArray 0)).get? (s2.heap.objs.size+1)=some (seqObj "list" its.toArray 0):=by rw[←hsz];exact kU _ rfl
show wpAny _ _ _ _ _ { s2 with heap:=((s2.heap.push (seqObj "list" #[] 0)).update s2.heap.objs.size (Obj.mapSeq (· ++its.toArray))).push (seqObj "list" its.toArray 0) }
rw[hsz]
have I3:Inv X pins σ H2 { s2 with heap:=((s2.heap.push (seqObj "list" #[] 0)).update s2.heap.objs.size (Obj.mapSeq (· ++its.toArray))).push (seqObj "list" its.toArray 0),toks:=s2.toks }:=I2.kept (t':=s2.toks) λb o e=>hR _ ((mB _ _ (dN (kF e))).trans (hR _ e))
refine hI (gO (wpAny_call_entry_kw slot_list_sort ⟨_,g,rfl⟩ entry_list_sort ?_ (ksk_l1 _ _)))
rw[ksk_t1]
have fr:s2.heap.objs.size≤s2.heap.objs.size+1:=dA _
refine qA5 I3 g (I2.fpOk fr (I2.hok.fresh fr)) (kY I2.sz fr) rv h64 Pv p0 (λi x zs H' pins' s' u hx rx pv I'=>qD6 (X:={ X with A:=X.A.in1.in1,xe:=λ_ _=>False }) (dvs:=[]) (ds:=[]) (E:=E0) ix hix F hr.in1.in1 hb .nil qK I' (.cons rx .nil) (λbase' up cv=>hs base' i x zs H' cv hx pv)) λzs H' na lz pv=>?_
obtain⟨kk,m,a1,a2,a3,a4⟩:=hd zs H' lz pv
refine⟨kk,m,a1,a2,a3,λq b1 b2 s' I'=>⟨_,rfl,kJ ⟨_,rfl,.ref _,_,I',rfl,(a4 q b1 b2).at _ na⟩⟩⟩)
end L2
namespace W1
open PySem L2
structure QM where
P:Nat
B:Nat
nx:Int
V:Mp
lv:List Int
fi:List Int
bo:List Int
namespace QM
structure Ok(m:QM):Prop where
p1:1≤m.P
p2:m.P≤16
b2:m.B≤16
ll:m.lv.length=m.B
lf:m.fi.length=m.B
lo:m.bo.length=m.B
nd:(m.V.map (·.1)).Nodup
nm:∀q∈m.V,0≤q.1∧q.1≤64
blk:∀q∈m.V,∃b:Nat,b<m.B∧q.2 / (m.P:Int)=(b:Int)
wr:∀b,b<m.B→∃f:Nat,m.fi.getD b 0=(f:Int)∧f≤m.P
variable{m:QM}
theorem Ok.lenV(h:m.Ok):m.V.length≤65:=by
 have:=qBN (l:=m.V.map (·.1)) (m:=(List.range 65).map λi:Nat=>(i:Int)) h.nd λx hx=>by obtain⟨q,hq,rfl⟩:=mH.mp hx;have:=h.nm q hq;exact mH.mpr ⟨q.1.toNat,mZ.mpr (by lia),by lia⟩
 rw[h8,h8,gI]at this;exact this
noncomputable def forget(m:QM)(n:Int):QM:={ m with V:=jG m.V n,lv:=BM.lvF m.P m.V m.lv n }
theorem find_V{n:Int}:(∃p,(n,p)∈m.V∧m.V.find? (λq=>decide (q.1=n))=some (n,p))∨((∀q∈m.V,q.1≠n)∧m.V.find? (λq=>decide (q.1=n))=none):=by(
cases e:m.V.find? (λq=>decide (q.1=n))with
|none=>refine .inr ⟨λq hq z=>?_,rfl⟩;have:=cL.mp e q hq;exact this (hW z)
|some q=>
 have h1:q.1=n:=by have:=nW e;simpa using this
 have h2:=cP e;refine .inl ⟨q.2,by rw[←h1];exact h2,by rw[←h1]⟩)
theorem q9A{n:Int}:(BM.lvF m.P m.V m.lv n).length=m.lv.length:=by(
unfold BM.lvF
split
·rw[m7]
rfl)
theorem Ok.forget(h:m.Ok)(n:Int):(m.forget n).Ok:={ h with ll:=by show(BM.lvF m.P m.V m.lv n).length=m.B;rw[q9A];exact h.ll,nd:=v9 h.nd,nm:=λq hq=>h.nm q (qU.mp hq).1,blk:=λq hq=>h.blk q (qU.mp hq).1 }
noncomputable def put(m:QM)(b f:Nat)(n:Int):QM:={ m with V:=jG m.V n++[(n,((b*m.P+f:Nat):Int))],lv:=(BM.lvF m.P m.V m.lv n).set b ((BM.lvF m.P m.V m.lv n).getD b 0+1),bo:=if m.fi.getD b 0=0 then m.bo.set b m.nx else m.bo,fi:=m.fi.set b (m.fi.getD b 0+1),nx:=m.nx+1 }
theorem Ok.put(h:m.Ok){b f:Nat}{n:Int}(hb:b<m.B)(hf:f<m.P)(ef:m.fi.getD b 0=(f:Int))(n0:0≤n)(n1:n≤64):(m.put b f n).Ok where
p1:=h.p1
p2:=h.p2
b2:=h.b2
ll:=by show(List.set _ _ _).length=m.B;rw[m7,q9A];exact h.ll
lf:=by show(List.set _ _ _).length=m.B;rw[m7];exact h.lf
lo:=by
 show(if m.fi.getD b 0=0 then m.bo.set b m.nx else m.bo).length=m.B;split
 ·rw[m7];exact h.lo
 exact h.lo
nd:=by
 show((jG m.V n++[(n,((b*m.P+f:Nat):Int))]).map (·.1)).Nodup;rw[mI];refine rL.mpr ⟨v9 h.nd,by simp,λa ha c hc=>?_⟩;obtain⟨q,hq,rfl⟩:=mH.mp ha;have hc:c=n:=by simpa using hc
 rw[hc];exact(qU.mp hq).2
nm:=λq hq=>by
 rcases mS.mp hq with hq|hq
 ·exact h.nm q (qU.mp hq).1
 rw[kN.mp hq];exact⟨n0,n1⟩
blk:=λq hq=>by
 rcases mS.mp hq with hq|hq
 ·exact h.blk q (qU.mp hq).1
 rw[kN.mp hq];refine⟨b,hb,?_⟩;show((b*m.P+f:Nat):Int) / (m.P:Int)=_;rw[←wM,q0Y hf]
wr:=λc hc=>by
 show ∃g:Nat,(m.fi.set b (m.fi.getD b 0+1)).getD c 0=(g:Int)∧g≤m.P;rw[qBM];split
 ·exact⟨f+1,by rw[ef];rfl,hf⟩
 exact h.wr c hc
end QM
noncomputable def vn(b:Nat):V:=.int (b:Int)
noncomputable def jK(B:Nat)(br:List Bool):List Nat:=(List.range B).filter λb=>!(br.getD b false)
noncomputable def yO(B:Nat)(br:List Bool)(fi:List Int):List Nat:=(jK B br).filter λb=>decide (fi.getD b 0=0)
noncomputable def keyN(cl:List Int)(b:Nat):List Int:=[cl.getD b 0,(b:Int)]
structure FreeIs(B:Nat)(br:List Bool)(cl fi:List Int)(l:List Nat):Prop where
pm:l.Perm (yO B br fi)
so:(l.map (keyN cl)).Pairwise λa b=>lx b a=false
theorem vA{B:Nat}{br:List Bool}{b:Nat}:b∈jK B br↔b<B∧br.getD b false=false:=by unfold jK;rw[gQ,mZ,wI]
theorem q2L{B:Nat}{br:List Bool}{fi:List Int}{b:Nat}:b∈yO B br fi↔(b<B∧br.getD b false=false)∧fi.getD b 0=0:=by unfold yO;rw[gQ,vA,kI]
theorem q7J{B:Nat}{br:List Bool}:(jK B br).length≤B:=kY (mL _ _) (by rw[gI];exact kB _)
theorem qA6{B:Nat}{br:List Bool}{fi:List Int}:(yO B br fi).length≤B:=kY (mL _ _) q7J
theorem FreeIs.mem{B:Nat}{br:List Bool}{cl fi:List Int}{l:List Nat}(h:FreeIs B br cl fi l){b:Nat}(hb:b∈l):b<B∧br.getD b false=false∧fi.getD b 0=0:=by have:=q2L.mp (h.pm.mem_iff.mp hb);exact⟨this.1.1,this.1.2,this.2⟩
noncomputable def q09(P:Nat)(fi:List Int)(b:Nat):Bool:=decide (0<fi.getD b 0)&&decide (fi.getD b 0<(P:Int))
noncomputable def uV(B P:Nat)(br:List Bool)(fi:List Int):Option Nat:=(jK B br).find? (q09 P fi)
theorem q1G{B P:Nat}{br:List Bool}{fi:List Int}{b:Nat}(h:uV B P br fi=some b):b<B∧br.getD b false=false∧0<fi.getD b 0∧fi.getD b 0<(P:Int):=by(
have h1:=vA.mp (cP h)
have h2:=nW h
unfold q09 at h2
rw[kO,kI,kI]at h2
exact⟨h1.1,h1.2,h2.1,h2.2⟩)
noncomputable def q2V(B P:Nat)(br:List Bool)(fi:List Int)(l:List Nat):Option Nat:=match uV B P br fi with
|some b=>some b
|none=>l.head?
theorem q45{B P:Nat}{br:List Bool}{cl fi:List Int}{l:List Nat}(hl:FreeIs B br cl fi l)(hP:1≤P){b:Nat}(h:q2V B P br fi l=some b):b<B∧br.getD b false=false∧0≤fi.getD b 0∧fi.getD b 0<(P:Int):=by(
unfold q2V at h
split at h
·rename_i b' e;cases h;have:=q1G e;exact⟨this.1,this.2.1,by lia,this.2.2.2⟩
cases l with
|nil=>cases h
|cons c r=>cases h;have:=hl.mem kM;exact⟨this.1,this.2.1,by lia,by lia⟩)
noncomputable def pgV(P:Nat)(fi:List Int):Option Nat→V
|none=>.non
|some b=>.int ((b:Int)*(P:Int)+fi.getD b 0)
noncomputable def oV:Option Nat→V
|none=>.non
|some b=>.int (b:Int)
theorem q46{α β:Type}{L:List α}{f:α→β}{d:β}{e:α}:∀{q:List Nat},(∀i∈q,i<L.length)→(q.map λi=>(L.map f).getD i d)=(q.map λi=>L.getD i e).map f
| [],_=>rfl
|i::q,h=>by have hi:=h i kM;rw[k7,k7,k7,q46 (q:=q) λj hj=>h j (h9 _ hj)];congr 1;rw[hG,hG,mG,kE hi];rfl
theorem q8K{α:Type}{L:List α}{e:α}{q:List Nat}(h:q.Perm (List.range L.length)):(q.map λi=>L.getD i e).Perm L:=by(
have:=h.map λi=>L.getD i e
refine this.trans ?_
have eq:(List.range L.length).map (λi=>L.getD i e)=L:=by refine cX (by simp) λi h1 h2=>?_;rw[nO,sO,hG,kE h2];rfl
rw[eq])
theorem qD8{B:Nat}{br:List Bool}{cl fi:List Int}{q:List Nat}(h:q.Perm (List.range (yO B br fi).length))(so:(q.map λi=>((yO B br fi).map (keyN cl)).getD i []).Pairwise λa b=>lx b a=false):FreeIs B br cl fi (q.map λi=>(yO B br fi).getD i 0):=by(
have hin:∀i∈q,i<(yO B br fi).length:=λi hi=>mZ.mp (h.mem_iff.mp hi)
refine⟨q8K h,?_⟩
rw[q46 (e:=0) hin]at so
exact so)
theorem qA7{α β:Type}{L:List α}{f:α→β}{i:Nat}{x:α}(h:L[i]?=some x):(L.take (i+1)).map f=(L.take i).map f++[f x]:=by(
have hi:=(kD.mp h).1
obtain rfl:L[i]=x:=(kD.mp h).2
rw[←gA hi,mI]
rfl)
theorem qD9{a b:List Int}(h:lx a b=true):lx b a=false:=by(
cases z:lx b a with
|false=>rfl
|true=>have:=q06 a b a h z;rw[q8F]at this;cases this)
theorem qGL{a b c:List Int}(h1:lx b a=false)(h2:lx c b=false):lx c a=false:=by(
cases z:lx c a with
|false=>rfl
|true=>
 cases y:lx a b with
 |true=>have:=q06 c a b z y;rw[h2]at this;cases this
 |false=>have e:=q8G a b y h1;rw[e]at z;rw[h2]at z;cases z)
theorem FreeIs.ex(B:Nat)(br:List Bool)(cl fi:List Int):∃l,FreeIs B br cl fi l:=by(
refine⟨(yO B br fi).mergeSort λa b=>!(lx (keyN cl b) (keyN cl a)),List.mergeSort_perm _ _,?_⟩
have:=List.pairwise_mergeSort (le:=λa b=>!(lx (keyN cl b) (keyN cl a))) (λa b c h1 h2=>by
 rw[wI]at h1 h2 ⊢;exact qGL h1 h2) (λa b=>by
 cases z:lx (keyN cl b) (keyN cl a)with
 |false=>rfl
 |true=>rw[qD9 z];rfl) (yO B br fi)
rw[cR]
exact this.imp λh=>by rw[wI]at h;exact h)
theorem rep8{α:Type}{n i:Nat}{y:α}:(List.replicate n y).getD i y=y:=by rw[hG,gW];split<;>rfl
end W1
namespace W1
noncomputable def sumB(p:Nat→Bool):Nat→Nat
|0=>0
|n+1=>sumB p n+if p n then 2 ^ n else 0
theorem q5J(x:Nat):∀n,sumB x.testBit n=x%2 ^ n
|0=>by simp[sumB,Nat.mod_one]
|n+1=>by show sumB x.testBit n+(if x.testBit n then 2 ^ n else 0)=_;rw[q5J x n,Nat.pow_succ,Nat.mod_mul,Nat.testBit_eq_decide_div_mod_eq];have:=Nat.mod_two_eq_zero_or_one (x / 2 ^ n);rcases this with h|h<;>simp[h]
theorem q1H{p q:Nat→Bool}:∀n,(∀k,k<n→p k=q k)→sumB p n=sumB q n
|0,_=>rfl
|n+1,h=>by show sumB p n+ _=sumB q n+ _;rw[q1H n λk hk=>h k (by lia),h n (by lia)]
noncomputable def orB:List Nat→Nat→Nat
| [],b=>b
|s::r,b=>orB r (b|||2 ^ s)
theorem q7K(k:Nat):∀(l:List Nat) (b:Nat),(orB l b).testBit k=(b.testBit k||decide (k∈l))
| [],b=>by simp[orB]
|s::r,b=>by
 show(orB r (b|||2 ^ s)).testBit k=_;rw[q7K k r,Nat.testBit_or,Nat.testBit_two_pow];by_cases h:s=k
 ·simp[h]
 have:¬k=s:=λz=>h z.symm;simp[h,this]
theorem qBU(n:Nat):∀(l:List Nat) (b:Nat),b<2 ^ n→(∀s∈l,s<n)→orB l b<2 ^ n
| [],b,h,_=>h
|s::r,b,h,hs=>qBU n r _ (Nat.or_lt_two_pow h (Nat.pow_lt_pow_right (by decide) (hs s (kM ..)))) λx hx=>hs x (h9 _ hx)
theorem qDA{l:List Nat}{n:Nat}(h:∀s∈l,s<n):orB l 0=sumB (λk=>decide (k∈l)) n:=by(
have lt:=qBU n l 0 (Nat.two_pow_pos n) h
have:=q5J (orB l 0) n
rw[Nat.mod_eq_of_lt lt]at this
rw[←this]
exact q1H n λk _=>by rw[q7K];simp)
end W1
namespace L2
open PySem PySem.W PySem.Spec PyProof.Rows
section
variable{X:Cx}
theorem q63(hc:X.calm=true):q1Y X (.builtin "sorted") (λxs H Q=>∃(a:Addr) (ks:List (Int×Int)),xs=[.ref a]∧H a=some (.dK (dI ks))∧ks.length<64∧∀ns':List Int,ns'.Perm (ks.map (·.1))→ns'.Pairwise (·≤·)→NewO H (.lst (ns'.map V.int)) Q):=by(
intro pins s σ H xs us Q I r hZ
obtain⟨a,ks,ex,ha,h64,q⟩:=hZ
subst ex
obtain⟨u,rfl,rx⟩:=q3O r
cases rx
obtain⟨z,lo,ws,rel,dd⟩:=q73 I.hok ha
obtain⟨ep,hat⟩:=dd.dictAt
have hwl:ks.length=ws.length:=by rw[←rel.length];unfold dI;rw[h8]
refine Calls.call_function_entry kind_sorted plain_sorted entry_sorted (args_sorted1 _) ?_
unfold Builtin.«sorted»
refine hI (m:=checkCount "sorted" 1 1 _) (kJ ?_)
refine hI (kdu_collect (A:=X.A.in1) (kdl_dict (knd:=jP X.prog X.w) (kvs:=ws) (ep:=ep) lo) (I.ok.hd hc) hat (by rw[mT];lia) λh' tk acc hk hacc=>?_)
have I1:Inv X pins σ H { s with heap:=h',toks:=tk }:=I.kept (t':=tk) hk
have hal:acc.toList.length=ks.length:=by rw[mU,hacc.1,hwl]
have rv:Vals ((ks.map (·.1)).map V.int) acc.toList:=q5G (by rw[h8,h8,hal]) λj x v hx hv=>by
 rw[Array.getElem?_toList]at hv;obtain⟨k,y,hw,hi⟩:=hacc.2 j v hv;have hj:j<ks.length:=by have:=(kD.mp hw).1;lia
 rw[mG,mG,kE hj]at hx;obtain rfl:V.int ks[j].1=x:=kH hx;have hd:(dI ks)[j]?=some ((.inl ks[j].1:Key),V.int ks[j].2):=by unfold dI;rw[mG,kE hj];rfl
 obtain⟨q',hq',e1,e2⟩:=Paired.at rel hd;rw[hw]at hq';obtain rfl:=kH hq';have e1:(.inl ks[j].1:Key)=k:=e1;have:=qDR (k:=k) hi;rw[←e1]at this;exact this
have hi:=q3F rv
refine hI (p7 ?_ (by rw[hal,mT];lia))
have g:(h'.push (seqObj "list" acc.toList.toArray 0)).get? h'.objs.size=some (seqObj "list" acc.toList.toArray 0):=kU _ rfl
show wpAny _ _ _ _ _ { s with heap:=h'.push (seqObj "list" acc.toList.toArray 0),toks:=tk }
refine hI (gO (wpAny_call_entry slot_list_sort ⟨_,g,rfl⟩ entry_list_sort (list_sort_tree g hi (by rw[hal];exact h64) λout ns' a1 a2 a3=>⟨_,rfl,?_⟩) (args_list_sort _)))
refine kJ ⟨_,rfl,?_⟩
have old:∀b o,h'.get? b=some o→(sortedHeap (h'.push (seqObj "list" acc.toList.toArray 0)) h'.objs.size acc.toList out).get? b=some o:=λb o e=>by rw[sortedHeap_old (kW (kF e)) (by rw[lA];exact gX (kF e))];exact hR _ e
obtain⟨e,he⟩:=sortedHeap_at (vs:=acc.toList) (out:=out) g
have hz':(ns'.map V.int).length≤sizeLine:=by rw[h8,a2.length_eq,h8,mT];lia
exact⟨.ref h'.objs.size,_,I1.laid (t':=tk) (λb o e=>old b o e) (kB _) (show jF X.prog X.w _ _ _ (.lst _)from⟨hz',out.toList,e,zM a1,by simpa[seqObj]using he⟩),rfl,(q ns' a2 a3).at _ (I1.hok.fresh (kB _))⟩)
end
end L2
namespace L2
open PySem PySem.Spec PyProof.Rows
structure RoomU(k:Nat)(A:Around):Prop where
dp:A.depth+3*k+5<recursionLimit
un:A.units+16*k+200<cLine
theorem Room.u{k:Nat}{A:Around}{v:Option Value}(r:Room k A):RoomU k (A.mark v):=⟨r.dp,r.un⟩
theorem RoomU.mono{j k:Nat}{A:Around}(r:RoomU k A)(h:j≤k):RoomU j A:=⟨by have:=r.dp;lia,by have:=r.un;lia⟩
theorem RoomU.deeper{k:Nat}{A:Around}(r:RoomU (k+1) A)(env:Env):RoomU k (A.deeper env):=⟨by have:=r.dp;show A.depth+1+3*k+5< _;lia,by have:=r.un;show A.units+3+16*k+200< _;lia⟩
theorem RoomU.depth{k:Nat}{A:Around}(r:RoomU k A):A.depth<recursionLimit:=by have:=r.dp;lia
noncomputable def qBV(CX:CXT)(P:Program)(w:World)(K:PySem.W.Frag)(mg:Str→Option Value)(base:Heap)(N:List Str)(qual:Str)(scope:Scope)(f:Addr)(cd:Value)(A:Around)(outer:List Env)(s:Shared)(H:Hp)(E:XK):Cx:={ cxOf CX P w K mg base N qual scope f cd A outer s H E with calm:=false }
theorem q8L{CX:CXT}{P:Program}{w:World}{K:PySem.W.Frag}{mg:Str→Option Value}{base:Heap}{N ps:List Str}{qual:Str}{scope:Scope}{f:Addr}{cd:Value}{A:Around}{outer:List Env}{s s1:Shared}{H:Hp}{E:XK}{us:List Value}{vs:List V}
 (S:FnScope N ps scope) (e0:Env0 P w K mg base A outer s H) (hl:vs.length=ps.length) (r:Vals vs us)
 (x:InCallC s s.heap.objs.size (bindL (envOfC qual scope s.heap.objs.size f cd).kindOf (ps.zip us) λ_=>none) (cellsFrom (s.heap.objs.size+1) scope.names []) (bindC (envOfC qual scope s.heap.objs.size f cd).kindOf (ps.zip us) λ_=>none) s1):
 Inv (qBV CX P w K mg base N qual scope f cd A outer s H E) [] (start N vs) H s1:=by have e0':Env0 P w K mg base { A with handled:=none } outer s H:=⟨by first|exact e0.frames|simpa using e0.frames,e0.mod,e0.bs,e0.bsz,e0.funs,e0.frf,e0.hok,e0.bare⟩;have I:=q54 (CX:=CX) (E:=E) (A:={ A with handled:=none }) S rfl e0' hl r x;exact⟨{ I.ok with hd:=λz=>by cases z },I.os,I.bare,I.base,I.loc,I.cell,I.free,I.freeC,I.pin,I.hok,I.len⟩
noncomputable def HdL(A:Around)(hp:List (Addr×Obj)):Prop:=A.handled=none∨∃ea o vs,A.handled=some (.ref ea)∧(ea,o)∈hp∧o.data=.fields vs∧vs[2]?=some .none
noncomputable abbrev HdC(X:Cx):Prop:=HdL X.A X.pn
theorem q8M{prog:Program}{w:World}{A:Around}{E:Value→Shared→Prop}{s:Shared}{ea:Addr}{o:Obj}{vs:Array Value}{e:Value}{Q:Value→Shared→Prop}(ho:s.heap.get? ea=some o)(hd:o.data=.fields vs)(h2:vs[2]?=some .none)(q:Q .none s):
 wpAny (model prog w) A (runValue (Code.builtin "proto.unchain" { pos:=[e,.ref ea,.ref ea,.bool false] })) Q E s:=by(
refine wpAny_runValue (codeAny_builtin (b:=Builtin.«proto.unchain») (by kernel_rfl) ?_)
show wpAny _ _ (do let c←field (.ref ea) 2;_) _ _ _
refine hI (d3 ho hd h2 ?_)
exact kJ q)
theorem q8N{prog:Program}{w:World}{A:Around}{E:Value→Shared→Prop}{s:Shared}{it:Addr}{x left step:Int}{Q:Option Value→Shared→Prop}{ea:Addr}{o:Obj}{vs:Array Value}
 (hh:A.handled=some (.ref ea)) (ho:s.heap.get? ea=some o) (hd:o.data=.fields vs) (h2:vs[2]?=some .none) (hit:IsRangeIter s.heap it x left step) (hleft:left≤0) (hQ:∀h',Heap.ExtBut it s.heap h'→Q none { s with heap:=h' }):
 wpAny (model prog w) A (pyNext (.ref it)) Q E s:=by(
unfold pyNext
refine hI (cT (wpAny_callSpecial?_slot ⟨_,hit,rfl⟩ cM (wpAny_call_entry cM ⟨_,hit,rfl⟩ F.entry_range_iterator_next ?_ (F.args_range_iterator_next_1 (Value.ref it)))))
refine hI (show wpAny _ _ (pure _) _ _ _ from kJ ?_)
dsimp only
refine hI (d3 (x:=rawInt x) hit rfl rfl ?_)
refine hI (d3 (x:=rawInt left) hit rfl rfl ?_)
refine hI (d3 (x:=rawInt step) hit rfl rfl ?_)
dsimp only[rawInt]
rw[hU hleft]
refine hI (wpAny_rule (hI ?_))
unfold Builtin.SmallTypes.stopIteration
refine hI ?_
unfold newExc
refine hI (wH ?_ (by show(0:Nat)≤_;decide))
refine hI (wpAny_of_eq (Eq.refl (firstArgMember (Value.type "StopIteration") [])) ?_)
refine wH ?_ (sizeOk_excFields ..)
have lt:=kF ho
have e1:∀oo:Obj,((s.heap.push { cls:=.type "tuple",data:=.seq #[] }).push oo).get? ea=some o:=λoo=>hR _ (hR _ ho)
have e2:∀oo:Obj,oo.isFreed=false→((s.heap.push { cls:=.type "tuple",data:=.seq #[] }).push oo).get? (s.heap.push { cls:=.type "tuple",data:=.seq #[] }).objs.size=some oo:=λoo z=>kU _ z
unfold raiseNew
refine hI (wpAny_handled ?_)
rw[show A.in1.handled=some (.ref ea)from hh]
dsimp only
rw[hU (show(Value.ref ea !=Value.ref (s.heap.push { cls:=.type "tuple",data:=.seq #[] }).objs.size)=true by rw[rM,bne_iff_ne];intro z;injection z with z;rw[z]at lt;exact absurd lt (cH.mpr (dA _)))]
refine hI (gO (q8M (e1 _) hd h2 ?_))
have ex:∀(oo:Obj) (f:Obj→Obj),Heap.ExtBut it s.heap (((s.heap.push { cls:=.type "tuple",data:=.seq #[] }).push oo).update (s.heap.push { cls:=.type "tuple",data:=.seq #[] }).objs.size f):=λoo f b o' _ e=>by rw[rW _ _ _ _ (by rw[rM];exact kW (gX (kF e)))];exact hR _ (hR _ e)
unfold updateField
refine hI (hI (wpAny_load (e2 _ rfl) ?_))
dsimp only
rw[hU (by simp;lia)]
exact wpAny_update (e2 _ rfl) (wpAny_throw (hI (wpAny_isInstance (T:="StopIteration") ⟨_,gK _ (e2 _ rfl) rfl,rfl⟩ isSubtype_stop (kJ (hQ _ (ex _ _)))))))
theorem qA8{P:Program}{w:World}{K:PySem.W.Frag}{tg:Expr}(it:Addr)(lo:Int)(n:Nat):TurnC HdC P w K tg (Itr lo n) [it] it (λi h=>IsRangeIter h it (lo+(i:Nat)*1) ((n:Int)-(i:Nat)) 1):=by(
have T:=q3L (P:=P) (w:=w) (K:=K) (tg:=tg) it lo n
refine⟨T.obj,T.keep,?_,?_,T.self⟩
·intro X hP hw hK hc i pins s σ H E I hf st hg;subst hP hw hK;obtain⟨f0,f1,f2,f3,f4,f5⟩:=hf it (by simp);refine wpAny_pyNext_range_item st (by have:i<n:=hg;lia) λh' st' kk=>?_;have e:lo+((i+1:Nat):Int)*1=lo+(i:Nat)*1+1:=by lia
 have e2:(n:Int)-((i+1:Nat):Int)=(n:Int)-(i:Nat)-1:=by lia
 rw[←e,←e2]at st';have I1:Inv X pins σ H { s with heap:=h',toks:=s.toks+1 }:=I.turned (λb o hb e=>(kk.extBut b o hb e)) f0 f1 f3 f4 f5;refine⟨_,rfl,q8U (s:={ s with heap:=h',toks:=s.toks+1 }) (n:="range_iterator") st' rfl rfl (by decide) ⟨.int (lo+i),H,I1,⟨s.toks,?_⟩,⟨rfl,rfl⟩,st',λb hb=>(hf b hb).1⟩⟩;rw[Int.mul_one]
intro X hP hw hK hc i pins s σ H E I hf st hg
subst hP hw hK
obtain⟨f0,f1,f2,f3,f4,f5⟩:=hf it (by simp)
have le:(n:Int)-(i:Nat)≤0:=by have:n≤i:=hg;lia
have q:∀h',Heap.ExtBut it s.heap h'→(none:Option Value)=none∧Inv X pins σ H { s with heap:=h' }:=λh' eb=>⟨rfl,I.turned (t':=s.toks) (λb o hb e=>eb b o hb e) f0 f1 f3 f4 f5⟩
rcases hc with hc|⟨ea,o,vs,hc,hm,hd,h2⟩
·exact cZ hc st le q
exact q8N hc (I.pin _ (mE _ hm)).1 hd h2 st le q)
section
variable{X:Cx}{tg:Expr}
theorem q8O{a:Expr}{ta:TA}{p pos:Pos}(hg:Gl X "range")(hm:X.mg "range"=none)(ha:PA X [a] ta)(hs:starEach [a] X.env=[(false,eval a X.env)]:=by rfl):PIc HdC X tg (.Call (.Name "range" p) [a] [] pos) (qDL ta):=by(
intro pins s σ H R I h
refine Call_ (q2G I hg hm boot_range (rH (thn (ha pos pins s σ H _ I h) λus s1 hZ=>?_) hs rfl))
obtain⟨vs,H1,I1,r1,q1⟩:=hZ
obtain⟨j,e,q1,q2,q⟩:=q1
subst e
cases r1 with
|cons r rr=>
 cases rr;obtain⟨t,rfl⟩:=r;refine call_range_1 (sD (lP ..) (small_one (by lia) (by lia) q1 q2) ?_);have I2:=I1.kept (t':=s1.toks+1+1) (h':=s1.heap.push { cls:=.type "range",data:=.fields #[.int 0 s1.toks,.int j t,.int 1 (s1.toks+1)] }) λb o e=>hR _ e;refine⟨(s1.heap.push { cls:=.type "range",data:=.fields #[.int 0 s1.toks,.int j t,.int 1 (s1.toks+1)] }).objs.size,[(s1.heap.push { cls:=.type "range",data:=.fields #[.int 0 s1.toks,.int j t,.int 1 (s1.toks+1)] }).objs.size],_,_,H1,rfl,I2.kept (t':=s1.toks+1+1) λb o e=>hR _ e,qA8 _ 0 j.toNat,?_,λb hb=>?_,q⟩
 ·have e1:(0:Int)+((0:Nat):Int)*1=0:=by simp
  have e2:((j.toNat:Nat):Int)-((0:Nat):Int)=Builtin.Range.rangeSize 0 j 1:=by rw[rangeSize_one];split<;>lia
  show IsRangeIter _ _ ((0:Int)+((0:Nat):Int)*1) (((j.toNat:Nat):Int)-((0:Nat):Int)) 1;rw[e1,e2];exact kU _ rfl
 have e:b=(s1.heap.push { cls:=.type "range",data:=.fields #[.int 0 s1.toks,.int j t,.int 1 (s1.toks+1)] }).objs.size:=by simpa using hb
 subst e;exact I2.fpOk (kB _) (I2.hok.fresh (kB _)))
theorem qBW{elt iter:Expr}{ifs:List Expr}{scope:Scope}{pos:Pos}{wi:TI}{g:TG}{tc:TT}{te:TE}(N:List Str)(ix:List Nat)(hh:HdC X)(hi:PIc HdC X tg iter wi)
 (hg:∀C fp s H xe,PG (yT X N scope C fp s H xe) tg g) (hif:∀C fp s H xe,PIf (yT X N scope C fp s H xe) ifs tc) (he:∀C fp s H xe,PE (yT X N scope C fp s H xe) elt te)
 (ok:q5F X.N X.env.kindOf scope N ix=true) (hown:Own g ix.length) (hs:∀x,foldedSetIterable iter X.env x=pure x:=by intro _;rfl):
 PE X (.ListComp elt [⟨tg,iter,ifs,0⟩] scope pos) (tLC wi g tc te ix (N.length-ix.length)):=by(
unfold q5F at ok
rw[kO,kO,kO,dE]at ok
obtain⟨⟨⟨h1,h2⟩,h3⟩,h4⟩:=ok
have h2':∀y∈scope.names,y.2≠ .cell∧(y.2≠ .free∨X.env.kindOf y.1=some .cell)∧(y.2≠ .local∨scope.names.lookup y.1=some .local):=λy hy=>by have q:=h2 y hy;rw[kO,kO,gL,gL,kI,kI,kI,kI,kI]at q;exact⟨q.1.1,q.1.2,q.2⟩
intro pins s σ H Q I h
rw[eval_ListComp]
exact q5V N ix _ (λ_ _ _ _ _=>hh) hi hg hif he (mK h1) (λy hy=>(h2' y hy).1) (λy hy e=>(h2' y hy).2.1.resolve_left (λz=>z e)) h3 (mK h4) (λy hy e=>(h2' y hy).2.2.resolve_left (λz=>z e)) hown I h (λC D H' s' m hm fok inv q=>⟨m,hm,λh' sb=>⟨.ref D,H',inv h' sb,rfl,q⟩⟩) hs)
end
structure FnOkH(P:Program)(w:World)(K:PySem.W.Frag)(mg:Str→Option Value)(base:Heap)(CX:CXT)(k:Nat)(f:Addr)(fd:FuncData)(ps:List Str)(sp:Sp):Prop where
len:∀vs H Q E,sp vs H Q E→vs.length=ps.length
run:∀(A:Around) (outer:List Env) (s:Shared) (H:Hp) (args:Args) (us:List Value) (vs:List V) (Q:VK) (E:XK) (hp:List (Addr×Obj)),HdL A hp→(∀p∈hp,s.heap.get? p.1=some p.2∧H p.1=none∧p.1∉frs outer∧∀v,p.2.data≠ .cell v)→RoomU k A→Env0 P w K mg base A outer s H→BindsTo s fd args (ps.zip us)→Vals vs us→sp vs H Q E→codeAny (model P w) A (.call (.ref f) args) (CR CX outer P w H s Q E) s
section
variable{P:Program}{w:World}{K:PySem.W.Frag}{mg:Str→Option Value}{base:Heap}{CX:CXT}{j k:Nat}{f:Addr}{fd:FuncData}{ps:List Str}{sp:Sp}
theorem FnOkH.mono(F:FnOkH P w K mg base CX j f fd ps sp)(h:j≤k:=by decide):FnOkH P w K mg base CX k f fd ps sp:=⟨F.len,λA outer s H args us vs Q E hp a b hr=>F.run A outer s H args us vs Q E hp a b (hr.mono h)⟩
theorem FnOkH.fn(F:FnOkH P w K mg base CX k f fd ps sp):FnOk P w K mg base CX k f fd ps sp:=⟨F.len,λA outer s H args us vs Q E hr=>F.run A outer s H args us vs Q E [] (.inl hr.hd) (λ_ z=>absurd z (by simp)) ⟨hr.dp,hr.un⟩⟩
end
noncomputable abbrev q9B(hp:List (Addr×Obj))(CX:CXT)(P:Program)(w:World)(K:PySem.W.Frag)(mg:Str→Option Value)(base:Heap)(N:List Str)(qual:Str)(scope:Scope)(f:Addr)(cd:Value)(A:Around)(outer:List Env)(s:Shared)(H:Hp)(E:XK):Cx:={ qBV CX P w K mg base N qual scope f cd A outer s H E with pn:=hp }
theorem qFD{CX:CXT}{P:Program}{w:World}{K:PySem.W.Frag}{mg:Str→Option Value}{base:Heap}{k:Nat}{f:Addr}{name qual:Str}{params:Arguments}{body:List Stmt}{scope:Scope}{dV kV doc pm cdv ct oc:Value}{an od:Option Addr}
 {osl:Array (Option Value)} {N ps:List Str} {sp:Sp} (lk:K.lookup f=some ⟨oc,od,.func (PySem.W.fnOf name qual params body scope dV kV doc pm an cdv ct),osl⟩) (hcd:PySem.W.codeIn K cdv qual=true) (S:FnScope N ps scope)
 (len:∀vs H Q E,sp vs H Q E→vs.length=ps.length)
 (hbody:∀(A:Around) (outer:List Env) (s:Shared) (H:Hp) (vs:List V) (Q:VK) (E:XK) (hp:List (Addr×Obj)),HdL A hp→RoomU k (A.deeper (envOfC qual scope s.heap.objs.size f cdv))→sp vs H Q E→∃t,PSs (q9B hp CX P w K mg base N qual scope f cdv A outer s H E) body t∧t { nx:=λ_ H'=>Q .non H',rt:=Q } (start N vs) H):
 FnOkH P w K mg base CX (k+1) f (PySem.W.fnOf name qual params body scope dV kV doc pm an cdv ct) ps sp:=by(
refine⟨len,λA outer s H args us vs Q E hp hh hpn hr e0 hb r hsp=>?_⟩
have hl:=len _ _ _ _ hsp
have KX:K.In s.heap:=e0.mod.kin.keeps λb o e=>(e0.bs b o e).1
have lim:s.heap.NoLimit:=e0.mod.nolimit.keeps λb o e=>(e0.bs b o e).1
have hkind:∀y∈ps.zip us,scope.names.lookup y.1=some .local∨(scope.names.lookup y.1=some .cell∧((cellsFrom (s.heap.objs.size+1) scope.names []).lookup y.1).isSome=true):=λ⟨n,v⟩ hy=>by
 rcases S.par n (wS hy).1 with q|q
 ·exact .inl q
 exact .inr ⟨q,wF _ _ _ (.inl q)⟩
refine pH hr.depth (KX _ _ lk) rfl S.co S.gen rfl (sI KX hcd) (hb _ _ _ _ ?_)
refine cF S.kind hkind λenv he s1 x=>?_
subst he
refine⟨lim.keeps x.toInCall.keep,codeAny_func ?_⟩
obtain⟨t,ht,hq⟩:=hbody A outer s H vs Q E hp hh (hr.deeper _) hsp
have I0:Inv (qBV CX P w K mg base N qual scope f cdv A outer s H E) [] (start N vs) H s1:=q8L S e0 hl r x
have I:Inv (q9B hp CX P w K mg base N qual scope f cdv A outer s H E) [] (start N vs) H s1:=by have ok:=I0.ok;refine⟨⟨ok.mod,ok.kind,ok.glob,ok.blt,ok.above,ok.inj,ok.has,ok.cab,ok.hd,ok.frames,ok.stk,ok.exf,ok.bs,ok.bsz,ok.noex,ok.exfs,ok.funs,ok.frf⟩,I0.os,I0.bare,I0.base,I0.loc,I0.cell,I0.free,I0.freeC,λp hp'=>?_,I0.hok,I0.len⟩;obtain⟨p1,p2,p3,p4⟩:=hpn p (by simpa using hp');exact⟨x.toInCall.keep _ _ p1,p2,kW (kF p1),p3,p4⟩
refine gB (ht [] s1 (start N vs) H _ I hq) (λfl s' hs=>?_) λe s' hs=>hs
have fin:∀{σ':St} {H':Hp} {v:V} {u:Value},Inv (q9B hp CX P w K mg base N qual scope f cdv A outer s H E) [] σ' H' s'→RelV v u→Q v H'→CE outer P w H s Q u s':=fun {σ' H' v u} J rv q=>⟨v,H',J.os,J.bare,J.base,J.hok,rv,q⟩
cases fl with
|ret u=>obtain⟨v,σ',H',J,rv,q⟩:=hs;exact fin J rv q
|next=>obtain⟨σ',H',J,q⟩:=hs;exact fin (v:=V.non) (u:=Value.none) J rfl q
|brk=>obtain⟨_,_,_,q⟩:=hs;exact False.elim q
|cont=>obtain⟨_,_,_,q⟩:=hs;exact False.elim q)
theorem FunD.okH{P:Program}{w:World}{K:PySem.W.Frag}{mg:Str→Option Value}{base:Heap}{dV:Value}{x qual:Str}{st:Stmt}{f:Addr}{fd:FuncData}{N ps:List Str}{k:Nat}{sp:Sp}(F:FunD K x qual st dV f fd)(S:FnScope N ps (qH st))(len:∀vs H Q E,sp vs H Q E→vs.length=ps.length)
 (hbody:∀(cdv:Value) (A:Around) (outer:List Env) (s:Shared) (H:Hp) (vs:List V) (Q:VK) (E:XK) (hp:List (Addr×Obj)),HdL A hp→RoomU k (A.deeper (envOfC qual (qH st) s.heap.objs.size f cdv))→sp vs H Q E→∃t,PSs (q9B hp CX0 P w K mg base N qual (qH st) f cdv A outer s H E).nox (jR st) t∧t { nx:=λ_ H'=>Q .non H',rt:=Q } (start N vs) H):FnOkH P w K mg base CX0 (k+1) f fd ps sp:=by(
obtain⟨oc,od,kV,doc,pm,an,cdv,ct,osl,rfl,lk,hcd⟩:=F.ex
refine qFD lk hcd S len λA outer s H vs Q E hp hh hr hsp=>?_
obtain⟨t,h,q⟩:=hbody cdv A outer s H vs Q E hp hh hr hsp
exact⟨t,h.nox,q⟩)
section
variable{X:Cx}{x m:Str}{p pos apos:Pos}{e o:Expr}{es:List Expr}{ta:TE}{t:TA}{CX:CXT}{k:Nat}{f C:Addr}{fd:FuncData}{ps:List Str}{sp:Sp}{ds:List Value}{dvs:List V}{E:XK}
theorem q64{pins:List (Addr×Obj)}{σ:St}{H:Hp}{s:Shared}{Q:VK}{us:List Value}{vs:List V}(F:FnOkH X.prog X.w X.K X.mg X.base CX k f fd ps sp)(hh:HdC X)(hr:RoomU k X.A)(hb:jO X.K fd ps ds)(hd:Vals dvs ds)(hx:uF CX X E)
 (I:Inv X pins σ H s) (r:Vals vs us) (h:sp (vs++dvs) H Q E):wpAny (model X.prog X.w) X.A (call (.ref f) us) (EP X pins σ Q) X.xe s:=by(
have r2:Vals (vs++dvs) (us++ds):=r.append hd
have hl:(us++ds).length=ps.length:=by rw[←r2.length];exact F.len _ _ _ _ h
refine dQ (rA (F.run X.A X.stack s H ⟨us,[]⟩ (us++ds) (vs++dvs) Q E X.pn hh (λp hp=>?_) hr I.env0 (hb s us I.kIn hl) r2 h) λr s' hq=>?_)
·obtain⟨p1,p2,p3,p4,p5⟩:=I.pin p (mE _ hp);exact⟨p1,p2,λz=>(kG.mp (I.stkSub _ z)).elim p3 p4,p5⟩
cases r with
|error e=>exact hx pins σ H s e s' I hq
|ok fl=>
 cases fl with
 |ret u=>exact I.after hq
 |next=>exact False.elim hq
 |brk=>exact False.elim hq
 |cont=>exact False.elim hq)
theorem q7L(F:FnOkH X.prog X.w X.K X.mg X.base CX k f fd ps sp)(hh:HdC X)(hr:RoomU k X.A)(hg:Gl X x)(hm:X.mg x=some (.ref f))(hk:PySem.W.keepIn X.K (.ref f)=true)(hb:jO X.K fd ps ds)(hd:Vals dvs ds)(hx:uF CX X E)
 (ha:PA X (e::es) t) (hdb:(x==("__debug__":Str))=false:=by decide) (he:starEach (e::es) X.env=(false,eval e X.env)::starEach es X.env:=by rfl) (hpl:(backTo pos (starEach es X.env)).any (·.1)=false:=by rfl):
 PE X (.Call (.Name x p) (e::es) [] pos) (qAR sp dvs E t):=by(
intro pins s σ H Q I h
refine gM (vK I hg hm ?_ hdb)
refine gN (h₀:=X.base) I.ok.mod.kin hk (thn (ha pos pins s σ H _ I h) λus s1 ⟨vs,H1,I1,r,q⟩=>⟨I1.kIn,?_⟩) he hpl
exact q64 F hh hr hb hd hx I1 r q)
theorem q7M{pl:Sem Bool}(he:PE X o ta)(c:Cls X.K C)(hm:Meth X.K C m f)(F:FnOkH X.prog X.w X.K X.mg X.base CX k f fd ps sp)(hh:HdC X)(hr:RoomU k X.A)(hb:jO X.K fd ps ds)(hd:Vals dvs ds)(hx:uF CX X E)(ha:PA X (e::es) t)
 (hst:starEach (e::es) X.env=(false,eval e X.env)::starEach es X.env:=by rfl) (hpl:(backTo pos (starEach es X.env)).any (·.1)=false:=by rfl)
 (ht:eval (.Call (.Attribute o m apos) (e::es) [] pos) X.env=(do
  let ov←eval o X.env
  standAt apos.atName
  let(f,first)←holding [ov] (getMethod ov m pl)
  callWith pos f first (backTo pos (starEach (e::es) X.env)) (backToKw pos (keywordEach [] X.env))):=by rfl):
 PE X (.Call (.Attribute o m apos) (e::es) [] pos) (q8Z C m sp dvs E ta t):=by(
intro pins s σ H Q I h
refine gJ (pl:=pl) (thn (he pins s σ H _ I h) λu s1 hZ=>?_) ht
obtain⟨x,H1,I1,rx,a,dx,fs,ex,ea,l,q⟩:=hZ
subst ex
obtain rfl:u=Value.ref a:=rx
refine v8 I1 ea c hm l ?_
refine gN (first:=[.ref a]) (h₀:=X.base) I.ok.mod.kin hm.kp (thn (ha pos pins s1 σ H1 _ I1 q) λus s2 ⟨vs,H2,I2,r,q2⟩=>⟨I2.kIn,?_⟩) hst hpl
exact q64 (us:=.ref a::us) (vs:=.ref a::vs) F hh hr hb hd hx I2 (.cons rfl r) q2)
theorem q0Z{pl:Sem Bool}(he:PE X o ta)(c:Cls X.K C)(hm:Meth X.K C m f)(F:FnOkH X.prog X.w X.K X.mg X.base CX k f fd ps sp)(hh:HdC X)(hr:RoomU k X.A)(hb:jO X.K fd ps ds)(hd:Vals dvs ds)(hx:uF CX X E)
 (ht:eval (.Call (.Attribute o m apos) [] [] pos) X.env=(do
  let ov←eval o X.env
  standAt apos.atName
  let(f,first)←holding [ov] (getMethod ov m pl)
  callWith pos f first (backTo pos (starEach [] X.env)) (backToKw pos (keywordEach [] X.env))):=by rfl):
 PE X (.Call (.Attribute o m apos) [] [] pos) (q8Z C m sp dvs E ta tNil):=by(
intro pins s σ H Q I h
refine gJ (pl:=pl) (thn (he pins s σ H _ I h) λu s1 hZ=>?_) ht
obtain⟨x,H1,I1,rx,a,dx,fs,ex,ea,l,q⟩:=hZ
subst ex
obtain rfl:u=Value.ref a:=rx
refine v8 I1 ea c hm l ?_
exact wW (first:=[.ref a]) I1.kIn hm.kp (q64 (us:=[.ref a]) (vs:=[.ref a]) F hh hr hb hd hx I1 (.cons rfl .nil) q))
end
theorem qBX{X:Cx}{ty:Expr}{c:V}{cv:Value}{b₀:Stmt}{suite:List Stmt}{pos:Pos}{rest:List ExceptHandler}{ts:TS}{tr:TH}(hc:∀ea,PE (X.sui ea) ty (tC c))(rc:RelV c cv)(hs:∀ea pn,HdL (X.A.mark (some (.ref ea))) pn→PSs { X.sui ea with pn:=pn } (b₀::suite) ts)(hr:PHs X rest tr):
 PHs X (.ExceptHandler (some ty) none (b₀::suite) pos::rest) (λD σ H ea C od=>∃b,PySem.W.exmOne X.K C cv=some b∧if b=true then ts D σ H else tr D σ H ea C od):=by(
intro pins s σ H D ea T C od I hd ours hZ
obtain⟨b,hx,q⟩:=hZ
refine pT (q2U (hc ea) rc I I.ok.hd hd ours hx λs' I' hd'=>?_) (by intro z;cases z)
cases b with
|false=>rw[hV (by simp)]at q;exact hr pins s' σ H D ea T C od I' hd' ours q
|true=>
 rw[hU rfl]at q;refine c9 (zG hd' λh' c hd2=>?_);have I2:=I'.chg (t':=s'.toks) (rs:=[ea,T]) (c.mono (by simp) (by simp)) ours hd'.recs;obtain⟨oe,oT,I3,back⟩:=Inv.pinX I2 hd2 ours;obtain⟨vs,⟨oe',z1,z2,z3,z4,z5⟩,_⟩:=hd2;have p1:=(I3.pin (ea,oe) (by simp)).1;have eo:oe'=oe:=kH (z1.symm.trans p1);subst eo;have I4:=I3.sui ea;have I5:Inv { X.sui ea with pn:=X.pn++(pins++[(ea,oe'),(T,oT)]) } [] σ H { s' with heap:=h' }:=by have ok:=I4.ok;exact⟨⟨ok.mod,ok.kind,ok.glob,ok.blt,ok.above,ok.inj,ok.has,ok.cab,ok.hd,ok.frames,ok.stk,ok.exf,ok.bs,ok.bsz,ok.noex,ok.exfs,ok.funs,ok.frf⟩,I4.os,I4.bare,I4.base,I4.loc,I4.cell,I4.free,I4.freeC,λp hp=>I4.pin p (by simpa using hp),I4.hok,I4.len⟩
 refine gB (hs ea _ (.inr ⟨ea,oe',vs,rfl,by simp,z4,z5⟩) [] _ σ H D I5 q) (λf s2 z=>?_) λ_ _ z=>z.elim;have un:∀{σ':St} {H':Hp},Inv { X.sui ea with pn:=X.pn++(pins++[(ea,oe'),(T,oT)]) } [] σ' H' s2→Inv X pins σ' H' s2:=fun {σ' H'} J=>by have ok:=J.ok;exact Inv.unsui (e:=ea) I.ok.hd ⟨⟨ok.mod,ok.kind,ok.glob,ok.blt,ok.above,ok.inj,ok.has,ok.cab,ok.hd,ok.frames,ok.stk,ok.exf,ok.bs,ok.bsz,ok.noex,ok.exfs,ok.funs,ok.frf⟩,J.os,J.bare,J.base,J.loc,J.cell,J.free,J.freeC,λp hp=>J.pin p (by rcases mS.mp hp with y|y<;>simp[y]),J.hok,J.len⟩
 cases f with
 |next=>obtain⟨σ',H',J,q⟩:=z;exact⟨σ',H',un J,q⟩
 |brk=>obtain⟨σ',H',J,q⟩:=z;exact⟨σ',H',un J,q⟩
 |cont=>obtain⟨σ',H',J,q⟩:=z;exact⟨σ',H',un J,q⟩
 |ret u=>obtain⟨v,σ',H',J,r,q⟩:=z;exact⟨v,σ',H',un J,r,q⟩)
structure ClM(K:PySem.W.Frag)(W:Addr)(m:Str)(f:Addr):Prop where
rd:PySem.W.readsIn K W (.type "type")=true
fd:PySem.W.findCls K (.ref W) (.type "type") m=some (.val (.ref f))
ga:PySem.W.specialIn K (.ref W) "__getattribute__"=some (some (.builtin "type.__getattribute__"))
kp:PySem.W.keepIn K (.ref f)=true
end L2
namespace W1
open PySem L2
noncomputable def rdy(ie:Int)(l:List Nat)(p:Option Nat):Bool:=decide ((l.length:Int)-(1+ie)>0)||(decide ((l.length:Int)-(1+ie)=0)&&p.isSome)
theorem qA9{L:List Nat}{f g:Nat→Nat}(h:∀b∈L,f b=g b):(L.map f).sum=(L.map g).sum:=by rw[wY h]
section
variable{B P:Nat}{fi cl:List Int}{l:List Nat}
theorem qDB{L:List Nat}{f g:Nat→Nat}{b:Nat}(nd:L.Nodup)(hb:b∈L)(h:∀c∈L,c≠b→f c=g c):(L.map f).sum+g b=(L.map g).sum+f b:=by(
induction L with
|nil=>exact absurd hb (by simp)
|cons x L ih=>
 obtain⟨n1,n2⟩:=mM.mp nd;rw[k7,k7,rE,rE];rcases kG.mp hb with rfl|hb
 ·rw[qA9 (L:=L) (f:=f) (g:=g) λc hc=>h c (h9 _ hc) λz=>n1 (by rw[←z];exact hc)];lia
 have:=ih n2 hb λc hc=>h c (h9 _ hc);have e:=h x (by simp) λz=>n1 (by rw[z];exact hb);lia)
end
end W1
namespace L2
open PySem PySem.Spec PyProof.Rows
section
variable{X:Cx}{k:Nat}{f W:Addr}{fd:FuncData}{ps:List Str}{sp:Sp}{dvs:List V}{ds:List Value}{x m:Str}{p pos apos:Pos}{e:Expr}{es:List Expr}{t:TA}
theorem qFE{CX:CXT}{E:XK}(b:ClM X.K W m f)(F:FnOk X.prog X.w X.K X.mg X.base CX k f fd ps sp)(hr:Room k X.A)(hg:Gl X x)(hm:X.mg x=some (.ref W))(hb:jO X.K fd ps ds)(hd:Vals dvs ds)(hx:uF CX X E)(ha:PA X (e::es) t)(hdb:(x==("__debug__":Str))=false:=by decide)
 (he:starEach (e::es) X.env=(false,eval e X.env)::starEach es X.env:=by rfl) (hpl:(backTo pos (starEach es X.env)).any (·.1)=false:=by rfl) {pl:Sem Bool}
 (ht:eval (.Call (.Attribute (.Name x p) m apos) (e::es) [] pos) X.env=(do
  let ov←eval (.Name x p) X.env
  standAt apos.atName
  let(f,first)←holding [ov] (getMethod ov m pl)
  callWith pos f first (backTo pos (starEach (e::es) X.env)) (backToKw pos (keywordEach [] X.env))):=by rfl):
 PE X (.Call (.Attribute (.Name x p) m apos) (e::es) [] pos) (qAR sp dvs E t):=by(
intro pins s σ H Q I h
refine gJ (pl:=pl) (vK I hg hm ?_ hdb) ht
refine sL I.kIn b.ga (nB I.kIn b.rd b.fd rfl ?_)
refine gN (first:=[]) (h₀:=X.base) I.ok.mod.kin b.kp (thn (ha pos pins _ σ H _ (I.tok _) h) λus s2 ⟨vs,H2,I2,r,q2⟩=>⟨I2.kIn,?_⟩) he hpl
exact q5P F hr hb hd hx I2 r q2)
end
end L2
namespace W1
open PySem L2
noncomputable def dB(KD:Mp):List (Key×V):=KD.map λy=>((Sum.inl y.1:Key),V.bl true)
theorem qDC{KD:Mp}{n p:Int}:putK (dB KD) (Sum.inl n:Key) (.bl true)=dB (putW KD n p):=by(
unfold putK dB putW
have e:((KD.map λy=>((Sum.inl y.1:Key),V.bl true)).any λkv=>decide (kv.1=Sum.inl n))=KD.any λq=>decide (q.1=n):=by
 rw[lN];congr 1;funext q;show decide ((Sum.inl q.1:Key)=Sum.inl n)=decide (q.1=n);by_cases e:q.1=n
 ·rw[e];simp
 rw[hZ e,hZ (λz=>e (wD z))]
rw[e]
by_cases h:(KD.any λq=>decide (q.1=n))=true
·rw[hU h,hU h,cC,cC];apply wY;intro q _;show(if(Sum.inl q.1:Key)=Sum.inl n then((Sum.inl q.1:Key),V.bl true)else((Sum.inl q.1:Key),V.bl true))=((Sum.inl (if q.1=n then(q.1,p)else q).1:Key),V.bl true);rw[ite_self];split<;>rfl
rw[hV h,hV h,mI]
rfl)
theorem q28:∀{KD:Mp} {n:Int},(valV (dB KD) (Sum.inl n:Key)).isSome=decide (n∈KD.map (·.1))
| [],n=>rfl
|p::KD,n=>by
 show(valV (((.inl p.1:Key),V.bl true)::dB KD) (.inl n)).isSome=_;by_cases e:p.1=n
 ·subst e;rw[y6 rfl,hW (by simp)];rfl
 rw[jV (λz=>e (wD z)),q28];refine dF.mpr ?_;rw[k7,kG];exact⟨.inr,λz=>z.resolve_left λy=>e y.symm⟩
theorem qFF{KD:Mp}:(dB KD).length=KD.length:=by unfold dB;rw[h8]
end W1
namespace L2
open PySem
theorem qAA{K:PySem.W.Frag}{a:Addr}{xs:List V}{g:TG}{tb:TS}{D:Ends}{σ:St}{H:Hp}(Pv:Nat→St→Hp→Prop)(h0:Pv 0 σ H)(hl:∀i σ H,i≤xs.length→Pv i σ H→SqL K H a xs)
 (hs:∀i x σ H (D':Ends),(∀σ' H',Pv (i+1) σ' H'→D'.nx σ' H')→xs[i]?=some x→Pv i σ H→g x σ H λσ2 H2=>tb D' σ2 H2) (hd:∀σ H,Pv xs.length σ H→D.nx σ H):
 ∃W:Nat→Nat→St→Hp→Prop,(∃m,W 0 m σ H)∧∀i m σ H,W i m σ H→((Itl K a).stop i H∧D.nx σ H)∨((Itl K a).go i H∧∃N:St→Hp→Prop,(∀σ' H',N σ' H'→∃m',m'<m∧W (i+1) m' σ' H')∧∀x H',(Itl K a).yld i H x H'→g x σ H' λσ2 H2=>tb { D with nx:=N,ct:=N,bk:=D.nx } σ2 H2):=zF Pv h0 hl (λi x σ H hx p=>hs i x σ H _ (λ_ _ q=>q) hx p) hd
theorem q1I{lo:Int}{n:Nat}{g:TG}{tb:TS}{D:Ends}{σ:St}{H:Hp}(Pv:Nat→St→Hp→Prop)(h0:Pv 0 σ H)
 (hs:∀i σ H (D':Ends),(∀σ' H',Pv (i+1) σ' H'→D'.nx σ' H')→i<n→Pv i σ H→g (.int (lo+i)) σ H λσ2 H2=>tb D' σ2 H2) (hd:∀σ H,Pv n σ H→D.nx σ H):
 ∃W:Nat→Nat→St→Hp→Prop,(∃m,W 0 m σ H)∧∀i m σ H,W i m σ H→((Itr lo n).stop i H∧D.nx σ H)∨((Itr lo n).go i H∧∃N:St→Hp→Prop,(∀σ' H',N σ' H'→∃m',m'<m∧W (i+1) m' σ' H')∧∀x H',(Itr lo n).yld i H x H'→g x σ H' λσ2 H2=>tb { D with nx:=N,ct:=N,bk:=D.nx } σ2 H2):=q4Y Pv h0 (λi σ H hx p=>hs i σ H _ (λ_ _ q=>q) hx p) hd
theorem iV{σ:St}{i:Nat}{v:V}{Q:V→Prop}(e:σ[i]?=some (some v))(q:Q v):∃v,σ[i]?=some (some v)∧Q v:=⟨v,e,q⟩
theorem iF{K:PySem.W.Frag}{H:Hp}{f:Str}{a C d:Addr}{fs:List (Str×V)}{v:V}{Q:V→Prop}(o:H a=some (.ins C d fs))(cl:Cls K C)(na:qO K C f)(lk:fs.lookup f=some v)(q:Q v):
 ∃a' C dx fs v,V.ref a=.ref a'∧H a'=some (.ins C dx fs)∧Cls K C∧qO K C f∧fs.lookup f=some v∧Q v:=⟨a,C,d,fs,v,rfl,o,cl,na,lk,q⟩
theorem iM{H:Hp}{m:Str}{a C d:Addr}{fs:List (Str×V)}{q:Prop}(o:H a=some (.ins C d fs))(lk:fs.lookup m=none)(k:q):
 ∃a' dx fs,V.ref a=.ref a'∧H a'=some (.ins C dx fs)∧fs.lookup m=none∧q:=⟨a,d,fs,rfl,o,lk,k⟩
theorem iI{i j:Int}{Q:Int→Int→Prop}(q:Q i j):∃i' j',V.int i=.int i'∧V.int j=.int j'∧Q i' j':=⟨i,j,rfl,rfl,q⟩
theorem iL{K:PySem.W.Frag}{H:Hp}{p:Addr}{xs:List V}{k:Int}{v:V}{Q:V→Prop}(h:SqL K H p xs)(e:atI xs k=some v)(q:Q v):∃p' xs k' v,V.ref p=.ref p'∧V.int k=.int k'∧SqL K H p' xs∧atI xs k'=some v∧Q v:=⟨p,xs,k,v,rfl,rfl,h,e,q⟩
theorem iT{K:PySem.W.Frag}{H:Hp}{p:Addr}{xs:List V}{k:Int}{v:V}{Q:V→Prop}(h:SqT K H p xs)(e:atI xs k=some v)(q:Q v):∃p' xs k' v,V.ref p=.ref p'∧V.int k=.int k'∧SqT K H p' xs∧atI xs k'=some v∧Q v:=⟨p,xs,k,v,rfl,rfl,h,e,q⟩
end L2
namespace W1
open PySem L2
noncomputable def fiW(P:Nat)(la:Nat→Int)(c a b:Nat):Nat:=if b<c then(if la b= -1 then P else(la b).toNat)else if b=c then a else 0
structure Wp(B P ie:Nat)(la:Nat→Int)(g:Nat→Bool)(c a k:Nat):Prop where
p1:1≤P
aP:a≤P
ac:0<a→g c=false∧(la c= -1∨(a:Int)≤la c)
lb:∀b,la b= -1∨(0≤la b∧la b<(P:Int))
gl:∀b,g b=true→la b=0
ks:((List.range B).map (fiW P la c a)).sum=k
ni:((List.range B).filter λb=>decide (la b≠-1)).length≤ie
section
variable{B P ie:Nat}{la:Nat→Int}{g:Nat→Bool}{c a k:Nat}
theorem q7N(ac:la c= -1):fiW P la c P=fiW P la (c+1) 0:=by(
funext b
unfold fiW
by_cases h:b<c
·rw[hU h,hU (show b<c+1 by lia)]
rw[hV h]
by_cases e:b=c
·subst e;rw[hU rfl,hU (show b<b+1 by lia),hU ac]
rw[hV e,hV (show ¬b<c+1 by lia)]
split<;>rfl)
theorem q65(h:la c=(a:Int)):fiW P la c a=fiW P la (c+1) 0:=by(
funext b
unfold fiW
by_cases h1:b<c
·rw[hU h1,hU (show b<c+1 by lia)]
rw[hV h1]
by_cases e:b=c
·subst e;rw[hU rfl,hU (show b<b+1 by lia),hV (by lia),h];rfl
rw[hV e,hV (show ¬b<c+1 by lia)]
split<;>rfl)
theorem Wp.full(w:Wp B P ie la g c P k):Wp B P ie la g (c+1) 0 k:=by(
have e:la c= -1:=by
 rcases(w.ac (by have:=w.p1;lia)).2 with z|z
 ·exact z
 rcases w.lb c with y|y
 ·exact y
 lia
exact⟨w.p1,by lia,λz=>by lia,w.lb,w.gl,by rw[←q7N e];exact w.ks,w.ni⟩)
theorem Wp.gone(w:Wp B P ie la g c a k)(h:g c=true):a=0:=by(
rcases wC a with z|z
·exact z
have:=(w.ac z).1
rw[h]at this
cases this)
theorem Wp.next(w:Wp B P ie la g c a k)(h:la c=(a:Int)):Wp B P ie la g (c+1) 0 k:=⟨w.p1,by lia,λz=>by lia,w.lb,w.gl,by rw[←q65 h];exact w.ks,w.ni⟩
theorem q3H{L:List Nat}{p:Nat→Bool}{f:Nat→Nat}{n:Nat}(h:∀b∈L,p b=true→n≤f b):(L.filter p).length*n≤(L.map f).sum:=by(
induction L with
|nil=>show 0*n≤0;lia
|cons x L ih=>
 have ih:=ih λb hb=>h b (h9 _ hb);rw[mJ,k7,rE];by_cases z:p x=true
 ·rw[hU z,kX,c8];have:=h x kM z;lia
 rw[hV z];lia)
theorem q66{L:List Nat}{p:Nat→Bool}:(L.filter p).length+(L.filter λb=>!p b).length=L.length:=by(
induction L with
|nil=>rfl
|cons x L ih=>
 rw[mJ,mJ,kX];cases z:p x with
 |true=>rw[hU rfl,hV (by decide),kX];lia
 |false=>rw[hV (by decide),hU (by decide),kX];lia)
theorem Wp.lt(w:Wp B P ie la g c a k)(h:k<(B-1-ie)*P):c<B:=by(
refine gR λz=>?_
have e:=q3H (L:=List.range B) (p:=λb=>decide (la b= -1)) (f:=fiW P la c a) (n:=P) λb hb hp=>by have hb:=mZ.mp hb;unfold fiW;rw[hU (by lia),hU (mK hp)];exact kB _
rw[w.ks]at e
have n:=q66 (L:=List.range B) (p:=λb=>decide (la b≠-1))
rw[gI]at n
have ni:=w.ni
have e2:((List.range B).filter λb=>!decide (la b≠-1))=(List.range B).filter λb=>decide (la b= -1):=by congr 1;funext b;by_cases y:la b= -1<;>simp[y]
rw[e2]at n
have:(B-1-ie)*P≤((List.range B).filter λb=>decide (la b= -1)).length*P:=pR P (by lia)
lia)
end
inductive Go(P:Nat)(la:Nat→Int)(g:Nat→Bool):Nat→Nat→List (Nat×Nat)→Nat→Nat→Prop
|stop {c a:Nat}:a<P→g c=false→la c≠(a:Int)→Go P la g c a [] c a
|full {c c' a':Nat} {F:List (Nat×Nat)}:Go P la g (c+1) 0 F c' a'→Go P la g c P F c' a'
|gone {c c' a':Nat} {F:List (Nat×Nat)}:g c=true→Go P la g (c+1) 0 F c' a'→Go P la g c 0 F c' a'
|fail {c a c' a':Nat} {F:List (Nat×Nat)}:g c=false→la c=(a:Int)→Go P la g (c+1) 0 F c' a'→Go P la g c a ((c,a)::F) c' a'
structure Wc(B P ie:Nat)(la:Nat→Int)(g:Nat→Bool)(c a k:Nat)(m:CM)(q:QM):Prop where
w:Wp B P ie la g c a k
qB:q.B=B
qP:q.P=P
bl:m.bl=(B:Int)
pg:m.pg=(P:Int)
lf:m.lf=none
cl:∀b,m.cl.getD b 0=0
li:∀b:Nat,b<B→valV m.lim (Sum.inl (b:Int))=if la b= -1 then none else some (.int (la b))
br:∀b,b<B→m.br.getD b false=(g b||(decide (b<c)&&decide (la b≠-1)))
fi:∀b,b<B→q.fi.getD b 0=(fiW P la c a b:Int)
dc:∀b,b<B→c≤b→g b=false→m.dc.getD b 0=((if b=c then a else 0:Nat):Int)
cr:∀b f:Nat,b<B→f<P→q.fi.getD b 0≤(f:Int)→m.bo.getD (b*P+f) .non=.non
section
variable{B P ie:Nat}{la:Nat→Int}{g:Nat→Bool}{c a k:Nat}{m:CM}{q:QM}
theorem Wc.full(w:Wc B P ie la g c P k m q):Wc B P ie la g (c+1) 0 k m q:=by(
have e:la c= -1:=by
 rcases(w.w.ac (by have:=w.w.p1;lia)).2 with z|z
 ·exact z
 rcases w.w.lb c with y|y
 ·exact y
 lia
refine { w with w:=w.w.full,br:=λb hb=>?_,fi:=λb hb=>by rw[w.fi b hb,q7N e],dc:=λb hb hc hg=>?_ }
·rw[w.br b hb];congr 1;by_cases z:b=c
 ·subst z;simp[e]
 rw[show decide (b<c+1)=decide (b<c)from dF.mpr (by lia)]
rw[w.dc b hb (by lia) hg,hV (by lia)]
split<;>rfl)
theorem Wc.gone(w:Wc B P ie la g c a k m q)(h:g c=true):a=0∧Wc B P ie la g (c+1) 0 k m q:=by(
have a0:=w.w.gone h
subst a0
have e:=w.w.gl c h
refine⟨rfl,{ w with w:=w.w.next e,br:=λb hb=>?_,fi:=λb hb=>by rw[w.fi b hb,q65 e],dc:=λb hb hc hg=>?_ }⟩
·rw[w.br b hb];by_cases z:b=c
 ·subst z;simp[h]
 rw[show decide (b<c+1)=decide (b<c)from dF.mpr (by lia)]
rw[w.dc b hb (by lia) hg,hV (by lia)]
split<;>rfl)
theorem Wc.good(w:Wc B P ie la g c a k m q)(hc:c<B)(h:g c=false):m.br.getD c false=false:=by rw[w.br c hc,h];simp
theorem Wc.fic(w:Wc B P ie la g c a k m q)(hc:c<B):q.fi.getD c 0=(a:Int):=by rw[w.fi c hc];unfold fiW;rw[hV (by lia),hU rfl]
theorem Wc.spent(w:Wc B P ie la g c a k m q)(hc:c<B)(h:g c=false)(hn:0<a→la c= -1∨(a:Int)≤la c):m.spent (c:Int)=decide (la c=(a:Int)):=by(
unfold CM.spent
rw[w.li c hc]
by_cases z:la c= -1
·rw[hU z,z];exact(hZ (by lia)).symm
rw[hV z]
have e:=w.dc c hc (kB _) h
rw[hU rfl]at e
show decide (la c≤m.dc.getD ((c:Int)).toNat 0)=_
rw[kR,e]
refine dF.mpr ?_
rcases w.w.lb c with y|y
·exact absurd y z
rcases wC a with z0|z0
·subst z0;lia
have:=hn z0
lia)
theorem Wc.spot(w:Wc B P ie la g c a k m q)(hc:c<B)(h:g c=false)(ha:a<P){l:List Nat}(hl:FreeIs q.B m.br m.cl q.fi l):q2V q.B q.P m.br q.fi l=some c:=by(
have hb:=w.good hc h
have hf:=w.fic hc
rw[w.qB]at hl ⊢
rw[w.qP]
have nx:∀b,b<B→m.br.getD b false=false→q.fi.getD b 0<(P:Int)→c≤b∧(b≠c→q.fi.getD b 0=0):=λb hb' gb fb=>by
 have e:=w.fi b hb';rw[w.br b hb',wP,pL,gC,gC]at gb;unfold fiW at e;by_cases y:b<c
 ·rw[hU y,hU (gb.2.elim (λz=>absurd y z) nG.mp)]at e;lia
 rw[hV y]at e;refine⟨by lia,λz=>?_⟩;rw[hV z]at e;exact e
unfold q2V
cases hp:uV B P m.br q.fi with
|some b=>
 obtain⟨b1,b2,b3,b4⟩:=q1G hp;obtain⟨n1,n2⟩:=nx b b1 b2 b4;by_cases z:b=c
 ·rw[z]
 have:=n2 z;lia
|none=>
 have np:=cL.mp hp c (vA.mpr ⟨hc,hb⟩);have a0:a=0:=by refine gR λz=>np ?_;unfold q09;rw[hf,hW (by lia),hW (by lia)];rfl
 subst a0;have cm:c∈l:=hl.pm.mem_iff.mpr (q2L.mpr ⟨⟨hc,hb⟩,hf⟩);cases l with
 |nil=>cases cm
 |cons x r=>
  show some x=some c;rcases kG.mp cm with z|z
  ·rw[z]
  obtain⟨x1,x2,x3⟩:=hl.mem (b:=x) kM;have:=(nx x x1 x2 (by rw[x3];have:=w.w.p1;lia)).1;have so:=List.rel_of_pairwise_cons hl.so (mH.mpr ⟨c,z,rfl⟩);unfold keyN lx at so;rw[w.cl c,w.cl x]at so;simp[lx]at so;congr 1;lia)
theorem Wc.bad(w:Wc B P ie la g c a k m q):(B:Int)-((jK q.B m.br).length:Int)≤(ie:Int)∧(jK q.B m.br).length≤B:=by(
rw[w.qB]
have n:=q66 (L:=List.range B) (p:=λb=>m.br.getD b false)
rw[gI]at n
have e:((List.range B).filter λb=>m.br.getD b false).length≤((List.range B).filter λb=>decide (la b≠-1)).length:=by
 have e2:((List.range B).filter λb=>m.br.getD b false)=((List.range B).filter λb=>decide (la b≠-1)).filter λb=>m.br.getD b false:=by
  rw[List.filter_filter];refine cS λb hb=>?_;have hb:=mZ.mp hb;cases z:m.br.getD b false with
  |false=>rfl
  |true=>
   rw[p6];symm;refine hW ?_;rw[w.br b hb,gL,kO,kI,kI]at z;rcases z with z|z
   ·rw[w.w.gl b z];decide
   exact z.2
 rw[e2];exact mL _ _
have:=w.w.ni
unfold jK
constructor
·lia
lia)
theorem Wc.ready(w:Wc B P ie la g c a k m q)(h:k<(B-1-ie)*P){l:List Nat}(hl:FreeIs q.B m.br m.cl q.fi l):rdy ((ie:Int)-((B:Int)-((jK q.B m.br).length:Int))) l (uV q.B q.P m.br q.fi)=true:=by(
have hc:=w.w.lt h
have hf:=w.fic hc
rw[w.qB]at hl ⊢
rw[w.qP]
have ll:=hl.pm.length_eq
unfold yO at ll
have n:=q66 (L:=jK B m.br) (p:=λb=>decide (q.fi.getD b 0=0))
have full:∀b∈jK B m.br,(!decide (q.fi.getD b 0=0))=true→b≠c→P≤fiW P la c a b:=λb hb hz hne=>by
 obtain⟨b1,b2⟩:=vA.mp hb;have e:=w.fi b b1;have hz:¬q.fi.getD b 0=0:=by simpa using hz
 rw[w.br b b1,wP,pL,gC,gC]at b2;unfold fiW at e ⊢;by_cases y:b<c
 ·rw[hU y,hU (b2.2.elim (λz=>absurd y z) nG.mp)];exact kB _
 rw[hV y,hV hne]at e;exact absurd e hz
have sub:∀f:Nat→Nat,((jK B m.br).map f).sum≤((List.range B).map f).sum:=λf=>by
 unfold jK;induction List.range B with
 |nil=>exact kB _
 |cons x L ih=>
  rw[mJ,k7,rE];split
  ·rw[k7,rE];lia
  lia
unfold rdy
rcases wC a with a0|a0
·subst a0;have u:=q3H (L:=jK B m.br) (p:=λb=>!decide (q.fi.getD b 0=0)) (f:=fiW P la c 0) (n:=P) λb hb hz=>full b hb hz λz=>by subst z;rw[hf]at hz;cases hz
 have s:=sub (fiW P la c 0);rw[w.w.ks]at s;have:((jK B m.br).filter λb=>!decide (q.fi.getD b 0=0)).length<B-1-ie:=rQ (a:=P) (by lia);rw[hW (show(l.length:Int)-(1+((ie:Int)-((B:Int)-((jK B m.br).length:Int))))>0 by lia)];rfl
obtain⟨hg,hla⟩:=w.w.ac a0
by_cases aP:a=P
·have u:=q3H (L:=jK B m.br) (p:=λb=>!decide (q.fi.getD b 0=0)) (f:=fiW P la c a) (n:=P) λb hb hz=>by
  by_cases z:b=c
  ·subst z;unfold fiW;rw[hV (by lia),hU rfl];lia
  exact full b hb hz z
 have s:=sub (fiW P la c a);rw[w.w.ks]at s;have:((jK B m.br).filter λb=>!decide (q.fi.getD b 0=0)).length<B-1-ie:=rQ (a:=P) (by lia);rw[hW (show(l.length:Int)-(1+((ie:Int)-((B:Int)-((jK B m.br).length:Int))))>0 by lia)];rfl
have aP':=w.w.aP
have pc:uV B P m.br q.fi≠none:=λz=>by have np:=cL.mp z c (vA.mpr ⟨hc,w.good hc hg⟩);refine np ?_;unfold q09;rw[hf,hW (by lia),hW (by lia)];rfl
have u:=q3H (L:=jK B m.br) (p:=λb=>!decide (q.fi.getD b 0=0)) (f:=λb=>fiW P la c a b+if b=c then P-a else 0) (n:=P) λb hb hz=>by
 by_cases z:b=c
 ·subst z;unfold fiW;rw[hV (by lia),hU rfl,hU rfl];lia
 rw[hV z];exact full b hb hz z
have s:=sub (λb=>fiW P la c a b+if b=c then P-a else 0)
have s2:∀L:List Nat,L.Nodup→(L.map λb=>fiW P la c a b+if b=c then P-a else 0).sum≤(L.map (fiW P la c a)).sum+(P-a):=λL nd=>by
 have aux:∀L:List Nat,L.Nodup→(c∉L→(L.map λb=>fiW P la c a b+if b=c then P-a else 0).sum=(L.map (fiW P la c a)).sum)∧(L.map λb=>fiW P la c a b+if b=c then P-a else 0).sum≤(L.map (fiW P la c a)).sum+(P-a):=λL=>by
  induction L with
  |nil=>exact λ_=>⟨λ_=>rfl,mO _⟩
  |cons x L ih=>
   intro nd;obtain⟨n1,n2⟩:=mM.mp nd;obtain⟨i1,i2⟩:=ih n2;simp only[k7,rE];by_cases z:x=c
   ·subst z;rw[hU rfl,i1 n1];exact⟨λy=>absurd kM y,by lia⟩
   rw[hV z];exact⟨λy=>by rw[i1 λy'=>y (h9 _ y')];rfl,by lia⟩
 exact(aux L nd).2
have s2:=s2 (List.range B) wN
rw[w.w.ks]at s2
have:((jK B m.br).filter λb=>!decide (q.fi.getD b 0=0)).length<B-1-ie+1:=rQ (a:=P) (by rw[c8];lia)
cases hp:uV B P m.br q.fi with
|none=>exact absurd hp pc
|some b=>
 by_cases z:(l.length:Int)-(1+((ie:Int)-((B:Int)-((jK B m.br).length:Int))))>0
 ·rw[hW z];rfl
 rw[hZ z,hW (show(l.length:Int)-(1+((ie:Int)-((B:Int)-((jK B m.br).length:Int))))=0 by lia)];rfl)
theorem Wc.fail(w:Wc B P ie la g c a k m q)(ok:m.Ok)(hc:c<B)(hg:g c=false)(h:la c=(a:Int)):Wc B P ie la g (c+1) 0 k (m.deed "put" ((c*P+a:Nat):Int) (c:Int) true) q:=by(
have nb:=ok.nbr
have eb:=w.bl
refine { w with w:=w.w.next h,lf:=?_,br:=λb hb=>?_,fi:=λb hb=>by rw[w.fi b hb,q65 h],dc:=λb hb hc' hg'=>?_ }
·show m.lf.map _=none;rw[w.lf];rfl
·show(m.br.set ((c:Int)).toNat true).getD b false=_;rw[kR,hG,mQ];by_cases z:c=b
 ·subst z;rw[hU rfl,hU (by lia)];simp[h]
 rw[hV z,←hG,w.br b hb,show decide (b<c+1)=decide (b<c)from dF.mpr (by lia)]
show(m.dc.set ((c:Int)).toNat _).getD b 0=_
rw[kR,hG,mQ,hV (by lia),←hG,w.dc b hb (by lia) hg',hV (by lia)]
split<;>rfl)
structure Spt(m:CM)(q:QM)(b f:Nat):Prop where
sp:∀l,FreeIs q.B m.br m.cl q.fi l→q2V q.B q.P m.br q.fi l=some b
ef:q.fi.getD b 0=(f:Int)
cr:m.bo.getD (b*q.P+f) .non=.non
lf:m.lf=none
hr:m.rc.length<1000000
theorem Wc.spt(w:Wc B P ie la g c a k m q)(hc:c<B)(hg:g c=false)(ha:a<P)(hr:m.rc.length<1000000):Spt m q c a:=⟨λl hl=>w.spot hc hg ha hl,w.fic hc,by rw[w.qP];exact w.cr c a hc ha (by rw[w.fic hc];exact d9 _),w.lf,hr⟩
noncomputable def putC(m:CM)(p:Nat)(st:V):CM:={ m.deed "put" (p:Int) ((p:Int) / m.pg) false with bo:=m.bo.set p st }
noncomputable def flN(m:CM)(q:QM):Int:=(q.B:Int)-((jK q.B m.br).length:Int)
inductive Ly(q:QM)(ie:Int):Nat→CM→CM→Nat→Nat→Prop
|here {m:CM} {b f:Nat}:Spt m q b f→m.spent (b:Int)=false→Ly q ie 0 m m b f
|fail {n:Nat} {m m':CM} {b f b' f':Nat}:Spt m q b f→m.spent (b:Int)=true→flN (m.deed "put" ((b*q.P+f:Nat):Int) (b:Int) true) q≤ie→Ly q ie n (m.deed "put" ((b*q.P+f:Nat):Int) (b:Int) true) m' b' f'→Ly q ie (n+1) m m' b' f'
noncomputable def flR(P:Nat)(F:List (Nat×Nat)):List (Str×Int×Bool):=F.map λx=>(("put":Str),((x.1*P+x.2:Nat):Int),false)
theorem qGM{F:List (Nat×Nat)}{c' a':Nat}(h:Go P la g c a F c' a'):∀{m:CM},Wc B P ie la g c a k m q→m.Ok→k<(B-1-ie)*P→m.rc.length+(B-c)<1000000→∃n m',Ly q ie n m m' c' a'∧Wc B P ie la g c' a' k m' q∧m'.Ok∧a'<P∧g c'=false∧la c'≠(a':Int)∧m'.rc=m.rc++flR P F∧m'.bo=m.bo∧m'.rc.length+(B-c')<1000000∧n=F.length:=by(
induction h with
|stop h1 h2 h3=>intro m w ok hk hr;have hc:=w.w.lt hk;refine⟨0,m,.here (w.spt hc h2 h1 (by lia)) ?_,w,ok,h1,h2,h3,by simp[flR],rfl,hr,rfl⟩;rw[w.spent hc h2 (λz=>(w.w.ac z).2)];exact hZ h3
|full _ ih=>intro m w ok hk hr;have hc:=w.w.lt hk;exact ih w.full ok hk (by lia)
|gone hg _ ih=>intro m w ok hk hr;have hc:=w.w.lt hk;exact ih (w.gone hg).2 ok hk (by lia)
|@fail c a c' a' F hg hl _ ih=>
 intro m w ok hk hr;have hc:=w.w.lt hk;have ha:a<P:=by rcases w.w.lb c with z|z<;>lia
 have w':=w.fail ok hc hg hl;obtain⟨n,m',l1,l2,l3,l4,l5,l6,l7,l8,l9,l10⟩:=ih w' (ok.deed (by lia)) hk (by show(m.rc++[_]).length+ _ < _;rw[kZ,rF];lia);refine⟨n+1,m',.fail (w.spt hc hg ha (by lia)) ?_ ?_ (by rw[w.qP];exact l1),l2,l3,l4,l5,l6,?_,l8,l9,by rw[l10];rfl⟩
 ·rw[w.spent hc hg (λz=>(w.w.ac z).2)];exact hW hl
 ·unfold flN;rw[w.qP];have:=w'.bad.1;rw[w.qB]at this ⊢;exact this
 rw[l7];show(m.rc++[_])++flR P F=_;rw[wG];rfl)
theorem Wc.put{st:V}{n:Int}(w:Wc B P ie la g c a k m q)(ok:m.Ok)(oq:q.Ok)(hc:c<B)(hg:g c=false)(hl:la c≠(a:Int))(ha:a<P):Wc B P ie la g c (a+1) (k+1) (putC m (c*P+a) st) (q.put c a n):=by(
have e1:((c*P+a:Nat):Int) / m.pg=(c:Int):=by rw[w.pg,←wM,q0Y ha]
have nd:=ok.ndc
have nf:=oq.lf
have eb:=w.bl
have qB:=w.qB
have fe:∀b,fiW P la c (a+1) b=if b=c then a+1 else fiW P la c a b:=λb=>by
 unfold fiW;by_cases z:b=c
 ·rw[hU z,hV (by lia),hU z]
 rw[hV z,hV z];split<;>rfl
have fi':∀b,b<B→(q.fi.set c (q.fi.getD c 0+1)).getD b 0=(fiW P la c (a+1) b:Int):=λb hb=>by
 rw[hG,mQ,fe];by_cases z:c=b
 ·subst z;rw[hU rfl,hU (by lia),hU rfl,w.fic hc];rfl
 rw[hV z,hV (λy=>z y.symm),←hG,w.fi b hb]
refine { w:=⟨w.w.p1,ha,λ_=>⟨hg,?_⟩,w.w.lb,w.w.gl,?_,w.w.ni⟩,qB:=w.qB,qP:=w.qP,bl:=w.bl,pg:=w.pg,lf:=?_,cl:=w.cl,li:=w.li,br:=λb hb=>?_,fi:=fi',dc:=λb hb hc' hg'=>?_,cr:=λb f hb hf h=>?_ }
·rcases wC a with z|z
 ·subst z;rcases w.w.lb c with y|y
  ·exact .inl y
  exact .inr (by lia)
 rcases(w.w.ac z).2 with y|y
 ·exact .inl y
 exact .inr (by lia)
·have:=qDB (L:=List.range B) (f:=fiW P la c (a+1)) (g:=fiW P la c a) (b:=c) wN (mZ.mpr hc) λb _ z=>by rw[fe,hV z]
 rw[w.w.ks,fe,hU rfl]at this;have:fiW P la c a c=a:=by unfold fiW;rw[hV (by lia),hU rfl]
 lia
·show m.lf.map _=none;rw[w.lf];rfl
·exact w.br b hb
·show(m.dc.set (((c*P+a:Nat):Int) / m.pg).toNat _).getD b 0=_;rw[e1,kR,hG,mQ];have e2:=w.dc c hc (kB _) hg;rw[hU rfl]at e2;by_cases z:c=b
 ·subst z;rw[hU rfl,hU (by lia),hU rfl,e2];rfl
 rw[hV z,←hG,w.dc b hb hc' hg',hV (λy=>z y.symm),hV (λy=>z y.symm)]
show(m.bo.set (c*P+a) st).getD (b*P+f) .non=.non
have h:(q.fi.set c (q.fi.getD c 0+1)).getD b 0≤(f:Int):=h
have fb:=fi' b hb
rw[fb,fe]at h
have ne:c*P+a≠b*P+f:=λz=>by have d1:=q0Y (P:=P) (b:=c) ha;have d2:=q0Y (P:=P) (b:=b) hf;rw[z,d2]at d1;subst d1;rw[hU rfl]at h;lia
rw[hG,mQ,hV ne,←hG]
refine w.cr b f hb hf ?_
rw[w.fi b hb]
by_cases z:b=c
·subst z;rw[hU rfl]at h;have:fiW P la b a b=a:=by unfold fiW;rw[hV (by lia),hU rfl]
 lia
rw[hV z]at h
exact h)
theorem Ly.at{n b f:Nat}{m':CM}{ie:Int}(h:Ly q ie n m m' b f)(oq:q.Ok):b<q.B∧f<q.P∧q.fi.getD b 0=(f:Int):=by(
induction h with
|here sp _=>obtain⟨l,hl⟩:=FreeIs.ex q.B _ _ q.fi;obtain⟨h1,h2,h3,h4⟩:=q45 hl oq.p1 (sp.sp l hl);have ef:=sp.ef;exact⟨h1,by lia,ef⟩
|fail _ _ _ _ ih=>exact ih)
end
theorem q67{p p':Nat→Bool}{b:Nat}(h1:p b=true)(h2:p' b=false):∀{L:List Nat},L.Nodup→b∈L→(∀c∈L,c≠b→p c=p' c)→(L.filter p).length=(L.filter p').length+1
| [],_,h,_=>by cases h
|x::L,nd,h,e=>by
 obtain⟨n1,n2⟩:=mM.mp nd;rw[mJ,mJ];by_cases z:x=b
 ·subst z;rw[hU h1,hV (by rw[h2];decide),kX,cS λc hc=>e c (h9 _ hc) λy=>n1 (y▸hc)]
 have ih:=q67 h1 h2 n2 ((kG.mp h).resolve_left λy=>z y.symm) λc hc=>e c (h9 _ hc);rw[e x kM z];split
 ·rw[kX,kX,ih]
 exact ih
theorem q7O{m:CM}{q:QM}{wd:Str}{pl:Int}{b:Nat}(hb:b<q.B)(hbr:m.br.getD b false=false)(hl:m.br.length=q.B):flN (m.deed wd pl (b:Int) true) q=flN m q+1:=by
 unfold flN jK;have:=q67 (p:=λb=>!(m.br.getD b false)) (p':=λc=>!((m.deed wd pl (b:Int) true).br.getD c false)) (b:=b) (L:=List.range q.B) (by show(!(m.br.getD b false))=true;rw[hbr];rfl) (by show(!((m.br.set ((b:Int)).toNat true).getD b false))=false;rw[kR,hG,mQ,hU rfl,hU (by lia)];rfl) wN (mZ.mpr hb) λc _ z=>by show _=(!((m.br.set ((b:Int)).toNat true).getD c false));rw[kR,hG (l:=m.br.set b true),mQ,hV (λy=>z y.symm),←hG]
 lia
theorem Ly.fl{q:QM}{ie:Int}{n b f:Nat}{m m':CM}(h:Ly q ie n m m' b f)(oq:q.Ok):m.br.length=q.B→flN m' q=flN m q+n:=by(
induction h with
|here _ _=>exact λ_=>by simp
|@fail n m m' b f b' f' sp _ _ _ ih=>intro hl;obtain⟨l,hl'⟩:=FreeIs.ex q.B m.br m.cl q.fi;obtain⟨h1,h2,_⟩:=q45 hl' oq.p1 (sp.sp l hl');have e:=ih (by show(m.br.set _ true).length=_;rw[m7];exact hl);rw[e,q7O h1 h2 hl];lia)
theorem q5K{bl:Int}{b:Int}{d:V}:∀{its:List (V×V)} {acc lim:List (Key×V)},limM bl its acc=some lim→0≤b∧b≤bl-1→valV lim (Sum.inl b)=none→inB d 0 1000000=true→limM bl (its++[(.int b,d)]) acc=some (putK lim (Sum.inl b) d)
| [],acc,lim,h,hb,hn,hd=>by cases h;exact(q0W hb (by rw[hn];decide) hd).trans rfl
|(x,y)::r,acc,lim,h,hb,hn,hd=>by
 have h:limM bl ((x,y)::r) acc=some lim:=h;cases x with
 |int i=>
  by_cases z1:inB (.int i) 0 (bl-1)=true
  ·obtain⟨j,e,j0,j1⟩:=q5U z1;injection e with e
   subst e;by_cases z2:(valV acc (Sum.inl i)).isSome=true
   ·rw[q3X ⟨j0,j1⟩ z2]at h;cases h
   by_cases z3:inB y 0 1000000=true
   ·rw[q0W ⟨j0,j1⟩ z2 z3]at h;rw[cV,q0W ⟨j0,j1⟩ z2 z3];exact q5K h hb hn hd
   rw[q3Y ⟨j0,j1⟩ z2 z3]at h;cases h
  rw[q7B (bd:=(.int i,y)) z1]at h;cases h
 |_=>cases h
section
variable{B P ie:Nat}{la:Nat→Int}{g:Nat→Bool}{c a k:Nat}{m:CM}{q:QM}{b:Nat}
theorem Wc.spent0(w:Wc B P ie la g 0 0 k m q)(hb:b<B)(hg:g b=false)(h:la b=0):m.spent (b:Int)=true:=by(
unfold CM.spent
rw[w.li b hb,h,hV (by decide)]
show decide ((0:Int)≤m.dc.getD ((b:Int)).toNat 0)=true
rw[kR,w.dc b hb (mO _) hg]
exact hW (by lia))
theorem Wc.wipe(w:Wc B P ie la g 0 0 k m q)(ok:m.Ok)(hb:b<B)(hg:g b=false)(h:la b=0):Wc B P ie la (λc=>g c||decide (c=b)) 0 0 k (m.deed "wipe" (b:Int) (b:Int) true) q:=by(
have nb:=ok.nbr
have eb:=w.bl
refine { w with w:=⟨w.w.p1,w.w.aP,λz=>by lia,w.w.lb,λc z=>?_,w.w.ks,w.w.ni⟩,lf:=?_,br:=λc hc=>?_,dc:=λc hc hc' hg'=>?_ }
·rw[gL,kI]at z;rcases z with z|z
 ·exact w.w.gl c z
 rw[z];exact h
·show m.lf.map _=none;rw[w.lf];rfl
·show(m.br.set ((b:Int)).toNat true).getD c false=_;have e:=w.br c hc;rw[kR,hG,mQ];by_cases z:b=c
 ·subst z;rw[hU rfl,hU (by lia)];simp
 rw[hV z,←hG,e];have:¬c=b:=λy=>z y.symm;simp[this]
have hg':(g c||decide (c=b))=false:=hg'
rw[wP,gC]at hg'
show(m.dc.set ((b:Int)).toNat _).getD c 0=_
rw[kR,hG,mQ,hV (λy=>hg'.2 y.symm),←hG]
exact w.dc c hc hc' hg'.1)
end
structure Mn where
B:Nat
ie:Nat
P:Nat
c:Nat
a:Nat
st:Nat
fl:Nat
lg:Addr
la:Addr
ls:Addr
gn:Addr
hf:Int
so:Nat
noncomputable def mD(x:Mn):List (Key×V):=[(.inr "blocks",.int (x.B:Int)),(.inr "ill",.int (x.ie:Int)),(.inr "pages",.int (x.P:Int)),(.inr "block",.int (x.c:Int)),(.inr "at",.int (x.a:Int)),(.inr "stamp",.int (x.st:Int)),(.inr "failures",.int (x.fl:Int)),(.inr "log",.ref x.lg),(.inr "lasts",.ref x.la),(.inr "last",.ref x.ls),(.inr "gone",.ref x.gn),(.inr "half",.int x.hf),(.inr "some",.int (x.so:Int))]
theorem mD_c{x:Mn}{n:Nat}:putK (mD x) (.inr "block":Key) (.int (n:Int))=mD { x with c:=n }:=rfl
theorem mD_a{x:Mn}{n:Nat}:putK (mD x) (.inr "at":Key) (.int (n:Int))=mD { x with a:=n }:=rfl
theorem qGN{x:Mn}{n:Nat}:putK (mD x) (.inr "stamp":Key) (.int (n:Int))=mD { x with st:=n }:=rfl
theorem qGO{x:Mn}{n:Nat}:putK (mD x) (.inr "failures":Key) (.int (n:Int))=mD { x with fl:=n }:=rfl
structure Mi(H:Hp)(mi:Addr)(x:Mn)(la:List Int)(W G:Mp)(lg:List (Str×Int×Bool)):Prop where
hm:H mi=some (.dK (mD x))
hl:H x.la=some (.lst (la.map V.int))
hw:H x.ls=some (.dK (dI W))
hg:H x.gn=some (.dK (dB G))
hr:∃rs,H x.lg=some (.lst rs)∧Recd H rs lg
nd:[mi,x.la,x.ls,x.gn,x.lg].Nodup
section
variable{H H':Hp}{mi:Addr}{x:Mn}{la:List Int}{W G:Mp}{lg:List (Str×Int×Bool)}
theorem Mi.keep{F:List Addr}(h:Mi H mi x la W G lg)(k:Keep F H H')(n:∀b∈[mi,x.la,x.ls,x.gn,x.lg],b∉F):Mi H' mi x la W G lg:=by obtain⟨rs,e,r⟩:=h.hr;exact⟨k.k _ _ (n _ (by simp)) h.hm,k.k _ _ (n _ (by simp)) h.hl,k.k _ _ (n _ (by simp)) h.hw,k.k _ _ (n _ (by simp)) h.hg,⟨rs,k.k _ _ (n _ (by simp)) e,r.keep k⟩,h.nd⟩
theorem Mi.same(h:Mi H mi x la W G lg)(s:Same H H'):Mi H' mi x la W G lg:=h.keep (F:=[]) (Keep.same s) (by simp)
theorem Mi.ne(h:Mi H mi x la W G lg):(mi≠x.la∧mi≠x.ls∧mi≠x.gn∧mi≠x.lg)∧(x.la≠x.ls∧x.la≠x.gn∧x.la≠x.lg)∧(x.ls≠x.gn∧x.ls≠x.lg)∧x.gn≠x.lg:=by(
have:=h.nd
simp only[mM,kG,mC,not_or,gS]at this
obtain⟨⟨a1,a2,a3,a4⟩,⟨b1,b2,b3⟩,⟨c1,c2⟩,d1,_⟩:=this
exact⟨⟨a1,a2,a3,a4⟩,⟨b1,b2,b3⟩,⟨c1,c2⟩,d1⟩)
theorem Mi.set(h:Mi H mi x la W G lg)(y:Mn)(e1:y.la=x.la)(e2:y.ls=x.ls)(e3:y.gn=x.gn)(e4:y.lg=x.lg):Mi (upd H mi (.dK (mD y))) mi y la W G lg:=by(
obtain⟨⟨a1,a2,a3,a4⟩,_⟩:=h.ne
obtain⟨rs,e,r⟩:=h.hr
have k:Keep [mi] H (upd H mi (.dK (mD y))):=Keep.upd h.hm (λ_ z=>by cases z) (by simp)
refine⟨qJ,?_,?_,?_,⟨rs,?_,r.keep k⟩,by rw[e1,e2,e3,e4];exact h.nd⟩
·rw[e1,qD a1.symm];exact h.hl
·rw[e2,qD a2.symm];exact h.hw
·rw[e3,qD a3.symm];exact h.hg
rw[e4,qD a4.symm];exact e)
theorem Mi.setLa(h:Mi H mi x la W G lg)(v:List Int):Mi (upd H x.la (.lst (v.map V.int))) mi x v W G lg:=by(
obtain⟨⟨a1,a2,a3,a4⟩,⟨b1,b2,b3⟩,_⟩:=h.ne
obtain⟨rs,e,r⟩:=h.hr
have k:Keep [x.la] H (upd H x.la (.lst (v.map V.int))):=Keep.upd h.hl (λ_ z=>by cases z) (by simp)
exact⟨by rw[qD a1];exact h.hm,qJ,by rw[qD b1.symm];exact h.hw,by rw[qD b2.symm];exact h.hg,⟨rs,by rw[qD b3.symm];exact e,r.keep k⟩,h.nd⟩)
theorem Mi.setW(h:Mi H mi x la W G lg)(v:Mp):Mi (upd H x.ls (.dK (dI v))) mi x la v G lg:=by(
obtain⟨⟨a1,a2,a3,a4⟩,⟨b1,b2,b3⟩,⟨c1,c2⟩,_⟩:=h.ne
obtain⟨rs,e,r⟩:=h.hr
have k:Keep [x.ls] H (upd H x.ls (.dK (dI v))):=Keep.upd h.hw (λ_ z=>by cases z) (by simp)
exact⟨by rw[qD a2];exact h.hm,by rw[qD b1];exact h.hl,qJ,by rw[qD c1.symm];exact h.hg,⟨rs,by rw[qD c2.symm];exact e,r.keep k⟩,h.nd⟩)
theorem Mi.setG(h:Mi H mi x la W G lg)(v:Mp):Mi (upd H x.gn (.dK (dB v))) mi x la W v lg:=by(
obtain⟨⟨a1,a2,a3,a4⟩,⟨b1,b2,b3⟩,⟨c1,c2⟩,d1⟩:=h.ne
obtain⟨rs,e,r⟩:=h.hr
have k:Keep [x.gn] H (upd H x.gn (.dK (dB v))):=Keep.upd h.hg (λ_ z=>by cases z) (by simp)
exact⟨by rw[qD a3];exact h.hm,by rw[qD b2];exact h.hl,by rw[qD c1];exact h.hw,qJ,⟨rs,by rw[qD d1.symm];exact e,r.keep k⟩,h.nd⟩)
theorem Mi.addR{p:Addr}{rs:List V}{d:Str×Int×Bool}(h:Mi H mi x la W G lg)(e:H x.lg=some (.lst rs))(r:Recd H rs lg)(hp:H p=some (.tup [.str d.1,.int d.2.1,.bl d.2.2])):Mi (upd H x.lg (.lst (rs++[.ref p]))) mi x la W G (lg++[d]):=by obtain⟨⟨a1,a2,a3,a4⟩,⟨b1,b2,b3⟩,⟨c1,c2⟩,d1⟩:=h.ne;have k:Keep [x.lg] H (upd H x.lg (.lst (rs++[.ref p]))):=Keep.upd e (λ_ z=>by cases z) (by simp);exact⟨by rw[qD a4];exact h.hm,by rw[qD b3];exact h.hl,by rw[qD c2];exact h.hw,by rw[qD d1];exact h.hg,⟨_,qJ,L2.Paired.snoc (r.keep k) ⟨p,rfl,k.tp _ _ hp⟩⟩,h.nd⟩
theorem Mi.pc{v:V}{n:Nat}(h:Mi H mi x la W G lg)(e:v=.int (n:Int)):Mi (upd H mi (.dK (putK (mD x) (.inr "block") v))) mi { x with c:=n } la W G lg:=by rw[e,mD_c];exact h.set _ rfl rfl rfl rfl
theorem Mi.pa{v:V}{n:Nat}(h:Mi H mi x la W G lg)(e:v=.int (n:Int)):Mi (upd H mi (.dK (putK (mD x) (.inr "at") v))) mi { x with a:=n } la W G lg:=by rw[e,mD_a];exact h.set _ rfl rfl rfl rfl
theorem Mi.ps{v:V}{n:Nat}(h:Mi H mi x la W G lg)(e:v=.int (n:Int)):Mi (upd H mi (.dK (putK (mD x) (.inr "stamp") v))) mi { x with st:=n } la W G lg:=by rw[e,qGN];exact h.set _ rfl rfl rfl rfl
theorem Mi.pf{v:V}{n:Nat}(h:Mi H mi x la W G lg)(e:v=.int (n:Int)):Mi (upd H mi (.dK (putK (mD x) (.inr "failures") v))) mi { x with fl:=n } la W G lg:=by rw[e,qGO];exact h.set _ rfl rfl rfl rfl
theorem Mi.kp{o:HO}(h:Mi H mi x la W G lg){F:List Addr}(hF:mi∈F):Keep F H (upd H mi o):=Keep.upd h.hm (λ_ z=>by cases z) hF
end
end W1
namespace L2
open PySem PySem.Spec PyProof.Rows
structure Fn1(K:PySem.W.Frag)(x q:Str)(st:Stmt)(f:Addr)(ps:List Str) where
fd:FuncData
F:FunD K x q st .none f fd
b:jO K fd ps []
noncomputable abbrev Fn1.Ok0{K:PySem.W.Frag}{x q:Str}{st:Stmt}{f:Addr}{ps:List Str}(F:Fn1 K x q st f ps)(P:Program)(w:World)(mg:Str→Option Value)(base:Heap)(k:Nat)(sp:Sp):Prop:=FnOk P w K mg base CX0 k f F.fd ps sp
noncomputable abbrev Fn1.OkE{K:PySem.W.Frag}{x q:Str}{st:Stmt}{f:Addr}{ps:List Str}(F:Fn1 K x q st f ps)(P:Program)(w:World)(mg:Str→Option Value)(base:Heap)(k:Nat)(sp:Sp):Prop:=FnOk P w K mg base (CXe P w) k f F.fd ps sp
noncomputable abbrev FnX(K:PySem.W.Frag)(x q:Str)(st:Stmt)(f:Addr):Prop:=∃fd,FunD K x q st .none f fd
section
variable{K:PySem.W.Frag}{x q:Str}{st:Stmt}{f:Addr}{ps:List Str}
noncomputable def BnX(x q:Str)(st:Stmt)(ps:List Str):Prop:=∀(kV doc pm:Value) (an:Option Addr) (cdv ct:Value) (us:List Value),us.length=ps.length→bindArgs (PySem.W.fnOf x q (yB st) (jR st) (qH st) .none kV doc pm an cdv ct) ⟨us,[]⟩=pure (ps.zip us)
theorem fn1b(h:BnX x q st ps){fd:FuncData}(F:FunD K x q st .none f fd):jO K fd ps []:=by obtain⟨oc,od,kV,doc,pm,an,cdv,ct,osl,rfl,lk,hcd⟩:=F.ex;exact jO.all λus hl=>h kV doc pm an cdv ct us hl
theorem lnx{us:List Value}{n:Nat}(h:us.length=n):us=(List.range n).map (us.getD · .none):=by subst h;refine cX (by simp) λi h1 h2=>?_;simp[kE h1]
theorem bnx(h:∀kV doc pm an cdv ct (g:Nat→Value),bindArgs (PySem.W.fnOf x q (yB st) (jR st) (qH st) .none kV doc pm an cdv ct) ⟨(List.range ps.length).map g,[]⟩=pure (ps.zip ((List.range ps.length).map g))):BnX x q st ps:=λkV doc pm an cdv ct us hl=>by rw[lnx hl];exact h ..
noncomputable def fn1 (l:FnX K x q st f) (h:∀kV doc pm an cdv ct (g:Nat→Value),bindArgs (PySem.W.fnOf x q (yB st) (jR st) (qH st) .none kV doc pm an cdv ct) ⟨(List.range ps.length).map g,[]⟩=pure (ps.zip ((List.range ps.length).map g)):=by intros;rfl):Fn1 K x q st f ps:=⟨l.choose,l.choose_spec,fn1b (bnx h) l.choose_spec⟩
theorem FnX.bind1{a:Str}{fd:FuncData}(h:∀kV doc pm an cdv ct u,bindArgs (PySem.W.fnOf x q (yB st) (jR st) (qH st) .none kV doc pm an cdv ct) ⟨[u],[]⟩=pure [(a,u)])(F:FunD K x q st .none f fd)(s:Shared)(v:Value):BindsTo s fd ⟨[v],[]⟩ [(a,v)]:=by obtain⟨oc,od,kV,doc,pm,an,cdv,ct,osl,rfl,lk,hcd⟩:=F.ex;exact .of_eq (h kV doc pm an cdv ct v)
theorem FnX.of{oc:Value}{od an:Option Addr}{osl:Array (Option Value)}{kV doc pm cdv ct:Value}(l:K.lookup f=some ⟨oc,od,.func (PySem.W.fnOf x q (yB st) (jR st) (qH st) .none kV doc pm an cdv ct),osl⟩)(c:PySem.W.codeIn K cdv q=true):FnX K x q st f:=⟨_,FunD.mk' l c⟩
theorem qW{N P:List Str}{sc:Scope}(h:(sc.kind=.function∧sc.isCoroutine=false∧sc.isGenerator=false)∧N.Nodup∧N.take P.length=P∧(∀x∈P,sc.names.lookup x=some .local∨sc.names.lookup x=some .cell)∧∀y∈sc.names,y.2≠ .free):FnScope N P sc:=⟨h.1.1,h.1.2.1,h.1.2.2,h.2.1,h.2.2.1,h.2.2.2.1,h.2.2.2.2⟩
end
noncomputable abbrev GFn(K:PySem.W.Frag)(n:Str)(f:Addr):Prop:=PySem.W.nsIn K mainGlobals n=some (some (.ref f))∧PySem.W.keepIn K (.ref f)=true
theorem sz0:0≤sizeLine:=by decide
theorem sz1:1≤sizeLine:=by decide
theorem sz2:2≤sizeLine:=by decide
theorem sz3:3≤sizeLine:=by decide
end L2
namespace W1
open PySem L2
noncomputable def top(i:Nat):Stmt:=PySem.Challenge.pw_wornpages_k51_a_put_that_fails.main.body.getD i (.Pass ⟨0,0,0,0⟩)
noncomputable abbrev yP:Stmt:=(qT (top 6) 0)
noncomputable abbrev q1J:Stmt:=(top 16)
noncomputable abbrev q0A:Stmt:=(top 17)
noncomputable abbrev q1K:Stmt:=(top 18)
noncomputable abbrev q1L:Stmt:=(top 19)
noncomputable abbrev q2M:Stmt:=(top 23)
noncomputable abbrev q2N:Stmt:=(top 24)
noncomputable abbrev q0B:Stmt:=(qT (top 26) 0)
noncomputable abbrev q0C:Stmt:=(qT (top 26) 1)
noncomputable abbrev q0D:Stmt:=(qT (top 26) 2)
noncomputable abbrev vW:Stmt:=(qT (top 26) 3)
noncomputable abbrev q0E:Stmt:=(qT (top 26) 7)
noncomputable abbrev zP:Stmt:=(qT (top 28) 0)
noncomputable abbrev zQ:Stmt:=(qT (top 28) 1)
noncomputable abbrev jL:Stmt:=(qT (top 28) 2)
noncomputable abbrev zR:Stmt:=(qT (top 28) 3)
noncomputable abbrev zS:Stmt:=(qT (top 28) 4)
noncomputable abbrev vX:Stmt:=(qT (top 28) 6)
noncomputable abbrev uG:Stmt:=(qT (top 28) 8)
noncomputable abbrev vY:Stmt:=(qT (top 28) 10)
noncomputable abbrev uQ:Stmt:=(qT (top 28) 11)
noncomputable abbrev zT:Stmt:=(qT (top 28) 12)
noncomputable abbrev zU:Stmt:=(qT (top 28) 13)
noncomputable abbrev yJ:Stmt:=(qT (top 28) 14)
noncomputable abbrev yK:Stmt:=(qT (top 28) 15)
noncomputable abbrev zV:Stmt:=(qT (top 31) 0)
noncomputable abbrev yQ:Stmt:=(qT (top 31) 16)
noncomputable abbrev uR:Stmt:=(qT (top 35) 0)
noncomputable abbrev q0F:Stmt:=(qT (top 35) 1)
noncomputable abbrev vB:Stmt:=(qT (top 35) 2)
noncomputable abbrev q1M:Stmt:=(qT (top 35) 3)
noncomputable abbrev y7:Stmt:=(qT (top 35) 4)
noncomputable abbrev yZ:Stmt:=(qT (top 35) 6)
noncomputable abbrev u9:Stmt:=(qT (top 35) 7)
noncomputable abbrev q0G:Stmt:=(top 37)
noncomputable abbrev yU:Stmt:=(qT (top 38) 0)
noncomputable abbrev q1N:Stmt:=(qT (top 38) 1)
noncomputable abbrev q0H:Stmt:=(qT (top 38) 2)
noncomputable abbrev q0I:Stmt:=(qT (top 38) 3)
noncomputable abbrev vC:Stmt:=(qT (top 38) 6)
noncomputable abbrev vD:Stmt:=(qT (top 38) 7)
noncomputable abbrev vZ:Stmt:=(qT (top 38) 8)
noncomputable abbrev zW:Stmt:=(qT (top 38) 9)
noncomputable abbrev uA:Stmt:=(qT (top 38) 10)
noncomputable abbrev yR:Stmt:=(qT (top 38) 11)
noncomputable abbrev yS:Stmt:=(qT (top 38) 12)
noncomputable abbrev uB:Stmt:=(qT (top 38) 13)
noncomputable abbrev uS:Stmt:=(qT (top 38) 14)
noncomputable abbrev vE:Stmt:=(qT (top 38) 15)
noncomputable abbrev yH:Stmt:=(qT (top 45) 0)
noncomputable abbrev vF:Stmt:=(qT (top 45) 1)
noncomputable abbrev zA:Stmt:=(top 47)
noncomputable abbrev q0J:Stmt:=(top 48)
noncomputable abbrev q0K:Stmt:=(top 49)
noncomputable abbrev q1O:Stmt:=(top 50)
noncomputable abbrev q1P:Stmt:=(top 51)
noncomputable abbrev q0L:Stmt:=(top 52)
noncomputable abbrev q1Q:Stmt:=(top 53)
noncomputable abbrev q0M:Stmt:=(top 54)
noncomputable abbrev q1R:Stmt:=(top 55)
noncomputable abbrev zX:Stmt:=(top 56)
noncomputable abbrev qBY:Stmt:=(top 57)
set_option genInjectivity false in
structure Adr where
(f_BlockFailed_init f_is_whole f_is_within f_is_shape f_is_value f_mark_of f_bits_of f_Book_init f_Book_mark f_Book_note f_Book_forget f_Book_held f_Plain_init f_Plain_good f_Plain_free f_Plain_part f_Plain_spot f_Plain_ready f_Plain_set_down f_Plain_write f_Plain_give_up f_Plain_read f_Plain_held f_Plain_check_sheet f_Plain_check_share f_Store_init f_Store_make_rooms f_Sure_failures f_Sure_worn f_Sure_reserve f_Sure_lay f_Sure_set_down_or_fail f_Sure_make_ready f_Sure_check_worn f_limits_of f_Chip_init f_Chip_put f_Chip_wipe f_Chip_read f_Chip_is_dark f_Chip_cleared f_Chip_failed f_Chip_deeds f_Chip_check_page f_Chip_check_block f_Chip_check_power f_Chip_check_deed f_Chip_is_spent f_Chip_do_deed f_Terms_init f_Terms_closed f_law_cell_at f_law_whole f_law_shape f_law_ills f_law_next f_law_wiped f_law_bits f_law_bears f_law_step f_law_counts f_law C_Book C_Plain C_Store C_Even C_Sure C_Chip C_Fewest C_Terms C_WornError C_BlockFailed:Addr)
b8:Tok
oZ:Tok
iO:Tok
iJ:Addr
aA:Addr
o0:Addr
aR:Addr
structure Txt(K:W.Frag)(mg:Str→Option Value)(t:Adr):Prop where
aAM:mg "Book"=some (.ref t.C_Book)
aG:Cls K t.C_Book
oG:qO K t.C_Book "blocks"
eQ:qO K t.C_Book "pages"
bW:qO K t.C_Book "stamp"
aY:qO K t.C_Book "where"
eY:qO K t.C_Book "live"
aQ:qO K t.C_Book "filled"
iK:qO K t.C_Book "born"
tY:Meth K t.C_Book "mark" t.f_Book_mark
tQ:Meth K t.C_Book "note" t.f_Book_note
f8:Meth K t.C_Book "forget" t.f_Book_forget
xC:Meth K t.C_Book "held" t.f_Book_held
aAK:Mk K t.C_Book t.f_Book_init
xM:mg "Plain"=some (.ref t.C_Plain)
x8:mg "Store"=some (.ref t.C_Store)
aAJ:mg "Even"=some (.ref t.C_Even)
aAF:mg "Sure"=some (.ref t.C_Sure)
aB:Cls K t.C_Sure
aV:qO K t.C_Sure "chip"
aH:qO K t.C_Sure "terms"
aL:qO K t.C_Sure "book"
tH:qO K t.C_Sure "rule"
fR:qO K t.C_Sure "papers"
bG:Meth K t.C_Sure "failures" t.f_Sure_failures
i3:Meth K t.C_Sure "worn" t.f_Sure_worn
eC:Meth K t.C_Sure "reserve" t.f_Sure_reserve
oH:Meth K t.C_Sure "lay" t.f_Sure_lay
eT:Meth K t.C_Sure "set_down_or_fail" t.f_Sure_set_down_or_fail
eN:Meth K t.C_Sure "make_ready" t.f_Sure_make_ready
eG:Meth K t.C_Sure "check_worn" t.f_Sure_check_worn
iE:Meth K t.C_Sure "make_rooms" t.f_Store_make_rooms
fT:Meth K t.C_Sure "good" t.f_Plain_good
i8:Meth K t.C_Sure "free" t.f_Plain_free
iS:Meth K t.C_Sure "part" t.f_Plain_part
tW:Meth K t.C_Sure "spot" t.f_Plain_spot
o6:Meth K t.C_Sure "ready" t.f_Plain_ready
i6:Meth K t.C_Sure "set_down" t.f_Plain_set_down
o8:Meth K t.C_Sure "write" t.f_Plain_write
oA:Meth K t.C_Sure "give_up" t.f_Plain_give_up
xI:Meth K t.C_Sure "read" t.f_Plain_read
fW:Meth K t.C_Sure "held" t.f_Plain_held
bH:Meth K t.C_Sure "check_sheet" t.f_Plain_check_sheet
fY:Meth K t.C_Sure "check_share" t.f_Plain_check_share
aAL:Mk K t.C_Sure t.f_Store_init
aAG:mg "Chip"=some (.ref t.C_Chip)
aD:Cls K t.C_Chip
bB:qO K t.C_Chip "blocks"
bM:qO K t.C_Chip "pages"
tJ:qO K t.C_Chip "most"
eA:qO K t.C_Chip "limits"
bV:qO K t.C_Chip "borne"
eJ:qO K t.C_Chip "clearings"
bE:qO K t.C_Chip "deed_counts"
bQ:qO K t.C_Chip "broken"
bO:qO K t.C_Chip "deeds_left"
eF:qO K t.C_Chip "record"
xN:Meth K t.C_Chip "put" t.f_Chip_put
t9:Meth K t.C_Chip "wipe" t.f_Chip_wipe
lU:Meth K t.C_Chip "read" t.f_Chip_read
lZ:Meth K t.C_Chip "is_dark" t.f_Chip_is_dark
oB:Meth K t.C_Chip "cleared" t.f_Chip_cleared
oJ:Meth K t.C_Chip "failed" t.f_Chip_failed
tI:Meth K t.C_Chip "deeds" t.f_Chip_deeds
eI:Meth K t.C_Chip "check_page" t.f_Chip_check_page
bJ:Meth K t.C_Chip "check_block" t.f_Chip_check_block
bZ:Meth K t.C_Chip "check_power" t.f_Chip_check_power
eO:Meth K t.C_Chip "check_deed" t.f_Chip_check_deed
eZ:Meth K t.C_Chip "is_spent" t.f_Chip_is_spent
fO:Meth K t.C_Chip "do_deed" t.f_Chip_do_deed
aAH:Mk K t.C_Chip t.f_Chip_init
xT:mg "Fewest"=some (.ref t.C_Fewest)
xS:Mk0 K t.C_Fewest
aAC:mg "Terms"=some (.ref t.C_Terms)
aI:Cls K t.C_Terms
aT:qO K t.C_Terms "blocks"
a8:qO K t.C_Terms "pages"
fF:qO K t.C_Terms "sheets"
fN:qO K t.C_Terms "share"
b9:qO K t.C_Terms "ill"
lS:qO K t.C_Terms "spread"
lY:Meth K t.C_Terms "closed" t.f_Terms_closed
x9:Mk K t.C_Terms t.f_Terms_init
tO:mg "WornError"=some (.ref t.C_WornError)
eD:mg "BlockFailed"=some (.ref t.C_BlockFailed)
oE:W.keepIn K (.ref t.C_BlockFailed)=true
lW:XAt K t.C_BlockFailed
fM:xinI K t.C_BlockFailed t.f_BlockFailed_init=true
fL:qO K t.C_BlockFailed "block"
tK:BIni K t.C_WornError
xZ:ClM K t.C_Plain "__init__" t.f_Plain_init
aZ:W.exmOne K (.ref t.C_BlockFailed) (.ref t.C_BlockFailed)=some true
tT:qBQ K t.C_Sure
tE:W.kitOne K (.ref t.C_Sure) (.ref t.C_Even)=some true
oO:W.kitOne K (.ref t.C_Sure) (.ref t.C_Store)=some true
oM:W.kitOne K (.ref t.C_Sure) (.ref t.C_Plain)=some true
oP:W.codeHdIn K t.iJ t.aA=true
xD:mg "is_whole"=some (.ref t.f_is_whole)
xJ:W.keepIn K (.ref t.f_is_whole)=true
aE:mg "is_within"=some (.ref t.f_is_within)
aF:W.keepIn K (.ref t.f_is_within)=true
iZ:mg "is_shape"=some (.ref t.f_is_shape)
iR:W.keepIn K (.ref t.f_is_shape)=true
xE:mg "is_value"=some (.ref t.f_is_value)
xH:W.keepIn K (.ref t.f_is_value)=true
xQ:mg "mark_of"=some (.ref t.f_mark_of)
xP:W.keepIn K (.ref t.f_mark_of)=true
xO:mg "bits_of"=some (.ref t.f_bits_of)
xR:W.keepIn K (.ref t.f_bits_of)=true
o9:mg "limits_of"=some (.ref t.f_limits_of)
tL:W.keepIn K (.ref t.f_limits_of)=true
a9:mg "_law_cell_at"=some (.ref t.f_law_cell_at)
bA:W.keepIn K (.ref t.f_law_cell_at)=true
aS:mg "_law_whole"=some (.ref t.f_law_whole)
aX:W.keepIn K (.ref t.f_law_whole)=true
tM:mg "_law_shape"=some (.ref t.f_law_shape)
tP:W.keepIn K (.ref t.f_law_shape)=true
t8:mg "_law_ills"=some (.ref t.f_law_ills)
xG:W.keepIn K (.ref t.f_law_ills)=true
tZ:mg "_law_next"=some (.ref t.f_law_next)
xL:W.keepIn K (.ref t.f_law_next)=true
tN:mg "_law_wiped"=some (.ref t.f_law_wiped)
o7:W.keepIn K (.ref t.f_law_wiped)=true
tV:mg "_law_bits"=some (.ref t.f_law_bits)
tU:W.keepIn K (.ref t.f_law_bits)=true
iG:mg "_law_bears"=some (.ref t.f_law_bears)
iN:W.keepIn K (.ref t.f_law_bears)=true
tX:mg "_law_step"=some (.ref t.f_law_step)
xK:W.keepIn K (.ref t.f_law_step)=true
f6:mg "_law_counts"=some (.ref t.f_law_counts)
fZ:W.keepIn K (.ref t.f_law_counts)=true
fB:mg "MOST_TOLD"=some (.int 1000000 t.b8)
xU:mg "ROLL"=some (.int 64 t.oZ)
x6:mg "NAMES"=some (.int 128 t.iO)
aAD:mg "bool"=none
aAO:mg "int"=none
aN:mg "isinstance"=none
xB:mg "len"=none
aAN:mg "list"=none
aAP:mg "min"=none
iY:mg "range"=none
oX:mg "sorted"=none
aAI:mg "tuple"=none
set_option genInjectivity false
structure Fns(K:W.Frag)(t:Adr) where
bT:Fn1 K "__init__" "BlockFailed.__init__" yP t.f_BlockFailed_init ["self","block"]
oQ:Fn1 K "is_whole" "is_whole" q1J t.f_is_whole ["thing"]
aJ:Fn1 K "is_within" "is_within" q0A t.f_is_within ["thing","low","high"]
iP:Fn1 K "is_shape" "is_shape" q1K t.f_is_shape ["blocks","pages"]
oR:Fn1 K "is_value" "is_value" q1L t.f_is_value ["thing"]
tR:Fn1 K "mark_of" "mark_of" q2M t.f_mark_of ["stamp","name"]
tS:Fn1 K "bits_of" "bits_of" q2N t.f_bits_of ["sheets"]
iX:Fn1 K "__init__" "Book.__init__" q0B t.f_Book_init ["self","blocks","pages"]
lT:Fn1 K "mark" "Book.mark" q0C t.f_Book_mark ["self","name"]
i5:Fn1 K "note" "Book.note" q0D t.f_Book_note ["self","page","name"]
eU:Fn1 K "forget" "Book.forget" vW t.f_Book_forget ["self","name"]
i4:Fn1 K "held" "Book.held" q0E t.f_Book_held ["self"]
iC:Fn1 K "__init__" "Plain.__init__" zP t.f_Plain_init ["self","chip","terms"]
bY:Fn1 K "good" "Plain.good" zQ t.f_Plain_good ["self"]
eW:FuncData
tD:FunT K "free" "Plain.free" jL t.iJ t.f_Plain_free eW
iH:jO K eW ["self"] []
fJ:Fn1 K "part" "Plain.part" zR t.f_Plain_part ["self"]
f9:Fn1 K "spot" "Plain.spot" zS t.f_Plain_spot ["self"]
fU:Fn1 K "ready" "Plain.ready" vX t.f_Plain_ready ["self"]
eE:Fn1 K "set_down" "Plain.set_down" uG t.f_Plain_set_down ["self","name","value"]
fS:Fn1 K "write" "Plain.write" vY t.f_Plain_write ["self","sheet","value"]
eX:Fn1 K "give_up" "Plain.give_up" uQ t.f_Plain_give_up ["self","sheets"]
iA:Fn1 K "read" "Plain.read" zT t.f_Plain_read ["self","sheet"]
eL:Fn1 K "held" "Plain.held" zU t.f_Plain_held ["self"]
aM:Fn1 K "check_sheet" "Plain.check_sheet" yJ t.f_Plain_check_sheet ["self","sheet"]
bP:Fn1 K "check_share" "Plain.check_share" yK t.f_Plain_check_share ["self","sheet"]
iB:Fn1 K "__init__" "Store.__init__" zV t.f_Store_init ["self","chip","terms","rule"]
bU:Fn1 K "make_rooms" "Store.make_rooms" yQ t.f_Store_make_rooms ["self"]
aO:Fn1 K "failures" "Sure.failures" uR t.f_Sure_failures ["self"]
e9:Fn1 K "worn" "Sure.worn" q0F t.f_Sure_worn ["self"]
bS:Fn1 K "reserve" "Sure.reserve" vB t.f_Sure_reserve ["self"]
iQ:Fn1 K "lay" "Sure.lay" q1M t.f_Sure_lay ["self","name","value"]
aU:Fn1 K "set_down_or_fail" "Sure.set_down_or_fail" y7 t.f_Sure_set_down_or_fail ["self","name","value"]
bL:Fn1 K "make_ready" "Sure.make_ready" yZ t.f_Sure_make_ready ["self"]
aW:Fn1 K "check_worn" "Sure.check_worn" u9 t.f_Sure_check_worn ["self"]
iU:Fn1 K "limits_of" "limits_of" q0G t.f_limits_of ["ills","blocks"]
bR:FuncData
tF:Value
xF:FunD K "__init__" "Chip.__init__" yU tF t.f_Chip_init bR
xA:jO K bR ["self","blocks","pages","most","ills"] []
fP:List Value
xY:jO K bR ["self","blocks","pages","most","ills"] fP
aAA:Vals [.non] fP
fQ:List Value
aAB:jO K bR ["self","blocks","pages","most","ills"] fQ
xX:Vals [.int 1000000,.non] fQ
oK:Fn1 K "put" "Chip.put" q1N t.f_Chip_put ["self","page","stuff"]
i9:Fn1 K "wipe" "Chip.wipe" q0H t.f_Chip_wipe ["self","block"]
fX:Fn1 K "read" "Chip.read" q0I t.f_Chip_read ["self","page"]
fE:Fn1 K "is_dark" "Chip.is_dark" vC t.f_Chip_is_dark ["self"]
fA:Fn1 K "cleared" "Chip.cleared" vD t.f_Chip_cleared ["self","block"]
fV:Fn1 K "failed" "Chip.failed" vZ t.f_Chip_failed ["self","block"]
iD:Fn1 K "deeds" "Chip.deeds" zW t.f_Chip_deeds ["self"]
bN:Fn1 K "check_page" "Chip.check_page" uA t.f_Chip_check_page ["self","page"]
aK:Fn1 K "check_block" "Chip.check_block" yR t.f_Chip_check_block ["self","block"]
bC:Fn1 K "check_power" "Chip.check_power" yS t.f_Chip_check_power ["self"]
bF:Fn1 K "check_deed" "Chip.check_deed" uB t.f_Chip_check_deed ["self","block"]
bX:Fn1 K "is_spent" "Chip.is_spent" uS t.f_Chip_is_spent ["self","block"]
b7:Fn1 K "do_deed" "Chip.do_deed" vE t.f_Chip_do_deed ["self","word","place","block","fails"]
bK:FuncData
oU:Value
tG:FunD K "__init__" "Terms.__init__" yH oU t.f_Terms_init bK
aAE:jO K bK ["self","blocks","pages","sheets","share","ill","spread"] []
fH:List Value
oC:jO K bK ["self","blocks","pages","sheets","share","ill","spread"] fH
oF:Vals [.int 1000000] fH
fG:List Value
xW:jO K bK ["self","blocks","pages","sheets","share","ill","spread"] fG
xV:Vals [.int 0,.int 1000000] fG
fD:Fn1 K "closed" "Terms.closed" vF t.f_Terms_closed ["self"]
bD:Fn1 K "_law_cell_at" "_law_cell_at" zA t.f_law_cell_at ["_law_script","_law_k"]
bI:Fn1 K "_law_whole" "_law_whole" q0J t.f_law_whole ["_law_found"]
i7:Fn1 K "_law_shape" "_law_shape" q0K t.f_law_shape ["_law_cell"]
oY:Fn1 K "_law_ills" "_law_ills" q1O t.f_law_ills ["_law_cell","_law_mine"]
oW:Fn1 K "_law_next" "_law_next" q1P t.f_law_next ["_law_mine"]
iW:Fn1 K "_law_wiped" "_law_wiped" q0L t.f_law_wiped ["_law_chip","_law_mine"]
oN:Fn1 K "_law_bits" "_law_bits" q1Q t.f_law_bits ["_law_mine"]
f7:Fn1 K "_law_bears" "_law_bears" q0M t.f_law_bears ["_law_store","_law_page","_law_mark","_law_value"]
oS:Fn1 K "_law_step" "_law_step" q1R t.f_law_step ["_law_store","_law_mine","_law_number"]
fK:Fn1 K "_law_counts" "_law_counts" zX t.f_law_counts ["_law_store","_law_mine"]
law:Fn1 K "law" "law" qBY t.f_law ["_law_script"]
structure HkE where
P:Program
w:World
K:W.Frag
mg:Str→Option Value
t:Adr
noncomputable def hkB(e:HkE):Prop:=∃(S:Fns e.K e.t) (base:Heap),Txt e.K e.mg e.t∧BmIn base e.mg∧¬S.law.Ok0 e.P e.w e.mg base 19 (q2K e.K [e.t.aA,e.t.aR])
instance:Nonempty HkE:=⟨⟨PySem.Challenge.pw_wornpages_k51_a_put_that_fails,⟨λ_ _=>0,{ strHash:=λ_=>0,shareClass:=λ_=>0,mergeTok:=id,idOf:=λ_=>0,idOfShared:=λ_ _=>0,followText:=λ_=>false,idOfImm:=λ_=>0 }⟩,[],λ_=>none,by constructor<;>exact(0:Nat)⟩⟩
@[irreducible] noncomputable def hkE:HkE:=Classical.epsilon hkB
noncomputable def P:Program:=hkE.P
noncomputable def w:World:=hkE.w
noncomputable def K:W.Frag:=hkE.K
noncomputable def mg:Str→Option Value:=hkE.mg
noncomputable def t:Adr:=hkE.t
section
variable{base:Heap}
theorem q10:FnScope ["self","block"] ["self","block"] (qH yP):=qW (by decide+kernel)
theorem q7P:FnScope ["thing"] ["thing"] (qH q1J):=qW (by decide+kernel)
theorem q68:FnScope ["thing","low","high"] ["thing","low","high"] (qH q0A):=qW (by decide+kernel)
theorem q7Q:FnScope ["blocks","pages"] ["blocks","pages"] (qH q1K):=qW (by decide+kernel)
theorem q7R:FnScope ["thing"] ["thing"] (qH q1L):=qW (by decide+kernel)
theorem q8P:FnScope ["stamp","name"] ["stamp","name"] (qH q2M):=qW (by decide+kernel)
theorem zY:FnScope ["sheets","bits","sheet"] ["sheets"] (qH q2N):=qW (by decide+kernel)
theorem q69:FnScope ["self","blocks","pages"] ["self","blocks","pages"] (qH q0B):=qW (by decide+kernel)
theorem q6A:FnScope ["self","name"] ["self","name"] (qH q0C):=qW (by decide+kernel)
theorem q29:FnScope ["self","page","name","block"] ["self","page","name"] (qH q0D):=qW (by decide+kernel)
theorem q0N:FnScope ["self","name","page"] ["self","name"] (qH vW):=qW (by decide+kernel)
theorem q6B:FnScope ["self"] ["self"] (qH q0E):=qW (by decide+kernel)
theorem q4H:FnScope ["self","chip","terms"] ["self","chip","terms"] (qH zP):=qW (by decide+kernel)
theorem q4I:FnScope ["self"] ["self"] (qH zQ):=qW (by decide+kernel)
theorem q18:FnScope ["self","clear"] ["self"] (qH jL):=qW (by decide+kernel)
theorem q19:FnScope ["self","block"] ["self"] (qH zR):=qW (by decide+kernel)
theorem zB:FnScope ["self","part","free"] ["self"] (qH zS):=qW (by decide+kernel)
theorem q0O:FnScope ["self","spare"] ["self"] (qH vX):=qW (by decide+kernel)
theorem vP:FnScope ["self","name","value","page"] ["self","name","value"] (qH uG):=qW (by decide+kernel)
theorem q47:FnScope ["self","sheet","value"] ["self","sheet","value"] (qH vY):=qW (by decide+kernel)
theorem y8:FnScope ["self","sheets","sheet","held","gone"] ["self","sheets"] (qH uQ):=qW (by decide+kernel)
theorem q4J:FnScope ["self","sheet"] ["self","sheet"] (qH zT):=qW (by decide+kernel)
theorem q4K:FnScope ["self"] ["self"] (qH zU):=qW (by decide+kernel)
theorem q0P:FnScope ["self","sheet"] ["self","sheet"] (qH yJ):=qW (by decide+kernel)
theorem uM:FnScope ["self","sheet","held"] ["self","sheet"] (qH yK):=qW (by decide+kernel)
theorem q4L:FnScope ["self","chip","terms","rule"] ["self","chip","terms","rule"] (qH zV):=qW (by decide+kernel)
theorem q11:FnScope ["self"] ["self"] (qH yQ):=qW (by decide+kernel)
theorem q2O:FnScope ["self"] ["self"] (qH uR):=qW (by decide+kernel)
theorem q6C:FnScope ["self"] ["self"] (qH q0F):=qW (by decide+kernel)
theorem q31:FnScope ["self"] ["self"] (qH vB):=qW (by decide+kernel)
theorem q0Q:FnScope ["self","name","value","page"] ["self","name","value"] (qH q1M):=qW (by decide+kernel)
theorem zC:FnScope ["self","name","value"] ["self","name","value"] (qH y7):=qW (by decide+kernel)
theorem q1S:FnScope ["self"] ["self"] (qH yZ):=qW (by decide+kernel)
theorem q1T:FnScope ["self"] ["self"] (qH u9):=qW (by decide+kernel)
theorem v4:FnScope ["ills","blocks","limits","block","deeds"] ["ills","blocks"] (qH q0G):=qW (by decide+kernel)
theorem q6D:FnScope ["self","blocks","pages","most","ills"] ["self","blocks","pages","most","ills"] (qH yU):=qW (by decide+kernel)
theorem q2W:FnScope ["self","page","stuff","block"] ["self","page","stuff"] (qH q1N):=qW (by decide+kernel)
theorem q2A:FnScope ["self","block","fails","first","page"] ["self","block"] (qH q0H):=qW (by decide+kernel)
theorem q6E:FnScope ["self","page"] ["self","page"] (qH q0I):=qW (by decide+kernel)
theorem q32:FnScope ["self"] ["self"] (qH vC):=qW (by decide+kernel)
theorem q33:FnScope ["self","block"] ["self","block"] (qH vD):=qW (by decide+kernel)
theorem q48:FnScope ["self","block"] ["self","block"] (qH vZ):=qW (by decide+kernel)
theorem q4M:FnScope ["self"] ["self"] (qH zW):=qW (by decide+kernel)
theorem q1U:FnScope ["self","page"] ["self","page"] (qH uA):=qW (by decide+kernel)
theorem q12:FnScope ["self","block"] ["self","block"] (qH yR):=qW (by decide+kernel)
theorem q13:FnScope ["self"] ["self"] (qH yS):=qW (by decide+kernel)
theorem q1V:FnScope ["self","block"] ["self","block"] (qH uB):=qW (by decide+kernel)
theorem q2P:FnScope ["self","block"] ["self","block"] (qH uS):=qW (by decide+kernel)
theorem q34:FnScope ["self","word","place","block","fails"] ["self","word","place","block","fails"] (qH vE):=qW (by decide+kernel)
theorem q4N:FnScope ["self","blocks","pages","sheets","share","ill","spread"] ["self","blocks","pages","sheets","share","ill","spread"] (qH yH):=qW (by decide+kernel)
theorem q35:FnScope ["self"] ["self"] (qH vF):=qW (by decide+kernel)
theorem q49:FnScope ["_law_script","_law_k"] ["_law_script","_law_k"] (qH zA):=qW (by decide+kernel)
theorem q6F:FnScope ["_law_found"] ["_law_found"] (qH q0J):=qW (by decide+kernel)
theorem uC:FnScope ["_law_cell","_law_blocks","_law_ill","_law_pages"] ["_law_cell"] (qH q0K):=qW (by decide+kernel)
theorem vQ:FnScope ["_law_cell","_law_mine","_law_ills_here","_law_k","_law_block"] ["_law_cell","_law_mine"] (qH q1O):=qW (by decide+kernel)
theorem q2X:FnScope ["_law_mine","_law_page"] ["_law_mine"] (qH q1P):=qW (by decide+kernel)
theorem v5:FnScope ["_law_chip","_law_mine","_law_block","_law_outcome"] ["_law_chip","_law_mine"] (qH q0L):=qW (by decide+kernel)
theorem yV:FnScope ["_law_mine","_law_power","_law_bits_here","_law_sheet"] ["_law_mine"] (qH q1Q):=qW (by decide+kernel)
theorem q2B:FnScope ["_law_store","_law_page","_law_mark","_law_value","_law_found"] ["_law_store","_law_page","_law_mark","_law_value"] (qH q0M):=qW (by decide+kernel)
theorem jY:FnScope ["_law_store","_law_mine","_law_number","_law_held","_law_page","_law_sheet","_law_found","_law_good","_law_value"] ["_law_store","_law_mine","_law_number"] (qH q1R):=qW (by decide+kernel)
theorem q4O:FnScope ["_law_store","_law_mine"] ["_law_store","_law_mine"] (qH zX):=qW (by decide+kernel)
theorem uH:FnScope ["_law_script","_law_blocks","_law_ill","_law_pages","_law_most","_law_share","_law_sheets","_law_mine","_law_chip","_law_store","_law_cell","_law_sheet","_law_found"] ["_law_script"] (qH qBY):=qW (by decide+kernel)
local macro_rules| `(tactic|walk_at "r")=>`(tactic|repeat (first|with_reducible refine⟨_,rfl,?_⟩|refine⟨_,rfl,?_⟩|refine(iI ?_)))
theorem q6G(T:Txt K mg t)(S:Fns K t):FnOkH P w K mg base CX0 1 t.f_is_whole S.oQ.fd ["thing"] q92:=by(
refine S.oQ.F.okH q7P (λvs H Q E h=>?_) (λcdv A outer s H vs Q E hp hh hr h=>?_)
·repeat obtain⟨_,h⟩:=h
 all_goals subst_vars;rfl
obtain⟨x,rfl,kn,k⟩:=h
refine⟨_,(qE (qS (vS (jJ jX (by rfl) T.aN (by kernel_rfl) (qA (pv 0) (qA (q1X rfl T.aAO (by kernel_rfl) rfl (v:=.ty "int")) qG))) (uO (q80 (jJ jX (by rfl) T.aN (by kernel_rfl) (qA (pv 0) (qA (q1X rfl T.aAD (by kernel_rfl) rfl (v:=.ty "bool")) qG)))))))),?_⟩
try dsimp-beta-proj-iota-zeta-eta only[wishK,cxK]
obtain⟨ty,q,e1,e2,_⟩:=kn.ty (K:=K)
refine⟨_,rfl,x,_,_,ty,_,rfl,rfl,.inl q,e1,_,rfl,?_⟩
have z:=qAZ x
cases qi:isI x with
|true=>rw[qi,hU rfl]at z;refine iteT ?_;refine⟨_,rfl,x,_,_,ty,_,rfl,rfl,.inl q,e2,_,rfl,?_⟩;rw[z];exact k
|false=>rw[qi]at z;refine iteF ?_;have z':false=isW x:=z;rw[z'];exact k)
theorem q1A(T:Txt K mg t)(S:Fns K t):FnOkH P w K mg base CX0 2 t.f_is_within S.aJ.fd ["thing","low","high"] q78:=by(
refine S.aJ.F.okH q68 (λvs H Q E h=>?_) (λcdv A outer s H vs Q E hp hh hr h=>?_)
·repeat obtain⟨_,h⟩:=h
 all_goals subst_vars;rfl
obtain⟨x,lo,hi,rfl,kn,k⟩:=h
refine⟨_,(qE (qS (vS (q7L (q6G T S).mono hh hr rfl T.xD T.xJ S.oQ.b .nil qK (qA (pv 0) qG)) (uO (qAL qDN qDN (pv 1) (pv 0) (pv 2)))))),?_⟩
try dsimp-beta-proj-iota-zeta-eta only[wishK,cxK]
refine⟨_,rfl,x,rfl,kn,_,rfl,?_⟩
cases x with
|int i=>
 refine iteT ?_;refine⟨_,rfl,_,rfl,iI ⟨_,rfl,?_⟩⟩;have k':Q (V.bl (decide (lo≤i)&&decide (i≤hi))) H:=k;by_cases h1:lo≤i
 ·rw[hW h1]at k' ⊢;refine iteT ?_;exact⟨_,rfl,iI k'⟩
 rw[hZ h1]at k' ⊢;refine iteF ?_;exact k'
|_=>exact iteF k)
theorem jE(T:Txt K mg t)(S:Fns K t):S.aJ.Ok0 P w mg base 2 q78:=(q1A T S).fn
theorem q2Y(T:Txt K mg t)(S:Fns K t):S.iP.Ok0 P w mg base 3 qCP:=by(
refine S.iP.F.ok0 q7Q λcdv A _ s H vs Q E hr h=>?_
obtain⟨x,y,rfl,kx,ky,k⟩:=h
refine⟨_,(qE (qS (vS (qV (jE T S).mono hr rfl T.aE T.aF S.aJ.b .nil qK (qA (pv 0) (qA qI (qA qI qG)))) (uO (qV (jE T S).mono hr rfl T.aE T.aF S.aJ.b .nil qK (qA (pv 1) (qA qI (qA qI qG)))))))),?_⟩
try dsimp-beta-proj-iota-zeta-eta only[wishK,cxK]
refine⟨_,rfl,x,_,_,rfl,kx,_,rfl,?_⟩
cases q:inB x 2 16 with
|true=>rw[q]at k;refine iteT ⟨_,rfl,y,_,_,rfl,ky,k⟩
|false=>rw[q]at k;exact iteF k)
theorem q14(T:Txt K mg t)(S:Fns K t):S.bT.OkE P w mg base 1 (spBF K t.C_BlockFailed t.f_BlockFailed_init "block"):=by(
refine S.bT.F.okE q10 (λvs H Q E h=>?_) (λcdv A outer s H vs Q E hr h=>?_)
·repeat obtain⟨_,h⟩:=h
 all_goals subst_vars;rfl
obtain⟨ea,b,rfl,xi,xa,na,hb,hx,q⟩:=h
refine⟨_,(qC (qY (qB9 T.tK rfl T.tO (qA (pv 0) (qA (qGC (qB8 qL (qEZ (pv 1) (qB8 qL qEY)))) qG)))) (qE (qCN (pv 0) (pv 1) rfl))),?_⟩
try dsimp-beta-proj-iota-zeta-eta only[wishK,cxK]
obtain⟨l1,l2,l3⟩:=qF2 (x:="block ") (y:=" has failed") (i:=b) (by decide) (by decide) hb
refine⟨_,rfl,_,rfl,l1,_,rfl,_,rfl,qGE hb,l2,_,rfl,l3,l3,ea,_,none,_,_,rfl,hx,xi,?_⟩
refine⟨_,rfl,_,rfl,ea,_,rfl,hx,xa,na,λdx h1 h2=>q dx h1 h2⟩)
theorem inBi{v lo hi:Int}(h1:lo≤v)(h2:v≤hi):inB (.int v) lo hi=true:=by show(decide (lo≤v)&&decide (v≤hi))=true;rw[hW h1,hW h2];rfl
noncomputable def spCP(t:Adr):Sp:=λvs H Q E=>∃c a m,∃p:Int,vs=[.ref c,.int p]∧ChipAt t.C_Chip H c a m∧m.Ok∧0≤p∧p≤m.bl*m.pg-1∧Q .non H
theorem vG(T:Txt K mg t)(S:Fns K t):S.bN.Ok0 P w mg base 3 (spCP t):=by(
refine S.bN.F.ok0 q1U λcdv A _ s H vs Q E hr h=>?_
obtain⟨c,a,m,p,rfl,hc,ok,p0,p1,q⟩:=h
refine⟨_,(qE (jA (jH (jB (qV (jE T S).mono hr rfl T.aE T.aF S.aJ.b .nil qK (qA (pv 1) (qA qI (qA (qN y9 (qN yD (qM (pv 0) rfl) (qM (pv 0) rfl)) qI) qG)))))) (qE j9) qR)),?_⟩
try dsimp-beta-proj-iota-zeta-eta only[wishK,cxK]
have b1:=ok.bl1
have b2:=ok.bl2
refine⟨_,rfl,iV rfl (iF hc.ins T.aD T.bB rfl (iV rfl (iF hc.ins T.aD T.bM rfl ?_)))⟩
refine(iI ⟨.inl ⟨by lia,by lia⟩,iI ⟨.int p,_,_,rfl,.int p,_,rfl,?_⟩⟩)
rw[inBi p0 p1]
exact iteF q)
noncomputable def spCB(t:Adr):Sp:=λvs H Q E=>∃c a m,∃p:Int,vs=[.ref c,.int p]∧ChipAt t.C_Chip H c a m∧0≤p∧p≤m.bl-1∧Q .non H
theorem uN(T:Txt K mg t)(S:Fns K t):FnOkH P w K mg base CX0 3 t.f_Chip_check_block S.aK.fd ["self","block"] (spCB t):=by(
refine S.aK.F.okH q12 (λvs H Q E h=>?_) (λcdv A outer s H vs Q E hp hh hr h=>?_)
·repeat obtain⟨_,h⟩:=h
 all_goals subst_vars;rfl
obtain⟨c,a,m,p,rfl,hc,p0,p1,q⟩:=h
refine⟨_,(qE (jA (jH (jB (q7L (q1A T S).mono hh hr rfl T.aE T.aF S.aJ.b .nil qK (qA (pv 1) (qA qI (qA (qN y9 (qM (pv 0) rfl) qI) qG)))))) (qE j9) qR)),?_⟩
try dsimp-beta-proj-iota-zeta-eta only[wishK,cxK]
refine⟨_,rfl,iV rfl (iF hc.ins T.aD T.bB rfl (iI ⟨.int p,_,_,rfl,.int p,_,rfl,?_⟩))⟩
rw[inBi p0 p1]
exact iteF q)
theorem uW(T:Txt K mg t)(S:Fns K t):S.aK.Ok0 P w mg base 3 (spCB t):=(uN T S).fn
noncomputable def spID(t:Adr):Sp:=λvs H Q E=>∃c a m,vs=[.ref c]∧ChipAt t.C_Chip H c a m∧Q (.bl (decide (m.lf=some 0))) H
theorem q36(T:Txt K mg t)(S:Fns K t):S.fE.Ok0 P w mg base 1 (spID t):=by(
refine S.fE.F.ok0 q32 λcdv A _ s H vs Q E hr h=>?_
obtain⟨c,a,m,rfl,hc,q⟩:=h
refine⟨_,(qE (qS (yM q00 (qM (pv 0) rfl) qI (j8 _)))),?_⟩
try dsimp-beta-proj-iota-zeta-eta only[wishK,cxK]
refine⟨_,rfl,c,_,a.dx,_,_,rfl,hc.ins,T.aD,T.bO,rfl,qCO,?_⟩
rw[lf0]
exact q)
noncomputable def spPW(t:Adr):Sp:=λvs H Q E=>∃c a m,vs=[.ref c]∧ChipAt t.C_Chip H c a m∧m.lf=none∧Q .non H
theorem uX(T:Txt K mg t)(S:Fns K t):S.bC.Ok0 P w mg base 2 (spPW t):=by(
refine S.bC.F.ok0 q13 λcdv A _ s H vs Q E hr h=>?_
obtain⟨c,a,m,rfl,hc,hl,q⟩:=h
refine⟨_,(qE (jA (jB (j7 (pv 0) T.aD T.lZ (q36 T S).mono hr S.fE.b .nil qK)) (qE j9) qR)),?_⟩
try dsimp-beta-proj-iota-zeta-eta only[wishK,cxK]
refine(iV rfl (iM hc.ins rfl ⟨c,a,m,rfl,hc,_,rfl,?_⟩))
rw[hl]
exact iteF q)
noncomputable def spCD(t:Adr):Sp:=λvs H Q E=>∃c a m b,vs=[.ref c,.int b]∧ChipAt t.C_Chip H c a m∧m.Ok∧m.lf=none∧m.br.getD b.toNat false=false∧0≤b∧b<m.bl∧Q .non H
theorem vH(T:Txt K mg t)(S:Fns K t):S.bF.Ok0 P w mg base 3 (spCD t):=by(
refine S.bF.F.ok0 q1V λcdv A _ s H vs Q E hr h=>?_
obtain⟨c,a,m,b,rfl,hc,ok,lf,br,b0,b1,q⟩:=h
refine⟨_,(qC (qY (j7 (pv 0) T.aD T.bZ (uX T S).mono hr S.bC.b .nil qK)) (qE (jA (jB (yL jS (qM (pv 0) rfl) (pv 1) (λ_ _=>rfl))) (qE j9) qR))),?_⟩
try dsimp-beta-proj-iota-zeta-eta only[wishK,cxK]
have nb:=ok.nbr
refine(iV rfl (iM hc.ins rfl ⟨c,a,m,rfl,hc,lf,?_⟩))
refine(iV rfl (iF hc.ins T.aD T.bQ rfl ⟨_,rfl,iL (k:=b) (v:=_) (SqL.of hc.br) (getB b0 (by lia)) ⟨_,rfl,?_⟩⟩))
rw[br]
exact iteF q)
noncomputable def spIS(t:Adr):Sp:=λvs H Q E=>∃c a m b,vs=[.ref c,.int b]∧ChipAt t.C_Chip H c a m∧m.Ok∧0≤b∧b<m.bl∧Q (.bl (m.spent b)) H
theorem zJ(T:Txt K mg t)(S:Fns K t):S.bX.Ok0 P w mg base 1 (spIS t):=by(
refine S.bX.F.ok0 q2P λcdv A _ s H vs Q E hr h=>?_
obtain⟨c,a,m,b,rfl,hc,ok,b0,b1,q⟩:=h
have hu:=vM hr
refine⟨_,(qE (qS (vS (qDY (q3U hu (pv 1) (qM (pv 0) rfl))) (uO (yM qAJ (yL jS (qM (pv 0) rfl) (pv 1) (λ_ _=>rfl)) (qQ hu (qM (pv 0) rfl) (pv 1) (λ_ _=>rfl)) (j8 _)))))),?_⟩
try dsimp-beta-proj-iota-zeta-eta only[wishK,cxK]
have nd:=ok.ndc
refine⟨_,rfl,iV rfl (iF hc.ins T.aD T.eA rfl ⟨a.li,_,rfl,DGet.k (k:=Sum.inl b) hc.li,_,rfl,?_⟩)⟩
unfold CM.spent at q
cases z:valV m.lim (Sum.inl b)with
|none=>rw[z]at q;exact iteF q
|some v=>obtain⟨n,rfl⟩:=ok.lim b v z;rw[z]at q;refine iteT (iV rfl (iF hc.ins T.aD T.bE rfl ⟨_,rfl,iL (k:=b) (v:=_) (SqL.of hc.dc) (getI b0 (by lia)) ?_⟩));refine(iV rfl (iF hc.ins T.aD T.eA rfl ⟨_,rfl,a.li,_,rfl,?_,_,_,rfl,rfl,q⟩));have:=DGet.k (k:=Sum.inl b) hc.li;rw[z]at this;exact this)
noncomputable def spDD(t:Adr):Sp:=λvs H Q E=>∃c a m w pl b f,vs=[.ref c,.str w,.int pl,.int b,.bl f]∧ChipAt t.C_Chip H c a m∧m.Ok∧m.lf=none∧m.rc.length<1000000∧0≤b∧b<m.bl∧∀H',ChipAt t.C_Chip H' c a (m.deed w pl b f)→Keep (foot c a) H H'→(if f=true then ∀dx,H' dx=some (.xd [("block",.int b)])→E (.ref t.C_BlockFailed) (some dx) H' else Q .non H')
theorem q01(T:Txt K mg t)(S:Fns K t):S.b7.OkE P w mg base 3 (spDD t):=by(
refine S.b7.F.okE q34 (λvs H Q E h=>?_) (λcdv A outer s H vs Q E hr h=>?_)
·repeat obtain⟨_,h⟩:=h
 all_goals subst_vars;rfl
obtain⟨c,a,m,w,pl,b,f,rfl,hc,ok,hl,hr1,b0,b1,q⟩:=h
refine⟨_,(qC (jA (qZ q20 (qM (pv 0) rfl) yN (j8 _)) (qE j9) qR) (qC (q3A (qM (pv 0) rfl) (pv 3) q24 qI q81 uJ) (qC (qY (q70 gY gT gU v6 (qM (pv 0) rfl) (qA (v3 (qA (pv 1) (qA (pv 2) (qA (q80 (pv 4)) qG)))) qG zH))) (qE (jA (jB (pv 4)) (qC (q3J uD (q5O (qM (pv 0) rfl) (pv 3) uJ)) (qE (q9W q25 rfl T.fM (q14 T S).mono hr rfl T.eD T.oE S.bT.b .nil (qA (pv 3) qG)))) qR))))),?_⟩
try dsimp-beta-proj-iota-zeta-eta only[wishK,cxK]
have nd:=ok.ndc
have nb:=ok.nbr
have bl:=ok.bl2
refine⟨_,rfl,c,_,a.dx,_,_,rfl,hc.ins,T.aD,T.bO,rfl,rfl,_,rfl,?_⟩
rw[show lfV m.lf=V.non from by rw[hl];rfl]
refine iteF ?_
have hc1:ChipAt t.C_Chip H c a { m with lf:=m.lf.map (· - 1) }:=by rw[hl];show ChipAt t.C_Chip H c a { m with lf:=none };rw[←hl];exact hc
obtain⟨H1,e⟩:∃H1:Hp,H1=H:=⟨H,rfl⟩
have k1:Keep (foot c a) H H1:=by rw[e];exact Keep.refl
rw[←e]at hc1 ⊢
clear e
refine(iV rfl (iF hc1.ins T.aD T.bE rfl ⟨_,rfl,iL (k:=b) (v:=_) (SqL.of hc1.dc) (getI b0 (by show b<(m.dc.length:Int);lia)) (iI ⟨a.dc,_,b,b.toNat,rfl,rfl,hc1.dc,by rw[h8];exact ixOk b0 (by show b<(m.dc.length:Int);lia),?_⟩)⟩))
rw[←pA]
have hc2:=hc1.setDc (m.dc.set b.toNat (m.dc.getD b.toNat 0+1))
have k2:=k1.trans (Keep.upd (o:=.lst ((m.dc.set b.toNat (m.dc.getD b.toNat 0+1)).map V.int)) hc1.dc (λ_ z=>by cases z) (by simp[foot]))
generalize upd H1 a.dc (.lst ((m.dc.set b.toNat (m.dc.getD b.toNat 0+1)).map V.int))=H2 at hc2 k2 ⊢
obtain⟨rs,er,pr⟩:=hc2.rc
have ln:rs.length≤1000000:=by rw[pr.len];exact wZ hr1
refine(iV rfl (iF hc2.ins T.aD T.eF rfl ⟨.inl ⟨rfl,_,SqL.of er⟩,_,rfl,_,rfl,_,rfl,_,rfl,sz3,λp H3 np sm hp=>?_⟩))
have hc3:=hc2.same sm
have er3:=sm _ _ er
refine⟨a.rc,rs,_,rfl,rfl,er3,rB ln (by decide),?_⟩
have hc4:=hc3.addRc (d:=(w,pl,!f)) er3 hp
have k4:=(k2.trans (Keep.same sm)).trans (Keep.upd (o:=.lst (rs++[.ref p])) er3 (λ_ z=>by cases z) (by simp[foot]))
generalize upd H3 a.rc (.lst (rs++[.ref p]))=H4 at hc4 k4 ⊢
refine⟨_,rfl,_,rfl,?_⟩
cases f with
|false=>have q1:=q H4 hc4 k4;rw[hV (by decide)]at q1;exact iteF q1
|true=>refine iteT (iV rfl (iF hc4.ins T.aD T.bQ rfl ⟨_,rfl,a.br,_,b,b.toNat,rfl,rfl,hc4.br,by rw[h8];exact ixOk b0 (by show b<(m.br.length:Int);lia),?_⟩));have hc5:=hc4.setBr (m.br.set b.toNat true);have k5:=k4.trans (Keep.upd (o:=.lst ((m.br.set b.toNat true).map V.bl)) hc4.br (λ_ z=>by cases z) (by simp[foot]));rw[←pA];generalize upd H4 a.br (.lst ((m.br.set b.toNat true).map V.bl))=H5 at hc5 k5 ⊢;refine⟨_,rfl,sz1,λea hea=>?_⟩;refine⟨ea,b,rfl,T.fM,T.lW,T.fL,by lia,qJ,λdx h1 h2=>⟨rfl,qBA hea (λdx' H' sm' hd=>?_) dx h1 h2⟩⟩;have q1:=q H' (hc5.same sm') (k5.trans (Keep.same sm'));rw[hU rfl]at q1;exact q1 dx' hd)
noncomputable def qGP(t:Adr):Sp:=λvs H Q E=>∃c a m,∃p:Nat,∃st,vs=[.ref c,.int (p:Int),st]∧ChipAt t.C_Chip H c a m∧m.Ok∧m.lf=none∧m.rc.length<1000000∧(p:Int)≤m.bl*m.pg-1∧m.br.getD ((p:Int) / m.pg).toNat false=false∧m.bo.getD p .non=.non∧∀H',Keep (foot c a) H H'→(if m.spent ((p:Int) / m.pg)=true then ChipAt t.C_Chip H' c a (m.deed "put" p ((p:Int) / m.pg) true)→∀dx,E (.ref t.C_BlockFailed) (some dx) H' else ChipAt t.C_Chip H' c a (putC m p st)→Q .non H')
theorem q7S(T:Txt K mg t)(S:Fns K t):S.oK.OkE P w mg base 4 (qGP t):=by(
refine S.oK.F.okE q2W (λvs H Q E h=>?_) (λcdv A outer s H vs Q E hr h=>?_)
·repeat obtain⟨_,h⟩:=h
 all_goals subst_vars;rfl
obtain⟨c,a,m,p,st,rfl,hc,ok,lf,hr1,p1,br,hw,q⟩:=h
refine⟨_,(qC (qY (jD (pv 0) T.aD T.eI (vG T S).mono hr S.bN.b .nil qK (qA (pv 1) qG))) (qC (qX (i:=3) q2W.nd rfl (Or.inl rfl) (qN yX (pv 1) (qM (pv 0) rfl))) (qC (qY (jD (pv 0) T.aD T.eO (vH T S).mono hr S.bF.b .nil qK (qA (pv 3) qG))) (qC (jA (qZ q20 (yL jS (qM (pv 0) rfl) (pv 1) (λ_ _=>rfl)) yN (j8 _)) (qE j9) qR) (qC (qY (q04 q25 (pv 0) T.aD T.fO (q01 T S).mono hr S.b7.b .nil (qA qL (qA (pv 1) (qA (pv 3) (qA (jD (pv 0) T.aD T.eZ (zJ T S).mono hr S.bX.b .nil qK (qA (pv 3) qG)) qG)))))) (qE (q3J (pv 2) (q5O (qM (pv 0) rfl) (pv 1) uJ)))))))),?_⟩
try dsimp-beta-proj-iota-zeta-eta only[wishK,cxK]
have pg1:=ok.pg1
have pg2:=ok.pg2
have nbo:=ok.nbo
have p0:(0:Int)≤p:=by lia
obtain⟨b0,b1⟩:=qF1 ok p0 p1
refine(iV rfl (iM hc.ins rfl ⟨_,rfl,c,a,m,p,rfl,hc,ok,p0,p1,?_⟩))
refine⟨_,rfl,iV rfl (iF hc.ins T.aD T.bM rfl (iI ⟨⟨by lia,by lia⟩,?_⟩))⟩
refine(iV rfl (iM hc.ins rfl ⟨_,rfl,c,a,m,_,rfl,hc,ok,lf,br,b0,b1,?_⟩))
refine(iV rfl (iF hc.ins T.aD T.bV rfl ⟨_,rfl,iL (k:=p) (v:=_) (SqL.of hc.bo) (getV p0 (by lia)) ⟨rfl,_,rfl,?_⟩⟩))
rw[kR,hW hw]
refine iteF ?_
refine(iV rfl (iM hc.ins rfl ⟨_,rfl,_,rfl,iV rfl (iM hc.ins rfl ⟨_,rfl,c,a,m,_,rfl,hc,ok,b0,b1,?_⟩)⟩))
refine⟨c,a,m,"put",p,_,_,rfl,hc,ok,lf,hr1,b0,b1,λH' hc' k'=>?_⟩
cases z:m.spent ((p:Int) / m.pg)with
|true=>rw[hU rfl];have q1:=q H' k';rw[hU z]at q1;rw[z]at hc';exact λdx _=>q1 hc' dx
|false=>rw[hV (by decide)];rw[z]at hc';refine⟨_,rfl,iV rfl (iF hc'.ins T.aD T.bV rfl ⟨_,rfl,a.bo,_,p,p,rfl,rfl,hc'.bo,ixOk p0 (by show(p:Int)<(m.bo.length:Int);lia),?_⟩)⟩;have q1:=q _ (k'.trans (Keep.upd (o:=.lst (m.bo.set p st)) hc'.bo (λ_ z=>by cases z) (by simp[foot])));rw[hV (by rw[z];decide)]at q1;exact q1 (hc'.setBo (m.bo.set p st)))
noncomputable def qFG(t:Adr):Sp:=λvs H Q E=>∃c a m,∃p:Int,vs=[.ref c,.int p]∧ChipAt t.C_Chip H c a m∧m.Ok∧m.lf=none∧0≤p∧p≤m.bl*m.pg-1∧Q (m.bo.getD p.toNat .non) H
theorem q2C(T:Txt K mg t)(S:Fns K t):S.fX.Ok0 P w mg base 4 (qFG t):=by(
refine S.fX.F.ok0 q6E λcdv A _ s H vs Q E hr h=>?_
obtain⟨c,a,m,p,rfl,hc,ok,hl,p0,p1,q⟩:=h
refine⟨_,(qC (qY (jD (pv 0) T.aD T.eI (vG T S).mono hr S.bN.b .nil qK (qA (pv 1) qG))) (qC (qY (j7 (pv 0) T.aD T.bZ (uX T S).mono hr S.bC.b .nil qK)) (qE (qS (yL jS (qM (pv 0) rfl) (pv 1) (λ_ _=>rfl)))))),?_⟩
try dsimp-beta-proj-iota-zeta-eta only[wishK,cxK]
have nbo:=ok.nbo
exact(iV rfl (iM hc.ins rfl ⟨_,rfl,c,a,m,p,rfl,hc,ok,p0,p1,iV rfl (iM hc.ins rfl ⟨c,a,m,rfl,hc,hl,iV rfl (iF hc.ins T.aD T.bV rfl ⟨_,rfl,iL (k:=p) (v:=_) (SqL.of hc.bo) (getV p0 (by lia)) q⟩)⟩)⟩)))
noncomputable def spCl(t:Adr):Sp:=λvs H Q E=>∃c a m b,vs=[.ref c,.int b]∧ChipAt t.C_Chip H c a m∧m.Ok∧0≤b∧b≤m.bl-1∧Q (.int (m.cl.getD b.toNat 0)) H
theorem q37(T:Txt K mg t)(S:Fns K t):S.fA.Ok0 P w mg base 4 (spCl t):=by(
refine S.fA.F.ok0 q33 λcdv A _ s H vs Q E hr h=>?_
obtain⟨c,a,m,b,rfl,hc,ok,b0,b1,q⟩:=h
refine⟨_,(qC (qY (jD (pv 0) T.aD T.bJ (uW T S).mono hr S.aK.b .nil qK (qA (pv 1) qG))) (qE (qS (yL jS (qM (pv 0) rfl) (pv 1) (λ_ _=>rfl))))),?_⟩
try dsimp-beta-proj-iota-zeta-eta only[wishK,cxK]
have n:=ok.ncl
exact(iV rfl (iM hc.ins rfl ⟨_,rfl,c,a,m,b,rfl,hc,b0,b1,iV rfl (iF hc.ins T.aD T.eJ rfl ⟨_,rfl,iL (k:=b) (v:=_) (SqL.of hc.cl) (getI b0 (by lia)) q⟩)⟩)))
noncomputable def spFa(t:Adr):Sp:=λvs H Q E=>∃c a m b,vs=[.ref c,.int b]∧ChipAt t.C_Chip H c a m∧m.Ok∧0≤b∧b≤m.bl-1∧Q (.bl (m.br.getD b.toNat false)) H
theorem q38(T:Txt K mg t)(S:Fns K t):FnOkH P w K mg base CX0 4 t.f_Chip_failed S.fV.fd ["self","block"] (spFa t):=by(
refine S.fV.F.okH q48 (λvs H Q E h=>?_) (λcdv A outer s H vs Q E hp hh hr h=>?_)
·repeat obtain⟨_,h⟩:=h
 all_goals subst_vars;rfl
obtain⟨c,a,m,b,rfl,hc,ok,b0,b1,q⟩:=h
refine⟨_,(qC (qY (q7M (pv 0) T.aD T.bJ (uN T S).mono hh hr S.aK.b .nil qK (qA (pv 1) qG))) (qE (qS (yL jS (qM (pv 0) rfl) (pv 1) (λ_ _=>rfl))))),?_⟩
try dsimp-beta-proj-iota-zeta-eta only[wishK,cxK]
have n:=ok.nbr
exact(iV rfl (iM hc.ins rfl ⟨_,rfl,c,a,m,b,rfl,hc,b0,b1,iV rfl (iF hc.ins T.aD T.bQ rfl ⟨_,rfl,iL (k:=b) (v:=_) (SqL.of hc.br) (getB b0 (by lia)) q⟩)⟩)))
noncomputable def spDe(t:Adr):Sp:=λvs H Q E=>∃c a m,vs=[.ref c]∧ChipAt t.C_Chip H c a m∧∀rs,H a.rc=some (.lst rs)→Recd H rs m.rc→NewO H (.lst rs) Q
theorem q4P(T:Txt K mg t)(S:Fns K t):S.iD.Ok0 P w mg base 1 (spDe t):=by(
refine S.iD.F.ok0 q4M λcdv A _ s H vs Q E hr h=>?_
obtain⟨c,a,m,rfl,hc,q⟩:=h
refine⟨_,(qE (qS (q9M q4F (by rfl) T.aAN (by kernel_rfl) (qA (qM (pv 0) rfl) qG)))),?_⟩
try dsimp-beta-proj-iota-zeta-eta only[wishK,cxK]
obtain⟨rs,er,pr⟩:=hc.rc
exact(iV rfl (iF hc.ins T.aD T.eF rfl ⟨a.rc,rs,rfl,.inl (SqL.of er),q rs er pr⟩)))
noncomputable def qFH(t:Adr):Sp:=λvs H Q E=>∃c a m,∃b:Nat,vs=[.ref c,.int (b:Int)]∧ChipAt t.C_Chip H c a m∧m.Ok∧m.lf=none∧m.rc.length<1000000∧(b:Int)≤m.bl-1∧m.br.getD b false=false∧m.spent (b:Int)=true∧∀H',ChipAt t.C_Chip H' c a (m.deed "wipe" b b true)→Keep (foot c a) H H'→∀dx,E (.ref t.C_BlockFailed) (some dx) H'
theorem q6H(T:Txt K mg t)(S:Fns K t):S.i9.OkE P w mg base 4 (qFH t):=by(
refine S.i9.F.okE q2A (λvs H Q E h=>?_) (λcdv A outer s H vs Q E hr h=>?_)
·repeat obtain⟨_,h⟩:=h
 all_goals subst_vars;rfl
obtain⟨c,a,m,b,rfl,hc,ok,lf,hr1,b1,br,sp,q⟩:=h
refine⟨_,(qC (qY (jD (pv 0) T.aD T.bJ (uW T S).mono hr S.aK.b .nil qK (qA (pv 1) qG))) (qC (qY (jD (pv 0) T.aD T.eO (vH T S).mono hr S.bF.b .nil qK (qA (pv 1) qG))) (qC (qX (i:=2) q2A.nd rfl (Or.inl rfl) (qDK (jD (pv 0) T.aD T.eZ (zJ T S).mono hr S.bX.b .nil qK (qA (pv 1) qG)) (uO (yM qAJ (yL jS (qM (pv 0) rfl) (pv 1) (λ_ _=>rfl)) (qM (pv 0) rfl) (j8 _))))) (qC (qY (q04 q25 (pv 0) T.aD T.fO (q01 T S).mono hr S.b7.b .nil (qA qL (qA (pv 1) (qA (pv 1) (qA (pv 2) qG)))))) (qC j9 (qC j9 (qE j9))))))),?_⟩
try dsimp-beta-proj-iota-zeta-eta only[wishK,cxK]
have b0:(0:Int)≤b:=by lia
refine(iV rfl (iM hc.ins rfl ⟨_,rfl,c,a,m,b,rfl,hc,b0,b1,?_⟩))
refine(iV rfl (iM hc.ins rfl ⟨_,rfl,c,a,m,b,rfl,hc,ok,lf,by rw[kR];exact br,b0,by lia,?_⟩))
refine(iV rfl (iM hc.ins rfl ⟨_,rfl,c,a,m,b,rfl,hc,ok,b0,by lia,_,rfl,?_⟩))
rw[sp]
refine iteT ?_
refine(iV rfl (iM hc.ins rfl ⟨_,rfl,_,rfl,_,rfl,c,a,m,"wipe",b,b,true,rfl,hc,ok,lf,hr1,b0,by lia,λH' hc' k'=>?_⟩))
rw[hU rfl]
exact λdx _=>q H' hc' k' dx)
noncomputable def qGQ(K:W.Frag):Sp:=λvs H Q E=>∃l bl xs its lim,vs=[.ref l,.int bl]∧SqL K H l xs∧Paired (vU H) xs its∧its.length≤1000∧limM bl its []=some lim∧NewO H (.dK lim) Q
theorem q6I(T:Txt K mg t)(S:Fns K t):S.iU.Ok0 P w mg base 3 (qGQ K):=by(
refine S.iU.F.ok0 v4 λcdv A _ s H vs Q E hr h=>?_
obtain⟨l,bl,xs,its,lim,rfl,sq,pr,ln,hl,q⟩:=h
have hu:=vM hr
refine⟨_,(qC (qX (i:=2) v4.nd rfl (Or.inl rfl) q23) (qC (vT mW rfl (uZ (pv 0)) (qAE rfl (q02 (jQ (i:=3) v4.nd rfl (Or.inl rfl)) (q02 (jQ (i:=4) v4.nd rfl (Or.inl rfl)) q8T))) (qC (jA (jH (jB (qV (jE T S).mono hr rfl T.aE T.aF S.aJ.b .nil qK (qA (pv 3) (qA qI (qA (qN y9 (pv 1) qI) qG)))))) (qE j9) qR) (qC (jA (q2H (q3U hu (pv 3) (pv 2))) (qE j9) qR) (qC (jA (jH (jB (qV (jE T S).mono hr rfl T.aE T.aF S.aJ.b .nil qK (qA (pv 4) (qA qI (qA (yW rfl T.fB ⟨_,rfl⟩ (v:=.int 1000000)) qG)))))) (qE j9) qR) (qE (jW hu (pv 2) (pv 3) (pv 4) rfl)))))) (qE (qS (pv 2))))),?_⟩
try dsimp-beta-proj-iota-zeta-eta only[wishK,cxK]
refine λp np=>?_
have s0:Same H (upd H p (.dK [])):=Same.upd np
refine⟨_,rfl,l,rfl,⟨xs,s0.seq sq⟩,zF (xs:=xs) (λi σ' H1=>∃acc y z,σ'=[some (.ref l),some (.int bl),some (.ref p),y,z]∧H1 p=some (.dK acc)∧acc.length≤i∧(∀b o,b≠p→H b=some o→H1 b=some o)∧limM bl (its.drop i) acc=some lim) ⟨[],_,_,rfl,qJ,kB _,λb o n e=>by rw[qD n];exact e,hl⟩ (λi σ' H1 _ hp=>let⟨_,_,_,_,_,_,sm,_⟩:=hp;Same.seq (λb o e=>sm b o (qF e np) e) sq) (λi x σ' H1 hx hp=>?_) (λσ' H1 hp=>?_)⟩
·obtain⟨acc,y,z,rfl,h1,ln,sm,el⟩:=hp;obtain⟨bd,hi,pp,rfl,hpp,k1,k2⟩:=Paired.at pr hx;have sm':Same H H1:=λb o e=>sm b o (qF e np) e;obtain⟨bb,dd⟩:=bd;rw[q9Y hi]at el;refine⟨pp,[bb,dd],rfl,SqT.of (sm' _ _ hpp),rfl,bb,[dd],rfl,dd,[],rfl,rfl,?_⟩;refine⟨_,rfl,_,rfl,iI ⟨bb,_,_,rfl,k1.same sm',_,rfl,?_⟩⟩;have hb:inB bb 0 (bl-1)=true:=gR λhb=>by rw[q7B hb]at el;cases el
 rw[hb];refine iteF ?_;obtain⟨j,rfl,j0,j1⟩:=q5U hb;refine⟨_,rfl,_,rfl,p,_,rfl,DGet.k (k:=Sum.inl j) h1,_,rfl,?_⟩;cases hv:(valV acc (Sum.inl j)).isSome with
 |true=>rw[q3X ⟨j0,j1⟩ hv]at el;cases el
 |false=>
  refine iteF ?_;refine⟨_,rfl,dd,_,_,rfl,k2.same sm',_,rfl,?_⟩;have hd:inB dd 0 1000000=true:=gR λhd=>by rw[q3Y ⟨j0,j1⟩ (by rw[hv];decide) hd]at el;cases el
  rw[hd];refine iteF ?_;rw[q0W ⟨j0,j1⟩ (by rw[hv];decide) hd]at el;refine⟨_,rfl,_,rfl,_,rfl,p,_,rfl,DPut.k (k:=Sum.inl j) h1 (rB ln (by have:=(kD.mp hi).1;rw[mT];lia)),?_⟩;refine⟨_,_,_,rfl,qJ,kY (vL _ _ _) (by lia),λb o n e=>?_,el⟩;rw[qD n];exact sm b o n e
obtain⟨acc,y,z,rfl,h1,ln,sm,el⟩:=hp
rw[show its.drop xs.length=[]from List.drop_eq_nil_of_le (wE pr.len.symm)]at el
obtain rfl:=kH (show some acc=some lim from el)
exact⟨_,rfl,q p H1 np (λb o e=>sm b o (qF e np) e) h1⟩)
structure Wm(C x dx:Addr)(H G:Hp)(fs:List (Str×V))(os:List (Addr×HO)):Prop where
i:G x=some (.ins C dx fs)
u:Up x H G
o:∀p∈os,G p.1=some p.2∧H p.1=none∧p.1≠x
n:(os.map (·.1)).Nodup
section
variable{C x dx:Addr}{H G B:Hp}{fs fs':List (Str×V)}{os:List (Addr×HO)}
theorem Wm.same(h:Wm C x dx H G fs os)(s:Same G B):Wm C x dx H B fs os:=⟨s _ _ h.i,λb o n e=>s _ _ (h.u b o n e),λp hp=>⟨s _ _ (h.o p hp).1,(h.o p hp).2⟩,h.n⟩
theorem Wm.add(h:Wm C x dx H G fs os){a:Addr}{o:HO}(na:G a=none)(s:Same G B)(e:B a=some o):Wm C x dx H B fs (os++[(a,o)]):=by(
have ax:a≠x:=λz=>by rw[z,h.i]at na;cases na
have w:=h.same s
refine⟨w.i,w.u,λp hp=>?_,?_⟩
·rcases mS.mp hp with hp|hp
 ·exact w.o p hp
 rw[kN.mp hp];exact⟨e,Up.free h.u ax na,ax⟩
rw[mI]
refine rL.mpr ⟨h.n,by simp,λb hb c hc=>?_⟩
obtain⟨p,hp,rfl⟩:=mH.mp hb
obtain rfl:c=a:=by simpa using hc
exact qF (h.o p hp).1 na)
theorem Wm.set(h:Wm C x dx H G fs os):Wm C x dx H (upd G x (.ins C dx fs')) fs' os:=⟨qJ,λb o n e=>by rw[qD n];exact h.u b o n e,λp hp=>⟨by rw[qD (h.o p hp).2.2];exact(h.o p hp).1,(h.o p hp).2⟩,h.n⟩
theorem Wm.fr(h:Wm C x dx H G fs os)(a:Addr)(ha:a∈os.map (·.1)):H a=none:=by obtain⟨p,hp,rfl⟩:=mH.mp ha;exact(h.o p hp).2.1
theorem Wm.put(h:Wm C x dx H G fs os)(f:Str)(v:V):Wm C x dx H (upd G x (.ins C dx (putF f v fs))) (putF f v fs) os:=h.set
end
noncomputable def spMk(K:W.Frag)(t:Adr):Sp:=λvs H Q E=>∃x dx,∃b p m:Int,∃l0 xs its lim,vs=[.ref x,.int b,.int p,.int m,.ref l0]∧SqL K H l0 xs∧Paired (vU H) xs its∧its.length≤1000∧limM b its []=some lim∧H x=some (.ins t.C_Chip dx [])∧2≤b∧b≤16∧1≤p∧p≤16∧0≤m∧m≤1000000∧∀a H',ChipAt t.C_Chip H' x a (CM.new b p m lim)→(∀b∈[a.li,a.bo,a.cl,a.dc,a.br,a.rc],H b=none)→Up x H H'→Q .non H'
theorem q6J(T:Txt K mg t)(S:Fns K t):FnOk P w K mg base (CX0) 4 t.f_Chip_init S.bR ["self","blocks","pages","most","ills"] (spMk K t):=by(
refine S.xF.ok0 q6D λcdv A _ s H vs Q E hr h=>?_
obtain⟨x,dx,b,p,m,l0,xs,its,lim,rfl,sq,pr,ln,hlim,hx,b1,b2,p1,p2,m1,m2,q⟩:=h
refine⟨_,(qC (jA (jH (jB (qV (q2Y T S).mono hr rfl T.iZ T.iR S.iP.b .nil qK (qA (pv 1) (qA (pv 2) qG))))) (qE j9) qR) (qC (jA (jH (jB (qV (jE T S).mono hr rfl T.aE T.aF S.aJ.b .nil qK (qA (pv 3) (qA qI (qA (yW rfl T.fB ⟨_,rfl⟩ (v:=.int 1000000)) qG)))))) (qE j9) qR) (qC (jI (pv 0) (pv 1) rfl) (qC (jI (pv 0) (pv 2) rfl) (qC (jI (pv 0) (pv 3) rfl) (qC (jI (pv 0) (qV (q6I T S).mono hr rfl T.o9 T.tL S.iU.b .nil qK (qA (qAD (qZ q82 (pv 4) yN (j8 _)) (jT qG) (pv 4)) (qA (pv 1) qG))) rfl) (qC (jI (pv 0) (qN vO (jT (qA yN qG)) (qN yD (pv 1) (pv 2))) rfl) (qC (jI (pv 0) (qN vO (jT (qA qI qG)) (pv 1)) rfl) (qC (jI (pv 0) (qN vO (jT (qA qI qG)) (pv 1)) rfl) (qC (jI (pv 0) (qN vO (jT (qA uD qG)) (pv 1)) rfl) (qC (jI (pv 0) yN rfl) (qE (jI (pv 0) (jT qG) rfl))))))))))))),?_⟩
try dsimp-beta-proj-iota-zeta-eta only[wishK,cxK]
refine⟨_,rfl,_,rfl,.int b,.int p,rfl,.int b,.int p,_,rfl,?_⟩
rw[inBi b1 b2,inBi p1 p2]
refine iteF ?_
refine⟨_,rfl,.int m,_,_,rfl,.int m,_,rfl,?_⟩
rw[inBi m1 m2]
refine iteF ?_
have bp:b*p≤256:=Int.mul_le_mul b2 p2 (by lia) (by decide)
have bp0:0≤b*p:=n9 (by lia) (by lia)
refine⟨_,rfl,_,rfl,x,_,dx,_,rfl,hx,T.aD,T.bB,by simp,?_⟩
have w1:Wm t.C_Chip x dx H (upd H x (.ins t.C_Chip dx (putF "blocks" (.int b) []))) (putF "blocks" (.int b) []) []:=⟨qJ,Up.of (Same.refl H),by simp,by simp⟩
refine⟨_,rfl,_,rfl,x,_,dx,_,rfl,w1.i,T.aD,T.bM,by show 1<1000;decide,?_⟩
have w2:=w1.put "pages" (.int p)
refine⟨_,rfl,_,rfl,x,_,dx,_,rfl,w2.i,T.aD,T.tJ,by show 2<1000;decide,?_⟩
have w3:=w2.put "most" (.int m)
refine⟨_,rfl,rfl,_,rfl,iteF ⟨_,rfl,?_⟩⟩
refine⟨_,rfl,l0,b,xs,its,lim,rfl,w3.u.seq hx sq,Paired.mapP pr (λ_ _ z=>w3.u.pair hx z),ln,hlim,λli H3 n1 s1 e1=>?_⟩
have w4:=w3.add n1 s1 e1
refine⟨_,rfl,x,_,dx,_,rfl,w4.i,T.aD,T.eA,by show 3<1000;decide,?_⟩
have w4:=w4.put "limits" (.ref li)
refine⟨sz1,λwa A1 n1 s1 e1=>⟨_,rfl,_,rfl,iI ⟨.inl ⟨by lia,by lia⟩,wa,_,_,rfl,rfl,e1,by lia,by lia,λbo B1 m1 r1 hbo=>?_⟩⟩⟩
have w5:=(w4.same s1).add m1 r1 hbo
refine⟨_,rfl,x,_,dx,_,rfl,w5.i,T.aD,T.bV,by show 4<1000;decide,?_⟩
have w5:=w5.put "borne" (.ref bo)
refine⟨sz1,λwa A2 n2 s2 e2=>⟨_,rfl,wa,_,_,rfl,rfl,e2,by lia,by lia,λcl B2 m2 r2 hcl=>?_⟩⟩
have w6:=(w5.same s2).add m2 r2 hcl
refine⟨_,rfl,x,_,dx,_,rfl,w6.i,T.aD,T.eJ,by show 5<1000;decide,?_⟩
have w6:=w6.put "clearings" (.ref cl)
refine⟨sz1,λwa A3 n3 s3 e3=>⟨_,rfl,wa,_,_,rfl,rfl,e3,by lia,by lia,λdc B3 m3 r3 hdc=>?_⟩⟩
have w7:=(w6.same s3).add m3 r3 hdc
refine⟨_,rfl,x,_,dx,_,rfl,w7.i,T.aD,T.bE,by show 6<1000;decide,?_⟩
have w7:=w7.put "deed_counts" (.ref dc)
refine⟨sz1,λwa A4 n4 s4 e4=>⟨_,rfl,wa,_,_,rfl,rfl,e4,by lia,by lia,λbr B4 m4 r4 hbr=>?_⟩⟩
have w8:=(w7.same s4).add m4 r4 hbr
refine⟨_,rfl,x,_,dx,_,rfl,w8.i,T.aD,T.bQ,by show 7<1000;decide,?_⟩
have w8:=w8.put "broken" (.ref br)
refine⟨_,rfl,x,_,dx,_,rfl,w8.i,T.aD,T.bO,by show 8<1000;decide,?_⟩
have w9:=w8.put "deeds_left" .non
refine⟨sz0,λrc B5 m5 r5 hrc=>?_⟩
have w:=w9.add m5 r5 hrc
refine⟨_,rfl,x,_,dx,_,rfl,w.i,T.aD,T.eF,by show 9<1000;decide,?_⟩
have w:=w.set (fs':=chF ⟨dx,li,bo,cl,dc,br,rc⟩ (CM.new b p m lim))
refine q ⟨dx,li,bo,cl,dc,br,rc⟩ _ ⟨w.i,(w.o (li,.dK lim) (by simp)).1,(w.o (bo,.lst (List.replicate (b*p).toNat .non)) (by simp)).1,?_,?_,?_,⟨[],(w.o (rc,.lst []) (by simp)).1,.nil⟩,(mM.mp (show(li::[bo,cl,dc,br,rc]).Nodup from w.n)).2⟩ (λb' hb'=>w.fr b' hb') w.u
·show _=some (HO.lst ((List.replicate b.toNat (0:Int)).map V.int));rw[rC];exact(w.o (cl,.lst (List.replicate b.toNat (.int 0))) (by simp)).1
·show _=some (HO.lst ((List.replicate b.toNat (0:Int)).map V.int));rw[rC];exact(w.o (dc,.lst (List.replicate b.toNat (.int 0))) (by simp)).1
show _=some (HO.lst ((List.replicate b.toNat false).map V.bl))
rw[rC]
exact(w.o (br,.lst (List.replicate b.toNat (.bl false))) (by simp)).1)
theorem yE(T:Txt K mg t)(S:Fns K t):S.bD.Ok0 P w mg base 1 (qEU K):=by(
refine S.bD.F.ok0 q49 λcdv A _ s H vs Q E hr h=>?_
obtain⟨a,ns,k,rfl,hS,h0,q⟩:=h
refine⟨_,(qC (jA (qZ q8Y (pv 1) (jJ yA (by rfl) T.xB dY (qA (pv 0) qG)) (j8 _)) (qE (qS (yL jS (pv 0) (pv 1) (λ_ _=>rfl)))) qR) (qE (qS qI))),?_⟩
try dsimp-beta-proj-iota-zeta-eta only[wishK,cxK]
refine⟨_,rfl,_,rfl,a,_,rfl,.inl hS,_,_,rfl,rfl,_,rfl,?_⟩
rw[h8]
by_cases h1:k<(ns.length:Int)
·rw[hW h1];refine iteT ?_;exact⟨_,rfl,_,rfl,a,_,k,_,rfl,rfl,hS,q9S h0 h1,q⟩
rw[hZ h1]
refine iteF ?_
have e:=q89 h0 h1
rw[e]at q
exact q)
theorem qGR{H:Hp}{bl pg mo:Int}{l:Addr}{xs:List V}{its:List (V×V)}{lim:List (Key×V)}{Q:Addr→Hp→Prop}{E:XK}(b1:2≤bl)(b2:bl≤16)(p1:1≤pg)(p2:pg≤16)(m1:0≤mo)(m2:mo≤1000000)(sq:SqL K H l xs)(pr:Paired (vU H) xs its)(ln:its.length≤1000)(hlim:limM bl its []=some lim)
 (q:∀x a H',ChipAt t.C_Chip H' x a (CM.new bl pg mo lim)→Same H H'→(∀b∈a.li::foot x a,H b=none)→Q x H') (x dx:Addr) (nx:H x=none) (ndx:H dx=none) (ne:dx≠x):
 spMk K t [.ref x,.int bl,.int pg,.int mo,.ref l] (upd (upd H dx (.own x)) x (.ins t.C_Chip dx [])) (λv H2=>v=.non∧Q x H2) E:=by(
have s0:Same H (upd (upd H dx (.own x)) x (.ins t.C_Chip dx [])):=λb o e=>by rw[qD (qF e nx),qD (qF e ndx)];exact e
refine⟨x,dx,bl,pg,mo,l,xs,its,lim,rfl,s0.seq sq,Paired.mapP pr (λ_ _ z=>z.same s0),ln,hlim,qJ,b1,b2,p1,p2,m1,m2,λa H' hc fr u=>⟨rfl,q x a H' hc (λb o e=>u b o (qF e nx) (s0 b o e)) λb hb=>?_⟩⟩
have hb:b=x∨b∈[a.li,a.bo,a.cl,a.dc,a.br,a.rc]:=by simp[foot]at hb ⊢;rcases hb with rfl|rfl|rfl|rfl|rfl|rfl|rfl<;>simp
rcases hb with rfl|hb
·exact nx
exact s0.free (fr _ hb))
theorem yC(T:Txt K mg t)(S:Fns K t):S.bI.Ok0 P w mg base 1 q92:=by(
refine S.bI.F.ok0 q6F λcdv A _ s H vs Q E hr h=>?_
obtain⟨x,rfl,kn,k⟩:=h
refine⟨_,(qE (qS (vS (jJ jX (by rfl) T.aN (by kernel_rfl) (qA (pv 0) (qA (q1X rfl T.aAO (by kernel_rfl) rfl (v:=.ty "int")) qG))) (uO (q80 (jJ jX (by rfl) T.aN (by kernel_rfl) (qA (pv 0) (qA (q1X rfl T.aAD (by kernel_rfl) rfl (v:=.ty "bool")) qG)))))))),?_⟩
try dsimp-beta-proj-iota-zeta-eta only[wishK,cxK]
obtain⟨ty,q,e1,e2,_⟩:=kn.ty (K:=K)
refine⟨_,rfl,x,_,_,ty,_,rfl,rfl,.inl q,e1,_,rfl,?_⟩
have z:=qAZ x
cases qi:isI x with
|true=>rw[qi,hU rfl]at z;refine iteT ?_;refine⟨_,rfl,x,_,_,ty,_,rfl,rfl,.inl q,e2,_,rfl,?_⟩;rw[z];exact k
|false=>rw[qi]at z;refine iteF ?_;have z':false=isW x:=z;rw[z'];exact k)
noncomputable def qGS(t:Adr):Sp:=λvs H Q E=>∃x dx fs b e,vs=[.ref x]∧H x=some (.ins t.C_Terms dx fs)∧fs.lookup (Str.ofString "blocks")=some (.int b)∧fs.lookup (Str.ofString "ill")=some (.int e)∧Q (.int (b-1-e)) H
theorem q39(T:Txt K mg t)(S:Fns K t):S.fD.Ok0 P w mg base 1 (qGS t):=by(
refine S.fD.F.ok0 q35 λcdv A _ s H vs Q E hr h=>?_
obtain⟨x,dx,fs,b,e,rfl,hx,l1,l2,q⟩:=h
refine⟨_,(qE (qS (qN y9 (qN y9 (qM (pv 0) rfl) qI) (qM (pv 0) rfl)))),?_⟩
try dsimp-beta-proj-iota-zeta-eta only[wishK,cxK]
exact(iV rfl (iF hx T.aI T.aT l1 (iI (iV rfl (iF hx T.aI T.b9 l2 (iI q)))))))
noncomputable def teF(r0 r1 r2 r3 r4 r5:V):List (Str×V):=[("blocks",r0),("pages",r1),("sheets",r2),("share",r3),("ill",r4),("spread",r5)]
noncomputable def spTm(t:Adr):Sp:=λvs H Q E=>∃x dx,∃b p s r e d:Int,vs=[.ref x,.int b,.int p,.int s,.int r,.int e,.int d]∧H x=some (.ins t.C_Terms dx [])∧2≤b∧b≤16∧1≤p∧p≤16∧1≤s∧s≤64∧1≤r∧r≤(b-1-e)*p-2∧0≤e∧e≤b-2∧1≤d∧d≤1000000∧∀H',H' x=some (.ins t.C_Terms dx (teF (.int b) (.int p) (.int s) (.int r) (.int e) (.int d)))→Up x H H'→Q .non H'
theorem q4Q(T:Txt K mg t)(S:Fns K t):FnOk P w K mg base (CX0) 4 t.f_Terms_init S.bK ["self","blocks","pages","sheets","share","ill","spread"] (spTm t):=by(
refine S.tG.ok0 q4N λcdv A _ s H vs Q E hr h=>?_
obtain⟨x,dx,b,p,s',r,e,d,rfl,hx,b1,b2,p1,p2,s1,s2,r1,r2,e1,e2,d1,d2,q⟩:=h
refine⟨_,(qC (jA (jH (jB (qV (q2Y T S).mono hr rfl T.iZ T.iR S.iP.b .nil qK (qA (pv 1) (qA (pv 2) qG))))) (qE j9) qR) (qC (jA (jH (jB (qV (jE T S).mono hr rfl T.aE T.aF S.aJ.b .nil qK (qA (pv 3) (qA qI (qA qI qG)))))) (qE j9) qR) (qC (jA (jH (jB (qV (jE T S).mono hr rfl T.aE T.aF S.aJ.b .nil qK (qA (pv 5) (qA qI (qA (qN y9 (pv 1) qI) qG)))))) (qE j9) qR) (qC (jA (jH (jB (qV (jE T S).mono hr rfl T.aE T.aF S.aJ.b .nil qK (qA (pv 6) (qA qI (qA (yW rfl T.fB ⟨_,rfl⟩ (v:=.int 1000000)) qG)))))) (qE j9) qR) (qC (jI (pv 0) (pv 1) rfl) (qC (jI (pv 0) (pv 2) rfl) (qC (jI (pv 0) (pv 3) rfl) (qC (jI (pv 0) (pv 4) rfl) (qC (jI (pv 0) (pv 5) rfl) (qC (jI (pv 0) (pv 6) rfl) (qE (jA (jH (jB (qV (jE T S).mono hr rfl T.aE T.aF S.aJ.b .nil qK (qA (pv 4) (qA qI (qA (qN y9 (qN yD (j7 (pv 0) T.aI T.lY (q39 T S).mono hr S.fD.b .nil qK) (pv 2)) qI) qG)))))) (qE j9) qR)))))))))))),?_⟩
try dsimp-beta-proj-iota-zeta-eta only[wishK,cxK]
refine⟨_,rfl,_,rfl,.int b,.int p,rfl,.int b,.int p,_,rfl,?_⟩
rw[inBi b1 b2,inBi p1 p2]
refine iteF ⟨_,rfl,.int s',_,_,rfl,.int s',_,rfl,?_⟩
rw[inBi s1 s2]
refine iteF ⟨_,rfl,_,rfl,iI ⟨.int e,_,_,rfl,.int e,_,rfl,?_⟩⟩
rw[inBi e1 e2]
refine iteF ⟨_,rfl,.int d,_,_,rfl,.int d,_,rfl,?_⟩
rw[inBi d1 d2]
refine iteF ⟨_,rfl,_,rfl,x,_,dx,_,rfl,hx,T.aI,T.aT,by simp,?_⟩
have w1:Wm t.C_Terms x dx H (upd H x (.ins t.C_Terms dx (putF "blocks" (.int b) []))) (putF "blocks" (.int b) []) []:=⟨qJ,Up.of (Same.refl H),by simp,by simp⟩
refine⟨_,rfl,_,rfl,x,_,dx,_,rfl,w1.i,T.aI,T.a8,by show 1<1000;decide,?_⟩
have w2:=w1.put "pages" (.int p)
refine⟨_,rfl,_,rfl,x,_,dx,_,rfl,w2.i,T.aI,T.fF,by show 2<1000;decide,?_⟩
have w3:=w2.put "sheets" (.int s')
refine⟨_,rfl,_,rfl,x,_,dx,_,rfl,w3.i,T.aI,T.fN,by show 3<1000;decide,?_⟩
have w4:=w3.put "share" (.int r)
refine⟨_,rfl,_,rfl,x,_,dx,_,rfl,w4.i,T.aI,T.b9,by show 4<1000;decide,?_⟩
have w5:=w4.put "ill" (.int e)
refine⟨_,rfl,_,rfl,x,_,dx,_,rfl,w5.i,T.aI,T.lS,by show 5<1000;decide,?_⟩
have w:=w5.put "spread" (.int d)
refine⟨_,rfl,_,rfl,x,dx,_,rfl,w.i,rfl,x,dx,_,b,e,rfl,w.i,rfl,rfl,_,rfl,iI ⟨.inr ⟨by lia,by lia⟩,iI ⟨.int r,_,_,rfl,.int r,_,rfl,?_⟩⟩⟩
rw[inBi r1 r2]
exact iteF (q _ w.i w.u))
theorem qGT{H:Hp}{b p s r e d:Int}{Q:Addr→Hp→Prop}{E:XK}(b1:2≤b)(b2:b≤16)(p1:1≤p)(p2:p≤16)(s1:1≤s)(s2:s≤64)(r1:1≤r)(r2:r≤(b-1-e)*p-2)(e1:0≤e)(e2:e≤b-2)(d1:1≤d)(d2:d≤1000000)
 (q:∀x dx H',Same H H'→H' x=some (.ins t.C_Terms dx (teF (.int b) (.int p) (.int s) (.int r) (.int e) (.int d)))→Q x H') (x dx:Addr) (nx:H x=none) (ndx:H dx=none) (ne:dx≠x):
 spTm t [.ref x,.int b,.int p,.int s,.int r,.int e,.int d] (upd (upd H dx (.own x)) x (.ins t.C_Terms dx [])) (λv H2=>v=.non∧Q x H2) E:=by
 have s0:Same H (upd (upd H dx (.own x)) x (.ins t.C_Terms dx [])):=λb o e=>by rw[qD (qF e nx),qD (qF e ndx)];exact e
 exact⟨x,dx,b,p,s,r,e,d,rfl,qJ,b1,b2,p1,p2,s1,s2,r1,r2,e1,e2,d1,d2,λH' h u=>⟨rfl,q x dx H' (λb o e=>u b o (qF e nx) (s0 b o e)) h⟩⟩
noncomputable def qGU:Sp:=λvs H Q _=>∃s n,vs=[.int s,.int n]∧Q (.int (s*128+n)) H
theorem q8Q(T:Txt K mg t)(S:Fns K t):S.tR.Ok0 P w mg base 1 qGU:=by(
refine S.tR.F.ok0 q8P λcdv A _ s H vs Q E hr h=>?_
obtain⟨s',n,rfl,q⟩:=h
refine⟨_,(qE (qS (qN jM (qN yD (pv 0) (yW rfl T.x6 ⟨_,rfl⟩ (v:=.int 128))) (pv 1)))),?_⟩
try dsimp-beta-proj-iota-zeta-eta only[wishK,cxK]
exact⟨_,rfl,iI ⟨.inr ⟨by decide,by decide⟩,_,rfl,iI q⟩⟩)
structure BkA where
bk:Addr
dx:Addr
wv:Addr
lv:Addr
fi:Addr
bo:Addr
structure BkAt(t:Adr)(H:Hp)(a:BkA)(m:QM):Prop where
o:H a.bk=some (.ins t.C_Book a.dx [("blocks",.int (m.B:Int)),("pages",.int (m.P:Int)),("stamp",.int m.nx),("where",.ref a.wv),("live",.ref a.lv),("filled",.ref a.fi),("born",.ref a.bo)])
w:H a.wv=some (.dK (dI m.V))
l:H a.lv=some (.lst (m.lv.map V.int))
f:H a.fi=some (.lst (m.fi.map V.int))
b:H a.bo=some (.lst (m.bo.map V.int))
structure Dst(a:BkA):Prop where
lf:a.lv≠a.fi
lb:a.lv≠a.bo
fb:a.fi≠a.bo
theorem BkAt.same{t:Adr}{H H':Hp}{a:BkA}{m:QM}(h:BkAt t H a m)(s:Same H H'):BkAt t H' a m:=⟨s _ _ h.o,s _ _ h.w,s _ _ h.l,s _ _ h.f,s _ _ h.b⟩
theorem BkAt.keep{t:Adr}{H H':Hp}{a:BkA}{m:QM}{F:List Addr}(h:BkAt t H a m)(k:Keep F H H')(n:∀b∈[a.bk,a.wv,a.lv,a.fi,a.bo],b∉F):BkAt t H' a m:=⟨k.k _ _ (n _ (by simp)) h.o,k.k _ _ (n _ (by simp)) h.w,k.k _ _ (n _ (by simp)) h.l,k.k _ _ (n _ (by simp)) h.f,k.k _ _ (n _ (by simp)) h.b⟩
noncomputable def bk0(B P:Nat):QM:=⟨P,B,1,[],List.replicate B 0,List.replicate B 0,List.replicate B 0⟩
noncomputable def qGV(t:Adr):Sp:=λvs H Q _=>∃x dx B P,vs=[.ref x,.int (B:Nat),.int (P:Nat)]∧B≤16∧H x=some (.ins t.C_Book dx [])∧∀(a:BkA) H',a.bk=x→a.dx=dx→BkAt t H' a (bk0 B P)→Dst a→(∀b∈[a.wv,a.lv,a.fi,a.bo],H b=none)→(∀b o,b≠x→H b=some o→H' b=some o)→Q .non H'
theorem q6K(T:Txt K mg t)(S:Fns K t):S.iX.Ok0 P w mg base 1 (qGV t):=by(
refine S.iX.F.ok0 q69 λcdv A _ s H vs Q E hr h=>?_
obtain⟨x,dx,B,P,rfl,hB,hx,q⟩:=h
refine⟨_,(qC (jI (pv 0) (pv 1) rfl) (qC (jI (pv 0) (pv 2) rfl) (qC (jI (pv 0) qI rfl) (qC (jI (pv 0) q23 rfl) (qC (jI (pv 0) (qN vO (jT (qA qI qG)) (pv 1)) rfl) (qC (jI (pv 0) (qN vO (jT (qA qI qG)) (pv 1)) rfl) (qE (jI (pv 0) (qN vO (jT (qA qI qG)) (pv 1)) rfl)))))))),?_⟩
try dsimp-beta-proj-iota-zeta-eta only[wishK,cxK]
refine⟨_,rfl,_,rfl,x,_,dx,_,rfl,hx,T.aG,T.oG,by decide,?_⟩
refine⟨_,rfl,_,rfl,x,_,dx,_,rfl,qJ,T.aG,T.eQ,by show 1<1000;decide,?_⟩
refine⟨_,rfl,x,_,dx,_,rfl,qJ,T.aG,T.bW,by show 2<1000;decide,?_⟩
rw[q5M,q5M]
have w1:Wm t.C_Book x dx H (upd H x (.ins t.C_Book dx (putF "stamp" (.int 1) (putF "pages" (.int (P:Int)) (putF "blocks" (.int (B:Int)) []))))) (putF "stamp" (.int 1) (putF "pages" (.int (P:Int)) (putF "blocks" (.int (B:Int)) []))) []:=⟨qJ,Up.of (Same.refl H),by simp,by simp⟩
have rep:∀n:Nat,List.replicate n (V.int 0)=(List.replicate n (0:Int)).map V.int:=λn=>by rw[rC]
have eB:((B:Int)).toNat=B:=by lia
refine λwv nwv=>?_
have w2:=w1.add nwv (Same.upd (o:=.dK []) nwv) qJ
refine⟨_,rfl,x,_,dx,_,rfl,w2.i,T.aG,T.aY,by show 3<1000;decide,?_⟩
have w2:=w2.put "where" (.ref wv)
refine⟨sz1,λwa A3 n3 s3 e3=>⟨_,rfl,wa,_,_,rfl,rfl,e3,by lia,by lia,λlv B3 m3 r3 hlv=>?_⟩⟩
rw[eB,rep]at hlv
have w3:=(w2.same s3).add m3 r3 hlv
refine⟨_,rfl,x,_,dx,_,rfl,w3.i,T.aG,T.eY,by show 4<1000;decide,?_⟩
have w3:=w3.put "live" (.ref lv)
refine⟨sz1,λwa A4 n4 s4 e4=>⟨_,rfl,wa,_,_,rfl,rfl,e4,by lia,by lia,λfi B4 m4 r4 hfi=>?_⟩⟩
rw[eB,rep]at hfi
have w4:=(w3.same s4).add m4 r4 hfi
refine⟨_,rfl,x,_,dx,_,rfl,w4.i,T.aG,T.aQ,by show 5<1000;decide,?_⟩
have w4:=w4.put "filled" (.ref fi)
refine⟨sz1,λwa A5 n5 s5 e5=>⟨_,rfl,wa,_,_,rfl,rfl,e5,by lia,by lia,λbo B5 m5 r5 hbo=>?_⟩⟩
rw[eB,rep]at hbo
have w5:=(w4.same s5).add m5 r5 hbo
refine⟨_,rfl,x,_,dx,_,rfl,w5.i,T.aG,T.iK,by show 6<1000;decide,?_⟩
have w5:=w5.put "born" (.ref bo)
have nd:[wv,lv,fi,bo].Nodup:=w5.n
simp only[mM,kG,mC,not_or,gS]at nd
exact q ⟨x,dx,wv,lv,fi,bo⟩ _ rfl rfl ⟨w5.i,(w5.o (wv,.dK []) (by simp)).1,(w5.o (lv,.lst ((List.replicate B (0:Int)).map V.int)) (by simp)).1,(w5.o (fi,.lst ((List.replicate B (0:Int)).map V.int)) (by simp)).1,(w5.o (bo,.lst ((List.replicate B (0:Int)).map V.int)) (by simp)).1⟩ ⟨nd.2.1.1,nd.2.1.2,nd.2.2.1⟩ (λb' hb'=>w5.fr b' hb') w5.u)
noncomputable def qFI(t:Adr):Sp:=λvs H Q _=>∃a,∃m:QM,∃n,vs=[.ref a.bk,.int n]∧BkAt t H a m∧Q (.int (m.nx*128+n)) H
theorem q6L(T:Txt K mg t)(S:Fns K t):S.lT.Ok0 P w mg base 2 (qFI t):=by(
refine S.lT.F.ok0 q6A λcdv A _ s H vs Q E hr h=>?_
obtain⟨a,m,n,rfl,hb,q⟩:=h
refine⟨_,(qE (qS (qV (q8Q T S).mono hr rfl T.xQ T.xP S.tR.b .nil qK (qA (qM (pv 0) rfl) (qA (pv 1) qG))))),?_⟩
try dsimp-beta-proj-iota-zeta-eta only[wishK,cxK]
exact(iV rfl (iF hb.o T.aG T.bW rfl ⟨_,rfl,_,_,rfl,q⟩)))
noncomputable def spFg(t:Adr):Sp:=λvs H Q _=>∃a,∃m:QM,∃n,vs=[.ref a.bk,.int n]∧BkAt t H a m∧m.Ok∧Dst a∧∀H',BkAt t H' a (m.forget n)→Keep [a.wv,a.lv] H H'→Q .non H'
theorem q0R(T:Txt K mg t)(S:Fns K t):S.eU.Ok0 P w mg base 1 (spFg t):=by(
refine S.eU.F.ok0 q0N λcdv A _ s H vs Q E hr h=>?_
obtain⟨a,m,n,rfl,hb,ok,ds,q⟩:=h
have hu:=vM hr
have p1:=ok.p1
have p2:=ok.p2
have ob:a.bk≠a.wv:=jN hb.o hb.w (by intro z;cases z)
have ol:a.bk≠a.lv:=jN hb.o hb.l (by intro z;cases z)
have wl:a.wv≠a.lv:=jN hb.w hb.l (by intro z;cases z)
have wf:a.fi≠a.wv:=jN hb.f hb.w (by intro z;cases z)
have wb:a.bo≠a.wv:=jN hb.b hb.w (by intro z;cases z)
refine⟨_,(qE (jA (q2H (q3U hu (pv 1) (qM (pv 0) rfl))) (qC (qX (i:=2) q0N.nd rfl (Or.inl rfl) (q76 (qM (pv 0) rfl) (pv 1) ⟨rfl,rfl,rfl,rfl⟩)) (qE (q3A (qM (pv 0) rfl) (qN yX (pv 2) (qM (pv 0) rfl)) q24 qI qE0 uJ))) qR)),?_⟩
try dsimp-beta-proj-iota-zeta-eta only[wishK,cxK]
refine⟨_,rfl,iV rfl (iF hb.o T.aG T.aY rfl ⟨a.wv,_,rfl,DGet.k (k:=Sum.inl n) hb.w,_,rfl,?_⟩)⟩
rcases QM.find_V (m:=m) (n:=n)with⟨p,hp,ef⟩|⟨hn,ef⟩
·have hv:(n,p)∈m.V:=hp;rw[zN ok.nd hv];refine iteT ?_;refine(iV rfl (iF hb.o T.aG T.aY rfl ⟨a.wv,rfl,.inl ⟨_,.inl hb.w⟩,_,rfl,_,Sum.inl n,_,hb.w,rfl,zN ok.nd hv,?_⟩));rw[q7H];have k1:Keep [a.wv,a.lv] H (upd H a.wv (.dK (dI (jG m.V n)))):=Keep.upd hb.w (λ_ z=>by cases z) (by simp);have w1:(upd H a.wv (.dK (dI (jG m.V n)))) a.wv=some (.dK (dI (jG m.V n))):=qJ;have u1:∀b o,b≠a.wv→H b=some o→(upd H a.wv (.dK (dI (jG m.V n)))) b=some o:=λb o nb e=>by rw[qD nb];exact e
 generalize upd H a.wv (.dK (dI (jG m.V n)))=H1 at k1 w1 u1 ⊢;obtain⟨c,hc,ec⟩:=ok.blk _ hp;have ec:p / (m.P:Int)=(c:Int):=ec;have hcl:c<m.lv.length:=by rw[ok.ll];exact hc
 have l1:=u1 _ _ wl.symm hb.l;refine(iV rfl (iF (u1 _ _ ob hb.o) T.aG T.eY rfl ⟨_,rfl,iV rfl (iF (u1 _ _ ob hb.o) T.aG T.eQ rfl (iI ⟨⟨by lia,by lia⟩,iL (k:=_) (v:=_) (SqL.of l1) (by rw[ec];exact atV hcl) (iI ⟨a.lv,_,_,c,rfl,rfl,l1,(by rw[ec];exact q61 (by rw[h8];exact hcl)),?_⟩)⟩))⟩));rw[setV];have el:(m.forget n).lv=m.lv.set c (m.lv.getD c 0-1):=by show BM.lvF m.P m.V m.lv n=_;unfold BM.lvF;rw[ef];show m.lv.set (p / (m.P:Int)).toNat (m.lv.getD (p / (m.P:Int)).toNat 0-1)=_;rw[ec,show((c:Int)).toNat=c by lia]
 refine q _ ⟨?_,?_,?_,?_,?_⟩ (k1.trans (Keep.upd l1 (λ_ z=>by cases z) (by simp)))
 ·rw[qD ol];exact u1 _ _ ob hb.o
 ·rw[qD wl];exact w1
 ·rw[el];exact qJ
 ·rw[qD ds.lf.symm];exact u1 _ _ wf hb.f
 rw[qD ds.lb.symm];exact u1 _ _ wb hb.b
rw[zO (λz=>by obtain⟨r,hr',e⟩:=mH.mp z;exact hn r hr' e)]
refine iteF ?_
have el:(m.forget n).lv=m.lv:=by show BM.lvF m.P m.V m.lv n=_;unfold BM.lvF;rw[ef]
have eV:(m.forget n).V=m.V:=qD0 λr hr'=>hn r hr'
exact q H ⟨hb.o,by rw[eV];exact hb.w,by rw[el];exact hb.l,hb.f,hb.b⟩ Keep.refl)
theorem q6M{V:Mp}:(dI V).length=V.length:=by unfold dI;rw[h8]
noncomputable def spNt(t:Adr):Sp:=λvs H Q _=>∃a,∃m:QM,∃b f n,vs=[.ref a.bk,.int ((b*m.P+f:Nat):Int),.int n]∧BkAt t H a m∧m.Ok∧Dst a∧b<m.B∧f<m.P∧m.fi.getD b 0=(f:Int)∧∀H',BkAt t H' a (m.put b f n)→Keep [a.bk,a.wv,a.lv,a.fi,a.bo] H H'→Q .non H'
theorem q6N(T:Txt K mg t)(S:Fns K t):S.i5.Ok0 P w mg base 2 (spNt t):=by(
refine S.i5.F.ok0 q29 λcdv A _ s H vs Q E hr h=>?_
obtain⟨a,m,b,f,n,rfl,hb,ok,ds,hB,hf,ef,q⟩:=h
have hu:=vM hr
have p1:=ok.p1
have p2:=ok.p2
have ob:a.bk≠a.wv:=jN hb.o hb.w (by intro z;cases z)
have ol:a.bk≠a.lv:=jN hb.o hb.l (by intro z;cases z)
have of':a.bk≠a.fi:=jN hb.o hb.f (by intro z;cases z)
have oo:a.bk≠a.bo:=jN hb.o hb.b (by intro z;cases z)
have wl:a.wv≠a.lv:=jN hb.w hb.l (by intro z;cases z)
have wf:a.fi≠a.wv:=jN hb.f hb.w (by intro z;cases z)
have wb:a.bo≠a.wv:=jN hb.b hb.w (by intro z;cases z)
have eb:((b*m.P+f:Nat):Int) / (m.P:Int)=(b:Int):=by rw[←wM,q0Y hf]
refine⟨_,(qC (qX (i:=3) q29.nd rfl (Or.inl rfl) (qN yX (pv 1) (qM (pv 0) rfl))) (qC (qY (jD (pv 0) T.aG T.f8 (q0R T S).mono hr S.eU.b .nil qK (qA (pv 2) qG))) (qC (jW hu (qM (pv 0) rfl) (pv 2) (pv 1) rfl) (qC (q3A (qM (pv 0) rfl) (pv 3) q24 qI q81 uJ) (q3E (jA (qZ q00 (yL jS (qM (pv 0) rfl) (pv 3) (λ_ _=>rfl)) qI (j8 _)) (qE (q3J (qM (pv 0) rfl) (q5O (qM (pv 0) rfl) (pv 3) uJ))) qR) (qC (q3A (qM (pv 0) rfl) (pv 3) q24 qI q81 uJ) (qE (q9K (pv 0) qI qE3)))))))),?_⟩
try dsimp-beta-proj-iota-zeta-eta only[wishK,cxK]
refine⟨_,rfl,iV rfl (iF hb.o T.aG T.eQ rfl (iI ⟨⟨by lia,by lia⟩,?_⟩))⟩
try dsimp only
rw[eb]
refine(iV rfl (iM hb.o rfl ⟨_,rfl,a,m,n,rfl,hb,ok,ds,λH1 hb1 k1=>?_⟩))
have k1:Keep [a.bk,a.wv,a.lv,a.fi,a.bo] H H1:=k1.mono (by intro x hx;simp at hx ⊢;rcases hx with rfl|rfl<;>simp)
have lnV:(jG m.V n).length≤65:=kY (mL _ _) ok.lenV
have w0:H1 a.wv=some (.dK (dI (jG m.V n))):=hb1.w
refine⟨_,rfl,iV rfl (iF hb1.o T.aG T.aY rfl ⟨_,rfl,a.wv,_,rfl,.inl ⟨_,Sum.inl n,w0,rfl,(by rw[q6M];exact rB (m:=65) (by lia) (by decide)),rfl⟩,?_⟩)⟩
rw[q99,qA1]
have k2:Keep [a.bk,a.wv,a.lv,a.fi,a.bo] H1 (upd H1 a.wv (.dK (dI (jG m.V n++[(n,((b*m.P+f:Nat):Int))])))):=Keep.upd w0 (λ_ z=>by cases z) (by simp)
have w2:(upd H1 a.wv (.dK (dI (jG m.V n++[(n,((b*m.P+f:Nat):Int))])))) a.wv=some (.dK (dI (jG m.V n++[(n,((b*m.P+f:Nat):Int))]))):=qJ
have u2:∀x o,x≠a.wv→H1 x=some o→(upd H1 a.wv (.dK (dI (jG m.V n++[(n,((b*m.P+f:Nat):Int))])))) x=some o:=λx o nb e=>by rw[qD nb];exact e
generalize upd H1 a.wv (.dK (dI (jG m.V n++[(n,((b*m.P+f:Nat):Int))])))=H2 at k2 w2 u2 ⊢
have o2:=u2 _ _ ob hb1.o
have l2:H2 a.lv=some (.lst ((BM.lvF m.P m.V m.lv n).map V.int)):=u2 _ _ wl.symm hb1.l
have f2:H2 a.fi=some (.lst (m.fi.map V.int)):=u2 _ _ wf hb1.f
have b2:H2 a.bo=some (.lst (m.bo.map V.int)):=u2 _ _ wb hb1.b
have hbl:b<(BM.lvF m.P m.V m.lv n).length:=by rw[show(BM.lvF m.P m.V m.lv n).length=m.B from(ok.forget n).ll];exact hB
have hbf:b<m.fi.length:=by rw[ok.lf];exact hB
have hbo:b<m.bo.length:=by rw[ok.lo];exact hB
refine(iV rfl (iF o2 T.aG T.eY rfl ⟨_,rfl,iL (k:=_) (v:=_) (SqL.of l2) (atV hbl) (iI ⟨a.lv,_,_,b,rfl,rfl,l2,q61 (by rw[h8];exact hbl),?_⟩)⟩))
rw[setV]
have k3:Keep [a.bk,a.wv,a.lv,a.fi,a.bo] H2 (upd H2 a.lv (.lst (((BM.lvF m.P m.V m.lv n).set b ((BM.lvF m.P m.V m.lv n).getD b 0+1)).map V.int))):=Keep.upd l2 (λ_ z=>by cases z) (by simp)
have l3:(upd H2 a.lv (.lst (((BM.lvF m.P m.V m.lv n).set b ((BM.lvF m.P m.V m.lv n).getD b 0+1)).map V.int))) a.lv=some (.lst (((BM.lvF m.P m.V m.lv n).set b ((BM.lvF m.P m.V m.lv n).getD b 0+1)).map V.int)):=qJ
have u3:∀x o,x≠a.lv→H2 x=some o→(upd H2 a.lv (.lst (((BM.lvF m.P m.V m.lv n).set b ((BM.lvF m.P m.V m.lv n).getD b 0+1)).map V.int))) x=some o:=λx o nb e=>by rw[qD nb];exact e
generalize upd H2 a.lv (.lst (((BM.lvF m.P m.V m.lv n).set b ((BM.lvF m.P m.V m.lv n).getD b 0+1)).map V.int))=H3 at k3 l3 u3 ⊢
have o3:=u3 _ _ ol o2
have w3:=u3 _ _ wl w2
have f3:=u3 _ _ ds.lf.symm f2
have b3:=u3 _ _ ds.lb.symm b2
refine⟨λσ' H'=>σ'=[some (.ref a.bk),some (.int ((b*m.P+f:Nat):Int)),some (.int n),some (.int (b:Int))]∧Keep [a.bk,a.wv,a.lv,a.fi,a.bo] H3 H'∧H' a.bo=some (.lst ((m.put b f n).bo.map V.int))∧∀x o,x≠a.bo→H3 x=some o→H' x=some o,?_,?_⟩
·refine(iV rfl (iF o3 T.aG T.aQ rfl ⟨_,rfl,iL (k:=_) (v:=_) (SqL.of f3) (atV hbf) ⟨rfl,_,rfl,?_⟩⟩));rw[vV];by_cases z:m.fi.getD b 0=0
 ·rw[hW z];refine iteT ?_;refine(iV rfl (iF o3 T.aG T.bW rfl (iV rfl (iF o3 T.aG T.iK rfl ⟨_,rfl,a.bo,_,_,b,rfl,rfl,b3,q61 (by rw[h8];exact hbo),?_⟩))));rw[setV];refine⟨rfl,Keep.upd b3 (λ_ z=>by cases z) (by simp),?_,λx o nb e=>by rw[qD nb];exact e⟩;rw[qJ];show _=some (HO.lst ((if m.fi.getD b 0=0 then m.bo.set b m.nx else m.bo).map V.int));rw[hU z];rfl
 rw[hZ z];refine iteF ⟨rfl,Keep.refl,?_,λx o _ e=>e⟩;show _=some (HO.lst ((if m.fi.getD b 0=0 then m.bo.set b m.nx else m.bo).map V.int));rw[hV z];exact b3
rintro σ' H4 ⟨rfl,k4,b4,u4⟩
have o4:=u4 _ _ oo o3
have w4:=u4 _ _ wb.symm w3
have l4:=u4 _ _ ds.lb l3
have f4:=u4 _ _ ds.fb f3
refine(iV rfl (iF o4 T.aG T.aQ rfl ⟨_,rfl,iL (k:=_) (v:=_) (SqL.of f4) (atV hbf) (iI ⟨a.fi,_,_,b,rfl,rfl,f4,q61 (by rw[h8];exact hbf),?_⟩)⟩))
rw[setV]
have k5:Keep [a.bk,a.wv,a.lv,a.fi,a.bo] H4 (upd H4 a.fi (.lst ((m.fi.set b (m.fi.getD b 0+1)).map V.int))):=Keep.upd f4 (λ_ z=>by cases z) (by simp)
have f5:(upd H4 a.fi (.lst ((m.fi.set b (m.fi.getD b 0+1)).map V.int))) a.fi=some (.lst ((m.fi.set b (m.fi.getD b 0+1)).map V.int)):=qJ
have u5:∀x o,x≠a.fi→H4 x=some o→(upd H4 a.fi (.lst ((m.fi.set b (m.fi.getD b 0+1)).map V.int))) x=some o:=λx o nb e=>by rw[qD nb];exact e
generalize upd H4 a.fi (.lst ((m.fi.set b (m.fi.getD b 0+1)).map V.int))=H5 at k5 f5 u5 ⊢
have o5:=u5 _ _ of' o4
refine⟨_,rfl,a.bk,_,a.dx,_,_,rfl,o5,T.aG,T.bW,rfl,_,_,rfl,rfl,a.dx,_,o5,by show 7<1000;decide,?_⟩
refine q _ ⟨?_,?_,?_,?_,?_⟩ ((((k1.trans k2).trans k3).trans k4).trans (k5.trans (Keep.upd o5 (λ_ z=>by cases z) (by simp))))
·exact qJ
·rw[qD ob.symm];exact u5 _ _ wf.symm w4
·rw[qD ol.symm];exact u5 _ _ ds.lf l4
·rw[qD of'.symm];exact f5
rw[qD oo.symm]
exact u5 _ _ ds.fb.symm b4)
noncomputable def lamE:Expr:=match((jR jL).getLast?:Option Stmt)with
|some (Stmt.Return (some (Expr.Call _ _ (k::_) _)) _)=>k.value
|_=>Expr.Name "" ⟨0,0,0,0⟩
noncomputable abbrev lamA:Arguments:=match lamE with
| .Lambda a _ _ _=>a
|_=>yB jL
noncomputable abbrev lamB:Expr:=match lamE with
| .Lambda _ b _ _=>b
|_=>lamE
noncomputable abbrev qBZ:Scope:=match lamE with
| .Lambda _ _ s _=>s
|_=>qH jL
noncomputable abbrev lamP:Pos:=match lamE with
| .Lambda _ _ _ p=>p
|_=>⟨0,0,0,0⟩
noncomputable abbrev lamQ:Str:=(PyProof.Rows.envOfC "Plain.free" (qH jL) 0 0 .none).qual++"<lambda>"
noncomputable abbrev q4A(clos:List (Str×Addr))(pm ct:Value)(c:Addr):FuncData:=W.kla_fn "<lambda>" lamQ lamA lamB qBZ clos pm (.ref c) ct
noncomputable def tri(c:Addr):Array Value:=#[rawInt lamP.line,rawInt lamP.col,.ref c]
noncomputable def TbF(t:Adr)(H:Hp):Prop:=∃ps,H t.aA=some (.tbl ps)∧(ps=#[]∨∃c,ps=tri c∧H c=some (cdO c lamQ))
theorem TbF.same{t:Adr}{H H':Hp}(s:Same H H')(h:TbF t H):TbF t H':=by(
obtain⟨ps,hT,h⟩:=h
refine⟨ps,s _ _ hT,?_⟩
rcases h with h|⟨c,h,a⟩
·exact .inl h
exact .inr ⟨c,h,s _ _ a⟩)
structure Sto where
s:Addr
sd:Addr
tm:Addr
td:Addr
c:Addr
a:CA
k:BkA
ru:V
pa:V
noncomputable def bf(k:BkA):List Addr:=[k.bk,k.wv,k.lv,k.fi,k.bo]
noncomputable def sf(x:Sto):List Addr:=foot x.c x.a++bf x.k
structure Fit(m:CM)(q:QM):Prop where
ok:m.Ok
oq:q.Ok
eB:m.bl=(q.B:Int)
eP:m.pg=(q.P:Int)
structure StAt(t:Adr)(H:Hp)(x:Sto)(r2 r3 r4 r5:V)(m:CM)(q:QM):Prop where
o:H x.s=some (.ins t.C_Sure x.sd [("chip",.ref x.c),("terms",.ref x.tm),("book",.ref x.k.bk),("rule",x.ru),("papers",x.pa)])
te:H x.tm=some (.ins t.C_Terms x.td (teF (.int m.bl) (.int m.pg) r2 r3 r4 r5))
ch:ChipAt t.C_Chip H x.c x.a m
bk:BkAt t H x.k q
tb:TbF t H
ds:Dst x.k
d1:∀b∈x.a.li::foot x.c x.a,b∉bf x.k
d2:∀b∈[x.s,x.tm],b∉sf x
section
variable{H H':Hp}{x:Sto}{r2 r3 r4 r5:V}{m:CM}{q:QM}
theorem StAt.same(h:StAt t H x r2 r3 r4 r5 m q)(s:Same H H'):StAt t H' x r2 r3 r4 r5 m q:=⟨s _ _ h.o,s _ _ h.te,h.ch.same s,h.bk.same s,h.tb.same s,h.ds,h.d1,h.d2⟩
theorem TbF.ne(h:TbF t H){b:Addr}{o:HO}(e:H b=some o)(n:∀ps,o≠ .tbl ps):b≠t.aA:=λz=>by obtain⟨ps,hT,_⟩:=h;rw[z,hT]at e;exact n ps (kH e).symm
theorem StAt.nT(h:StAt t H x r2 r3 r4 r5 m q):∀b∈[x.s,x.tm]++(x.a.li::sf x),b∉[t.aA]:=by(
intro b hb z
have z:b=t.aA:=by simpa using z
have ne:∀{b:Addr} {o:HO},H b=some o→(∀ps,o≠ .tbl ps)→b≠t.aA:=λe n=>h.tb.ne e n
obtain⟨rs,er,_⟩:=h.ch.rc
have hb:b=x.s∨b=x.tm∨b=x.a.li∨b=x.c∨b=x.a.bo∨b=x.a.cl∨b=x.a.dc∨b=x.a.br∨b=x.a.rc∨b=x.k.bk∨b=x.k.wv∨b=x.k.lv∨b=x.k.fi∨b=x.k.bo:=by simpa[sf,bf,foot]using hb
rcases hb with y|y|y|y|y|y|y|y|y|y|y|y|y|y<;>rw[y]at z
·exact ne h.o (λ_ z=>by cases z) z
·exact ne h.te (λ_ z=>by cases z) z
·exact ne h.ch.li (λ_ z=>by cases z) z
·exact ne h.ch.ins (λ_ z=>by cases z) z
·exact ne h.ch.bo (λ_ z=>by cases z) z
·exact ne h.ch.cl (λ_ z=>by cases z) z
·exact ne h.ch.dc (λ_ z=>by cases z) z
·exact ne h.ch.br (λ_ z=>by cases z) z
·exact ne er (λ_ z=>by cases z) z
·exact ne h.bk.o (λ_ z=>by cases z) z
·exact ne h.bk.w (λ_ z=>by cases z) z
·exact ne h.bk.l (λ_ z=>by cases z) z
·exact ne h.bk.f (λ_ z=>by cases z) z
exact ne h.bk.b (λ_ z=>by cases z) z)
theorem StAt.keep(h:StAt t H x r2 r3 r4 r5 m q){F:List Addr}(k:Keep F H H')(n:∀b∈[x.s,x.tm]++(x.a.li::sf x),b∉F)(tb:TbF t H'):StAt t H' x r2 r3 r4 r5 m q:=⟨k.k _ _ (n _ (by simp)) h.o,k.k _ _ (n _ (by simp)) h.te,h.ch.keep k (λb hb=>n b (by
  rcases kG.mp hb with rfl|hb
  ·simp
  ·simp[sf,hb])),h.bk.keep k (λb hb=>n b (by
  have hb:b∈bf x.k:=hb;simp[sf,hb])),tb,h.ds,h.d1,h.d2⟩
theorem StAt.kT(h:StAt t H x r2 r3 r4 r5 m q)(k:Keep [t.aA] H H')(tb:TbF t H'):StAt t H' x r2 r3 r4 r5 m q:=h.keep k h.nT tb
end
noncomputable def spGd(t:Adr):Sp:=λvs H Q _=>∃x r2 r3 r4 r5 m q,vs=[.ref x.s]∧StAt t H x r2 r3 r4 r5 m q∧Fit m q∧NewO H (.lst ((jK q.B m.br).map vn)) Q
theorem q0S(T:Txt K mg t)(S:Fns K t):FnOkH P w K mg base CX0 5 t.f_Plain_good S.bY.fd ["self"] (spGd t):=by(
refine S.bY.F.okH q4I (λvs H Q E h=>?_) (λcdv A outer s H vs Q E hp hh hr h=>?_)
·repeat obtain⟨_,h⟩:=h
 all_goals subst_vars;rfl
obtain⟨x,r2,r3,r4,r5,m,q,rfl,hs,ft,k⟩:=h
have b2:=ft.oq.b2
have eB:=ft.eB
refine⟨_,(qE (qS (qBW ["self","block"] [0] hh (q8O rfl T.iY (qA (qM (qM (pv 0) rfl) rfl) qG)) (λ_ _ _ _ _=>(jQ (i:=1) (show List.Nodup (["self","block"]:List Str)from by decide) rfl (Or.inl rfl))) (λ_ _ _ _ _=>(q26 (jH (jB (q7M (q62 (K:=K) rfl (pv 0) rfl) T.aD T.oJ (q38 T S).mono hh hr S.fV.b .nil qK (qA (pv 1) qG)))))) (λ_ _ _ _ _=>(pv 1)) (by kernel_rfl) (q05 (by decide))))),?_⟩
try dsimp-beta-proj-iota-zeta-eta only[wishK,cxK]
refine(iV rfl (iF hs.o T.aB T.aH rfl (iF hs.te T.aI T.aT rfl ⟨m.bl,rfl,by lia,by lia,λD H2 nD s2 hD=>?_⟩)))
refine qA2 (D:=D) (λi H3=>Same H H3∧H3 D=some (.lst (((List.range i).filter λb=>!(m.br.getD b false)).map vn))) ⟨s2,hD⟩ (λi H3 hi hp=>?_) (λH3 hp=>?_)
·obtain⟨sm,hd⟩:=hp;have hi:i<q.B:=by lia
 have h3:=hs.same sm;refine(iV rfl (iF h3.o T.aB T.aV rfl (iM h3.ch.ins rfl ⟨_,rfl,x.c,x.a,m,_,rfl,h3.ch,ft.ok,by lia,by lia,?_⟩)));rw[show(0+(i:Int)).toNat=i by lia,cD];refine⟨_,rfl,?_⟩;rw[List.range_succ,dH,mI];cases z:m.br.getD i false with
 |true=>refine iteF ⟨sm,?_⟩;rw[hd,mJ,z];simp
 |false=>
  refine iteT ?_;refine⟨_,rfl,_,hd,?_,λb o e=>?_,?_⟩
  ·rw[h8];have:((List.range i).filter λb=>!(m.br.getD b false)).length≤i:=kY (mL _ _) (by rw[gI];exact kB _);have:(16:Nat)<sizeLine:=by decide
   lia
  ·rw[qD (qF e nD)];exact sm _ _ e
  rw[qJ,mJ,z];rfl
obtain⟨sm,hd⟩:=hp
rw[show m.bl.toNat=q.B by lia]at hd
exact k D H3 nD sm hd)
theorem q1B(T:Txt K mg t)(S:Fns K t):S.bY.Ok0 P w mg base 5 (spGd t):=(q0S T S).fn
noncomputable def spLm(t:Adr)(x:Sto)(g c:Addr)(fd:FuncData):Sp:=λvs H Q _=>∃r2 r3 r4 r5,∃m:CM,∃q:QM,∃b:Nat,vs=[.int (b:Int)]∧StAt t H x r2 r3 r4 r5 m q∧Fit m q∧b<q.B∧H g=some (fnO g fd)∧H c=some (cdO c lamQ)∧∀tp H',H tp=none→Same H H'→H' tp=some (.tup [.int (m.cl.getD b 0),.int (b:Int)])→Q (.ref tp) H'
theorem qFJ(T:Txt K mg t)(S:Fns K t){g c ca:Addr}{pm ct:Value}{x:Sto}(hc:base.IsCell ca (some (.ref x.s))):
 FnOk P w K mg base CX0 5 g (q4A [("self",ca)] pm ct c) ["block"] (spLm t x g c (q4A [("self",ca)] pm ct c)):=by(
refine qD3 (k:=4) (x0:="block") (fvs:=[.ref x.s]) (qA4 (u:=.ref x.s) rfl rfl rfl (by decide+kernel) (by decide+kernel) (by decide+kernel) rfl hc) (λvs H Q E h=>?_) (λvs H Q E h=>?_) (λA outer s H v0 Q E hr h=>?_)
·repeat obtain⟨_,h⟩:=h
 all_goals subst_vars;rfl
·obtain⟨r2,r3,r4,r5,m,q,b,rfl,_,_,_,a,d,_⟩:=h;exact⟨a,d⟩
obtain⟨r2,r3,r4,r5,m,q,b,e,hs,ft,hb,_,_,k⟩:=h
obtain rfl:v0=.int (b:Int):=by simpa using e
have eB:=ft.eB
refine⟨_,v3 (qA (jD (qM (pv 1) rfl) T.aD T.oB (q37 T S).mono hr S.fA.b .nil qK (qA (pv 0) qG)) (qA (pv 0) qG)),?_⟩
refine(iV rfl (iF hs.o T.aB T.aV rfl (iM hs.ch.ins rfl ⟨_,rfl,x.c,x.a,m,_,rfl,hs.ch,ft.ok,by lia,by lia,?_⟩)))
rw[kR]
exact⟨_,rfl,sz2,k⟩)
theorem qAB{clos:List (Str×Addr)}{c:Addr}{pm ct:Value}:jO K (q4A clos pm ct c) ["block"] []:=jO.all λus hl=>match us,hl with| [_],_=>rfl
theorem qDD{t:Adr}{H:Hp}(h:TbF t H):∃ps,H t.aA=some (.tbl ps)∧TriplesOk ps.toList∧((codeAmong lamP ps.toList=none∧∀c H',H' t.aA=some (.tbl (ps++tri c))→H' c=some (cdO c lamQ)→TbF t H')∨∃c,codeAmong lamP ps.toList=some (.ref c)∧H c=some (cdO c lamQ)):=by(
obtain⟨ps,hT,h⟩:=h
rcases h with rfl|⟨c,rfl,a⟩
·exact⟨_,hT,trivial,.inl ⟨rfl,λc H' e1 e2=>⟨_,e1,.inr ⟨c,rfl,e2⟩⟩⟩⟩
exact⟨_,hT,trivial,.inr ⟨c,rfl,a⟩⟩)
theorem q5L(T:Txt K mg t)(S:Fns K t){cells:List (Str×Addr)}{σ:St}{H4:Hp}{D f c':Addr}{x:Sto}{r2 r3 r4 r5:V}{m:CM}{q:QM}{clos:List (Str×Addr)}{pm ct:Value}{Q:VK}(hσ:σ[0]?=some (some (.ref x.s)))(hcl:∀ca,cells.lookup ("self":Str)=some ca→clos=[(("self":Str),ca)])
 (hs:StAt t H4 x r2 r3 r4 r5 m q) (ft:Fit m q) (hD:H4 D=some (.lst ((yO q.B m.br q.fi).map vn))) (hf:H4 f=some (fnO f (q4A clos pm ct c'))) (hc:H4 c'=some (cdO c' lamQ)) (k:∀l p H',FreeIs q.B m.br m.cl q.fi l→H4 p=none→Same H4 H'→H' p=some (.lst (l.map vn))→Q (.ref p) H'):
 ∃(f':Addr) (fd:FuncData) (sp:Heap→Sp),V.ref f=.ref f'∧(∀base',(∀b o,base.get? b=some o→base'.get? b=some o)→q44 cells σ base' [(0,"self")]→FnOk P w K mg base' CX0 5 f' fd ["block"] (sp base'))∧jO K fd ["block"] []∧∃(l:Addr) (us:List V) (Pv:Nat→List V→Hp→Prop),[V.ref D]=[.ref l]∧SqL K H4 l us∧us.length<64∧Pv 0 [] H4∧(∀base' i x zs H',q44 cells σ base' [(0,"self")]→us[i]?=some x→Pv i zs H'→sp base' [x] H' (λz H''=>Pv (i+1) (zs++[z]) H'') E0)∧∀zs H',zs.length=us.length→Pv us.length zs H'→∃kk m,Paired (TupI K H') zs kk∧(∀k∈kk,k.length=m)∧0<m∧∀q:List Nat,q.Perm (List.range us.length)→(q.map λi=>kk.getD i []).Pairwise (λa b=>lx b a=false)→NewO H' (.lst (q.map λi=>us.getD i .non)) Q:=by(
have b2:=ft.oq.b2
have ln:=qA6 (B:=q.B) (br:=m.br) (fi:=q.fi)
refine⟨f,q4A clos pm ct c',λ_=>spLm t x f c' (q4A clos pm ct c'),rfl,λbase' _ cv=>?_,qAB,D,_,λi zs H'=>Same H4 H'∧Paired (TupD H') zs (((yO q.B m.br q.fi).take i).map (keyN m.cl)),rfl,SqL.of hD,by rw[h8];lia,⟨Same.refl H4,.nil⟩,λbase' i y zs H' _ hy hp=>?_,λzs H' lz hp=>?_⟩
·obtain⟨ca,u,hk,ru,hcell⟩:=cv (0,"self") (kN.mpr rfl) (.ref x.s) hσ;obtain rfl:u=Value.ref x.s:=ru;rw[hcl ca hk];exact qFJ T S hcell
·obtain⟨sm,pr⟩:=hp;rw[mG]at hy;obtain⟨b,hb,rfl⟩:=mP.mp hy;have mb:=q2L.mp (mY hb);refine⟨r2,r3,r4,r5,m,q,b,rfl,hs.same sm,ft,mb.1.1,sm _ _ hf,sm _ _ hc,λtp H5 ntp s5 e5=>⟨sm.trans s5,?_⟩⟩;rw[qA7 (f:=keyN m.cl) hb];exact L2.Paired.snoc (q8I pr s5) ⟨tp,rfl,e5⟩
obtain⟨sm,pr⟩:=hp
rw[h8,dG]at pr
refine⟨_,2,qD1 pr,λk hk=>?_,by decide,λq' p1 p2 p H5 np s5 e5=>?_⟩
·obtain⟨b,_,rfl⟩:=mH.mp hk;rfl
rw[h8]at p1
have hin:∀i∈q',i<(yO q.B m.br q.fi).length:=λi hi=>mZ.mp (p1.mem_iff.mp hi)
rw[q46 (e:=0) hin]at e5
exact k _ p H5 (qD8 p1 p2) (Same.free sm np) (sm.trans s5) e5)
noncomputable def spFr(t:Adr):Sp:=λvs H Q _=>∃x r2 r3 r4 r5 m q,vs=[.ref x.s]∧StAt t H x r2 r3 r4 r5 m q∧Fit m q∧∀l p H',FreeIs q.B m.br m.cl q.fi l→H p=none→Keep [t.aA] H H'→TbF t H'→H' p=some (.lst (l.map vn))→Q (.ref p) H'
theorem q1C(T:Txt K mg t)(S:Fns K t)(B:BmIn base mg):FnOk P w K mg base (CX0) 8 t.f_Plain_free S.eW ["self"] (spFr t):=by(
refine S.tD.ok0 q18 λA _ s H vs Q E hr h=>?_
obtain⟨x,r2,r3,r4,r5,m,q,rfl,hs,ft,k⟩:=h
have b2:=ft.oq.b2
have eB:=ft.eB
refine⟨_,(qC (qBI (i:=1) ["self","block"] [0] rfl (uZ (j7 (pv 0) T.aB T.fT (q1B T S).mono hr S.bY.b .nil qK)) (λ_ _ _ _ _=>(jQ (i:=1) (show List.Nodup (["self","block"]:List Str)from by decide) rfl (Or.inl rfl))) (λ_ _ _ _ _=>(q26 (qZ q00 (yL (qBH (K:=K) rfl) (q62 (K:=K) rfl (q62 (K:=K) rfl (pv 0) rfl) rfl) (pv 1) (λ_ _=>rfl)) qI (j8 _)))) (λ_ _ _ _ _=>(pv 1)) (by kernel_rfl) (q05 (by decide)) q18.nd rfl (Or.inl rfl)) (qE (qS (q8J (k:=5) (x:="block") [(0,"self")] (by intro p hp;simp only[kG,mC,gS]at hp;rcases hp with rfl<;>exact⟨rfl,by kernel_rfl,rfl⟩) hr (by rfl) T.oX (qD5 rfl T.oP B (qD4 (by kernel_rfl)) rfl) (qA (pv 1) qG))))),?_⟩
try dsimp-beta-proj-iota-zeta-eta only[wishK,cxK]
refine(iV rfl (iM hs.o rfl ⟨x,r2,r3,r4,r5,m,q,rfl,hs,ft,λp H1 n1 s1 h1=>?_⟩))
refine⟨p,rfl,⟨_,SqL.of h1⟩,λD H2 nD s2 hD=>?_⟩
refine q42 (K:=K) (xs:=(jK q.B m.br).map vn) (D:=D) (λi H3=>Same H1 H3∧H3 D=some (.lst ((((jK q.B m.br).take i).filter λb=>decide (q.fi.getD b 0=0)).map vn))) ⟨s2,hD⟩ (λi H3 hp=>SqL.of (hp.1 _ _ h1)) (λi y H3 hy hp=>?_) (λH3 hp=>?_)
·obtain⟨sm,hd⟩:=hp;have h3:=(hs.same s1).same sm;rw[mG]at hy;obtain⟨b,hb,rfl⟩:=mP.mp hy;have hi:=(kD.mp hb).1;have mb:=vA.mp (mY hb);refine(iV rfl (iF h3.o T.aB T.aL rfl (iF h3.bk.o T.aG T.aQ rfl ⟨_,rfl,iL (k:=_) (v:=_) (SqL.of h3.bk.f) (atV (by rw[ft.oq.lf];exact mb.1)) ⟨rfl,_,rfl,?_⟩⟩)));rw[vV,←gA hi,dH,mI];obtain rfl:(jK q.B m.br)[i]=b:=(kD.mp hb).2;by_cases z:q.fi.getD (jK q.B m.br)[i] 0=0
 ·rw[hW z];refine iteT ?_;refine⟨_,rfl,_,hd,?_,λb o e=>?_,?_⟩
  ·rw[h8];have l1:(((jK q.B m.br).take i).filter λb=>decide (q.fi.getD b 0=0)).length≤q.B:=kY (mL _ _) (kY (by rw[dC];lia) (q7J (B:=q.B) (br:=m.br)));have:(16:Nat)<sizeLine:=by decide
   lia
  ·rw[qD (qF e nD)];exact sm _ _ e
  rw[qJ,mJ,hW z];rfl
 rw[hZ z];refine iteF ⟨sm,?_⟩;rw[hd,mJ,hZ z];simp
obtain⟨sm,hd⟩:=hp
rw[h8,dG]at hd
have hd:H3 D=some (.lst ((yO q.B m.br q.fi).map vn)):=hd
have h3:=(hs.same s1).same sm
refine⟨_,rfl,?_⟩
obtain⟨ps,hT,ht,hc⟩:=qDD h3.tb
have nT:D≠t.aA:=h3.tb.ne hd (λ_ z=>by cases z)
have keep:∀(f c':Addr) (ctv pm:Value) (clos:List (Str×Addr)) (H4:Hp),H4 f=some (fnO f (q4A clos pm ctv c'))→H4 c'=some (cdO c' lamQ)→TbF t H4→(∀b o,b≠t.aA→H3 b=some o→H4 b=some o)→Keep [t.aA] H3 H4:=λf c' ctv pm clos H4 _ _ tb4 kp=>⟨λb o nb e=>kp b o (λz=>nb (by rw[z];simp)) e,λb xs e=>kp b _ (h3.tb.ne e (λ_ z=>by cases z)) e⟩
refine⟨ps,hT,ht,?_⟩
rcases hc with⟨hn,tb⟩|⟨c0,hn,hc0⟩
·refine .inl ⟨hn,λf c' ctv H4 nf hf hc' hT4 kp=>?_⟩;have tb4:=tb c' H4 hT4 hc';have k4:=keep f c' ctv _ _ H4 hf hc' tb4 kp;refine q5L T S rfl (λca hk=>q7I (names:=qBZ.names) hk rfl) (h3.kT k4 tb4) ft (kp _ _ nT hd) hf hc' (λl p' H5 hl np s5 e5=>k l p' H5 hl ?_ ?_ (tb4.same s5) e5)
 ·refine Same.free s1 (Same.free sm (k4.none (λz=>?_) np));obtain⟨ps',hT',_⟩:=tb4;rw[kN.mp z,hT']at np;cases np
 exact((Keep.same s1).trans (Keep.same sm)).trans (k4.trans (Keep.same s5))
refine .inr ⟨c0,hn,λf ctv H4 nf hf s4=>?_⟩
refine q5L T S rfl (λca hk=>q7I (names:=qBZ.names) hk rfl) (h3.same s4) ft (s4 _ _ hd) hf (s4 _ _ hc0) (λl p' H5 hl np s5 e5=>k l p' H5 hl ?_ ?_ ((h3.tb.same s4).same s5) e5)
·exact Same.free s1 (Same.free sm (Same.free s4 np))
exact Keep.same (((s1.trans sm).trans s4).trans s5))
noncomputable def spPt(t:Adr):Sp:=λvs H Q _=>∃x r2 r3 r4 r5 m q,vs=[.ref x.s]∧StAt t H x r2 r3 r4 r5 m q∧Fit m q∧∀H',Same H H'→Q (oV (uV q.B q.P m.br q.fi)) H'
theorem qAC{α:Type}{p:α→Bool}{L:List α}{i:Nat}{x:α}(h:L[i]?=some x)(n:(L.take i).find? p=none):(p x=true→L.find? p=some x)∧(p x=false→(L.take (i+1)).find? p=none):=by(
have hi:=(kD.mp h).1
obtain rfl:L[i]=x:=(kD.mp h).2
constructor
·intro hp;have e:L=L.take i++L[i]::L.drop (i+1):=by rw[List.getElem_cons_drop,List.take_append_drop]
 conv=>lhs;arg 2;rw[e]
 rw[nH,n,gZ,hp];rfl
intro hp
rw[←gA hi,nH,n,gZ,hp]
rfl)
theorem q1D(T:Txt K mg t)(S:Fns K t):S.fJ.Ok0 P w mg base 6 (spPt t):=by(
refine S.fJ.F.ok0 q19 λcdv A _ s H vs Q E hr h=>?_
obtain⟨x,r2,r3,r4,r5,m,q,rfl,hs,ft,k⟩:=h
refine⟨_,(qC (vT mW rfl (uZ (j7 (pv 0) T.aB T.fT (q1B T S).mono hr S.bY.b .nil qK)) (jQ (i:=1) q19.nd rfl (Or.inl rfl)) (qE (jA (qAM q8Y q8Y qI (yL jS (qM (qM (pv 0) rfl) rfl) (pv 1) (λ_ _=>rfl)) (qM (qM (pv 0) rfl) rfl)) (qE (qS (pv 1))) qR))) (qE (qS yN))),?_⟩
try dsimp-beta-proj-iota-zeta-eta only[wishK,cxK]
refine(iV rfl (iM hs.o rfl ⟨x,r2,r3,r4,r5,m,q,rfl,hs,ft,λp H1 n1 s1 h1=>?_⟩))
refine⟨p,rfl,⟨_,SqL.of h1⟩,?_⟩
refine zF (K:=K) (xs:=(jK q.B m.br).map vn) (λi σ' H2=>∃y,σ'=[some (.ref x.s),y]∧Same H1 H2∧((jK q.B m.br).take i).find? (q09 q.P q.fi)=none) ⟨_,rfl,Same.refl H1,rfl⟩ (λi σ' H2 hi hp=>?_) (λi y σ' H2 hy hp=>?_) (λσ' H2 hp=>?_)
·obtain⟨y,rfl,sm,_⟩:=hp;exact SqL.of (sm _ _ h1)
·obtain⟨y',rfl,sm,hn⟩:=hp;have h3:=(hs.same s1).same sm;rw[mG]at hy;obtain⟨b,hb,rfl⟩:=mP.mp hy;have mb:=vA.mp (mY hb);obtain⟨y1,y2⟩:=qAC hb hn;refine(iV rfl (iF h3.o T.aB T.aL rfl (iF h3.bk.o T.aG T.aQ rfl ⟨_,rfl,iL (k:=_) (v:=_) (SqL.of h3.bk.f) (atV (by rw[ft.oq.lf];exact mb.1)) ?_⟩)));refine(iI ⟨_,rfl,?_⟩);by_cases z1:0<q.fi.getD b 0
 ·rw[hW z1];refine iteT ?_;refine(iV rfl (iF h3.o T.aB T.aH rfl (iF h3.te T.aI T.a8 rfl (iI ⟨_,rfl,?_⟩))));by_cases z2:q.fi.getD b 0<m.pg
  ·rw[hW z2];have z:=k H2 (s1.trans sm);unfold uV at z;rw[y1 (by unfold q09;rw[hW z1,hW (by rw[←ft.eP];exact z2)];rfl)]at z;exact iteT ⟨_,rfl,z⟩
  rw[hZ z2];exact iteF ⟨_,rfl,sm,y2 (by unfold q09;rw[hW z1,hZ (by rw[←ft.eP];exact z2)];rfl)⟩
 rw[hZ z1];exact iteF ⟨_,rfl,iteF ⟨_,rfl,sm,y2 (by unfold q09;rw[hZ z1];rfl)⟩⟩
obtain⟨y',rfl,sm,hn⟩:=hp
rw[h8,dG]at hn
have z:=k H2 (s1.trans sm)
unfold uV at z
rw[hn]at z
exact z)
noncomputable def spSp(t:Adr):Sp:=λvs H Q _=>∃x r2 r3 r4 r5 m q,vs=[.ref x.s]∧StAt t H x r2 r3 r4 r5 m q∧Fit m q∧∀l H',FreeIs q.B m.br m.cl q.fi l→Keep [t.aA] H H'→TbF t H'→Q (pgV q.P q.fi (q2V q.B q.P m.br q.fi l)) H'
theorem q4R(T:Txt K mg t)(S:Fns K t)(B:BmIn base mg):S.f9.Ok0 P w mg base 9 (spSp t):=by(
refine S.f9.F.ok0 zB λcdv A _ s H vs Q E hr h=>?_
obtain⟨x,r2,r3,r4,r5,m,q,rfl,hs,ft,k⟩:=h
refine⟨_,(qC (qX (i:=1) zB.nd rfl (Or.inl rfl) (j7 (pv 0) T.aB T.iS (q1D T S).mono hr S.fJ.b .nil qK)) (qC (jA (qZ q20 (pv 1) yN (j8 _)) (qE (qS (qN jM (qN yD (pv 1) (qM (qM (pv 0) rfl) rfl)) (yL jS (qM (qM (pv 0) rfl) rfl) (pv 1) (λ_ _=>rfl))))) qR) (qC (qX (i:=2) zB.nd rfl (Or.inl rfl) (j7 (pv 0) T.aB T.i8 (q1C T S B).mono hr S.iH .nil qK)) (qC (jA (qZ (q8B hr.units) (pv 2) (jT qG) (j8 _)) (qE (qS yN)) qR) (qE (qS (qN yD (yL jS (pv 2) qI (λ_ _=>rfl)) (qM (qM (pv 0) rfl) rfl)))))))),?_⟩
try dsimp-beta-proj-iota-zeta-eta only[wishK,cxK]
refine(iV rfl (iM hs.o rfl ⟨x,r2,r3,r4,r5,m,q,rfl,hs,ft,λH1 s1=>?_⟩))
have h1:=hs.same s1
have b2:=ft.oq.b2
have p2:=ft.oq.p2
have eP:=ft.eP
cases hpn:uV q.B q.P m.br q.fi with
|some b=>
 have hb:=q1G hpn;refine⟨_,rfl,rfl,_,rfl,iteT ?_⟩;refine⟨_,rfl,iV rfl (iF h1.o T.aB T.aH rfl (iF h1.te T.aI T.a8 rfl (iI ⟨.inl ⟨by lia,by lia⟩,?_⟩)))⟩;refine(iV rfl (iF h1.o T.aB T.aL rfl (iF h1.bk.o T.aG T.aQ rfl ⟨_,rfl,iL (k:=_) (v:=_) (SqL.of h1.bk.f) (atV (by rw[ft.oq.lf];exact hb.1)) (iI ?_)⟩)));obtain⟨l,hl⟩:=FreeIs.ex q.B m.br m.cl q.fi;have kk:=k l H1 hl (Keep.same s1) h1.tb;unfold q2V at kk;rw[hpn]at kk;have e:pgV q.P q.fi (some b)=V.int ((b:Int)*m.pg+q.fi.getD b 0):=by rw[eP];rfl
 have kk:Q (pgV q.P q.fi (some b)) H1:=kk;rw[e]at kk;exact kk
|none=>
 refine⟨_,rfl,rfl,_,rfl,iteF ?_⟩;refine(iV rfl (iM h1.o rfl ⟨x,r2,r3,r4,r5,m,q,rfl,h1,ft,λl p H2 hl np k2 tb2 h2=>?_⟩));have h2':=h1.kT k2 tb2;refine⟨_,rfl,sz0,λe H3 n3 s3 h3=>⟨p,_,e,rfl,rfl,SqL.of (s3 _ _ h2),SqL.of h3,_,rfl,?_⟩⟩;have h3':=h2'.same s3;have kk:=k l H3 hl (((Keep.same s1).trans k2).trans (Keep.same s3)) (tb2.same s3);unfold q2V at kk;rw[hpn]at kk;cases l with
 |nil=>refine iteT ?_;exact kk
 |cons b r=>
  refine iteF ?_;have hb:=hl.mem (kM (a:=b) (l:=r));refine⟨_,rfl,iL (k:=0) (v:=.int (b:Int)) (SqL.of (s3 _ _ h2)) (q0V (j:=0) rfl) (iV rfl (iF h3'.o T.aB T.aH rfl (iF h3'.te T.aI T.a8 rfl (iI ⟨.inl ⟨by lia,by lia⟩,?_⟩))))⟩;have e:pgV q.P q.fi ((b::r).head?)=V.int ((b:Int)*m.pg):=by show V.int ((b:Int)*(q.P:Int)+q.fi.getD b 0)=_;rw[hb.2.2,eP,Int.add_zero]
  have kk:Q (pgV q.P q.fi ((b::r).head?)) H3:=kk;rw[e]at kk;exact kk)
noncomputable def qGW(t:Adr):Sp:=λvs H Q E=>∃x r2 r3 r4 r5 m q n v b f,vs=[.ref x.s,.int n,.int v]∧StAt t H x r2 r3 r4 r5 m q∧Fit m q∧0≤n∧n≤64∧Spt m q b f∧(if m.spent (b:Int)=true then ∀dx H',StAt t H' x r2 r3 r4 r5 (m.deed "put" ((b*q.P+f:Nat):Int) (b:Int) true) q→Keep (t.aA::sf x) H H'→E (.ref t.C_BlockFailed) (some dx) H'
  else ∀tp H',H' tp=some (.tup [.int (q.nx*128+n),.int v])→Keep (t.aA::sf x) H H'→StAt t H' x r2 r3 r4 r5 (putC m (b*q.P+f) (.ref tp)) (q.put b f n)→Q (.int ((b*q.P+f:Nat):Int)) H')
theorem StAt.put{H H':Hp}{x:Sto}{r2 r3 r4 r5:V}{m m':CM}{q:QM}(h:StAt t H x r2 r3 r4 r5 m q)(hc:ChipAt t.C_Chip H' x.c x.a m')(k:Keep (foot x.c x.a) H H')(e1:m'.bl=m.bl)(e2:m'.pg=m.pg):StAt t H' x r2 r3 r4 r5 m' q:=by(
have nf:∀b∈bf x.k,b∉foot x.c x.a:=λb hb z=>h.d1 b (h9 _ z) hb
have n2:∀b∈[x.s,x.tm],b∉foot x.c x.a:=λb hb z=>h.d2 b hb (by unfold sf;exact mE _ z)
obtain⟨ps,hT,hc'⟩:=h.tb
have nT:t.aA∉foot x.c x.a:=λz=>h.nT t.aA (by simp[sf,z]) (by simp)
refine⟨k.k _ _ (n2 _ (by simp)) h.o,by rw[e1,e2];exact k.k _ _ (n2 _ (by simp)) h.te,hc,h.bk.keep k nf,⟨ps,k.k _ _ nT hT,?_⟩,h.ds,h.d1,h.d2⟩
rcases hc' with z|⟨c,z,hcd⟩
·exact .inl z
refine .inr ⟨c,z,k.k _ _ (λy=>?_) hcd⟩
have y:c=x.c∨c=x.a.bo∨c=x.a.cl∨c=x.a.dc∨c=x.a.br∨c=x.a.rc:=by simpa[foot]using y
obtain⟨rs,er,_⟩:=h.ch.rc
rcases y with y|y|y|y|y|y<;>rw[y]at hcd
·rw[h.ch.ins]at hcd;cases hcd
·rw[h.ch.bo]at hcd;cases hcd
·rw[h.ch.cl]at hcd;cases hcd
·rw[h.ch.dc]at hcd;cases hcd
·rw[h.ch.br]at hcd;cases hcd
rw[er]at hcd;cases hcd)
theorem StAt.note{H H':Hp}{x:Sto}{r2 r3 r4 r5:V}{m:CM}{q q':QM}(h:StAt t H x r2 r3 r4 r5 m q)(hb:BkAt t H' x.k q')(k:Keep (bf x.k) H H'):StAt t H' x r2 r3 r4 r5 m q':=by(
have n2:∀b∈[x.s,x.tm],b∉bf x.k:=λb hb z=>h.d2 b hb (by unfold sf;exact kP _ z)
obtain⟨ps,hT,hc'⟩:=h.tb
have nT:t.aA∉bf x.k:=λz=>h.nT t.aA (by simp[sf,z]) (by simp)
refine⟨k.k _ _ (n2 _ (by simp)) h.o,k.k _ _ (n2 _ (by simp)) h.te,h.ch.keep k h.d1,hb,⟨ps,k.k _ _ nT hT,?_⟩,h.ds,h.d1,h.d2⟩
rcases hc' with z|⟨c,z,hcd⟩
·exact .inl z
refine .inr ⟨c,z,k.k _ _ (λy=>?_) hcd⟩
have y:c=x.k.bk∨c=x.k.wv∨c=x.k.lv∨c=x.k.fi∨c=x.k.bo:=by simpa[bf]using y
rcases y with y|y|y|y|y<;>rw[y]at hcd
·rw[h.bk.o]at hcd;cases hcd
·rw[h.bk.w]at hcd;cases hcd
·rw[h.bk.l]at hcd;cases hcd
·rw[h.bk.f]at hcd;cases hcd
rw[h.bk.b]at hcd;cases hcd)
theorem q2D(T:Txt K mg t)(S:Fns K t)(B:BmIn base mg):S.eE.OkE P w mg base 10 (qGW t):=by(
refine S.eE.F.okE vP (λvs H Q E h=>?_) (λcdv A outer s H vs Q E hr h=>?_)
·repeat obtain⟨_,h⟩:=h
 all_goals subst_vars;rfl
obtain⟨x,r2,r3,r4,r5,m,q,n,v,b,f,rfl,hs,ft,n0,n1,sp,k⟩:=h
refine⟨_,(qC (qX (i:=3) vP.nd rfl (Or.inl rfl) (j7 (pv 0) T.aB T.tW (q4R T S B).mono hr S.f9.b .nil qK)) (qC (jA (qZ q82 (pv 3) yN (j8 _)) (qE j9) qR) (qC (qY (q04 q25 (qM (pv 0) rfl) T.aD T.xN (q7S T S).mono hr S.oK.b .nil (qA (pv 3) (qA (v3 (qA (jD (qM (pv 0) rfl) T.aG T.tY (q6L T S).mono hr S.lT.b .nil qK (qA (pv 1) qG)) (qA (pv 2) qG))) qG zH)))) (qC (qY (jD (qM (pv 0) rfl) T.aG T.tQ (q6N T S).mono hr S.i5.b .nil qK (qA (pv 3) (qA (pv 1) qG)))) (qE (qS (pv 3))))))),?_⟩
try dsimp-beta-proj-iota-zeta-eta only[wishK,cxK]
refine(iV rfl (iM hs.o rfl ⟨x,r2,r3,r4,r5,m,q,rfl,hs,ft,λl H1 hl k1 tb1=>?_⟩))
have hs1:=hs.kT k1 tb1
have hsp:=sp.sp l hl
obtain⟨hB,hbr,f0,f1⟩:=q45 hl ft.oq.p1 hsp
have ef:=sp.ef
have eB:=ft.eB
have eP:=ft.eP
have hf:f<q.P:=by lia
have epg:pgV q.P q.fi (some b)=V.int ((b*q.P+f:Nat):Int):=by show V.int ((b:Int)*(q.P:Int)+q.fi.getD b 0)=_;rw[ef,wT,m8]
have lt:=q8H hB hf
have e1:((b*q.P+f:Nat):Int) / m.pg=(b:Int):=by rw[eP,←wM,q0Y hf]
rw[hsp,epg]
refine⟨_,rfl,rfl,_,rfl,iteF ?_⟩
refine(iV rfl (iF hs1.o T.aB T.aV rfl (iM hs1.ch.ins rfl ⟨_,rfl,?_⟩)))
refine(iV rfl (iF hs1.o T.aB T.aL rfl (iM hs1.bk.o rfl ⟨_,rfl,x.k,q,n,rfl,hs1.bk,_,rfl,sz2,λtp H2 n2 s2 e2=>?_⟩)))
have hs2:=hs1.same s2
refine⟨x.c,x.a,m,_,.ref tp,rfl,hs2.ch,ft.ok,sp.lf,sp.hr,by rw[eB,eP,←m8];lia,by rw[e1,kR];exact hbr,sp.cr,λH3 k3=>?_⟩
rw[e1]
have kp3:Keep (t.aA::sf x) H H3:=((k1.mono (by simp)).trans (Keep.same s2)).trans (k3.mono (λb hb=>by unfold sf;exact h9 _ (mE _ hb)))
cases z:m.spent (b:Int)with
|true=>rw[hU z]at k;rw[hU rfl];exact λhc3 dx=>k dx H3 (hs2.put hc3 k3 rfl rfl) kp3
|false=>rw[hV (by rw[z];decide)]at k;rw[hV (by decide)];intro hc3;have hs3:=hs2.put hc3 k3 rfl rfl;have tp3:=k3.tp _ _ e2;refine(iV rfl (iF hs3.o T.aB T.aL rfl (iM hs3.bk.o rfl ⟨_,rfl,_,rfl,x.k,q,b,f,n,rfl,hs3.bk,ft.oq,hs3.ds,hB,hf,ef,λH4 hb4 k4=>⟨_,rfl,?_⟩⟩)));exact k tp H4 (k4.tp _ _ tp3) (kp3.trans (k4.mono (λb hb=>by unfold sf;exact h9 _ (kP _ hb)))) (hs3.note hb4 k4))
theorem bor(a b:Nat):Builtin.bitOr (a:Int) (b:Int)=((a|||b:Nat):Int):=by(
have e:∀c:Nat,Builtin.bitNot (Builtin.bitNot (c:Int))=(c:Int):=λc=>by unfold Builtin.bitNot;lia
have n:∀c:Nat,decide (0≤Builtin.bitNot (c:Int))=false:=λc=>hZ (by unfold Builtin.bitNot;lia)
unfold Builtin.bitOr Builtin.bitAnd
rw[n a,n b]
show Builtin.bitNot (Builtin.bitNot (((Builtin.bitNot (Builtin.bitNot (a:Int))).toNat|||(Builtin.bitNot (Builtin.bitNot (b:Int))).toNat:Nat):Int))=_
rw[e,e a,e b,kR,kR])
noncomputable abbrev vN(ks:List Nat):List V:=ks.map λ(k:Nat)=>V.int (k:Int)
noncomputable def spBo(K:W.Frag):Sp:=λvs H Q _=>∃l ss,vs=[.ref l]∧SqL K H l (vN ss)∧(∀s∈ss,s<64)∧Q (.int ((orB ss 0:Nat):Int)) H
theorem q7T(s:Nat):∀(l:List Nat) (b:Nat),orB (l++[s]) b=orB l b|||2 ^ s
| [],b=>rfl
|x::r,b=>q7T s r _
theorem q8R(T:Txt K mg t)(S:Fns K t):S.tS.Ok0 P w mg base 1 (spBo K):=by(
refine S.tS.F.ok0 zY λcdv A _ s H vs Q E hr h=>?_
obtain⟨l,ss,rfl,hl,hs,q⟩:=h
refine⟨_,(qC (qX (i:=1) zY.nd rfl (Or.inl rfl) qI) (qC (vT mW rfl (uZ (pv 0)) (jQ (i:=2) zY.nd rfl (Or.inl rfl)) (qE (qX (i:=1) zY.nd rfl (Or.inl rfl) (qN qFX (pv 1) (qN qE2 qI (pv 2)))))) (qE (qS (pv 1))))),?_⟩
try dsimp-beta-proj-iota-zeta-eta only[wishK,cxK]
refine⟨_,rfl,l,rfl,⟨_,hl⟩,?_⟩
refine zF (K:=K) (xs:=vN ss) (λi σ' H2=>∃y,σ'=[some (.ref l),some (.int ((orB (ss.take i) 0:Nat):Int)),y]∧H2=H) ⟨_,rfl,rfl⟩ (λi σ' H2 hi hp=>?_) (λi x σ' H2 hx hp=>?_) (λσ' H2 hp=>?_)
·obtain⟨y,rfl,rfl⟩:=hp;exact hl
·obtain⟨y,rfl,rfl⟩:=hp;rw[mG]at hx;obtain⟨n,hn,rfl⟩:=mP.mp hx;obtain⟨hi,rfl⟩:=kD.mp hn;have:=hs _ (rT hi);refine⟨_,rfl,_,rfl,iI ⟨⟨by lia,by lia,by decide⟩,iI ?_⟩⟩;have e:(1:Int)*2 ^ ((ss[i]:Nat):Int).toNat=((2 ^ ss[i]:Nat):Int):=by rw[Int.one_mul,kR];exact(Int.natCast_pow 2 _).symm
 try dsimp only
 rw[e,bor];refine⟨some (.int ((ss[i]:Nat):Int)),?_,rfl⟩;rw[←gA hi,q7T];rfl
obtain⟨y,rfl,rfl⟩:=hp
rw[show(vN ss).length=ss.length by simp[vN],dG]
exact⟨_,rfl,q⟩)
noncomputable def hdN(W:Mp):List Int:=(W.map (·.1)).filter λn=>decide (n≠64)
noncomputable def spHe(t:Adr):Sp:=λvs H Q _=>∃a,∃m:QM,vs=[.ref a.bk]∧BkAt t H a m∧m.Ok∧(hdN m.V).length<64∧∀l ns H',Same H H'→H l=none→H' l=some (.lst (List.map V.int ns))→ns.Perm (hdN m.V)→ns.Pairwise (·≤·)→Q (.ref l) H'
theorem q6O(T:Txt K mg t)(S:Fns K t):S.i4.Ok0 P w mg base 1 (spHe t):=by(
refine S.i4.F.ok0 q6B λcdv A _ s H vs Q E hr h=>?_
obtain⟨a,m,rfl,hb,ok,hl64,q⟩:=h
have hu:=vM hr
have lV:m.V.length≤65:=ok.lenV
refine⟨_,(qE (qS (jJ q5X (by rfl) T.oX (by kernel_rfl) (qA (qCU (q5W ["name"] [] rfl (qCT (qM (pv 0) rfl)) (λ_ _ _ _ _=>(jQ (i:=0) (show List.Nodup (["name"]:List Str)from by decide) rfl (Or.inl rfl))) (λ_ _ _ _ _=>(q26 (qZ q1Z (pv 0) (yW rfl T.xU ⟨_,rfl⟩ (v:=.int 64)) (j8 _)))) (λ_ _ _ _ _=>(pv 0)) (by kernel_rfl) (q05 (by decide)))) qG)))),?_⟩
try dsimp-beta-proj-iota-zeta-eta only[wishK,cxK]
refine⟨a.wv,_,hb.w,iV rfl (iF hb.o T.aG T.aY rfl ⟨a.wv,_,rfl,hb.w,λo D H2 nD s2 hD=>?_⟩)⟩
have kk:∀x u,x≠a.wv→H x=some u→H2 x=some u:=λx u nx e=>s2 _ _ (by rw[qD nx];exact e)
have fz:H2 a.wv=some (.frz o (.dK (dI m.V))):=s2 _ _ qJ
have Dw:D≠a.wv:=λz=>by rw[z,fz]at hD;cases hD
have nDH:H D=none:=by rw[qD Dw]at nD;exact nD
refine qBO (D:=D) (λi H3=>H3 a.wv=some (.frz o (.dK (dI m.V)))∧(∀x u,x≠a.wv→H x=some u→H3 x=some u)∧H3 D=some (.lst ((hdN (m.V.take i)).map V.int))) ⟨fz,kk,hD⟩ (λi H3 hp=>hp.1) (λi kv H3 hk hp=>?_) (λH3 hp=>?_)
·obtain⟨fz3,k3,hd⟩:=hp;have hi:i<m.V.length:=by have:=(kD.mp hk).1;rw[q6M]at this;exact this
 obtain rfl:((Sum.inl m.V[i].1:Key),V.int m.V[i].2)=kv:=by
  have e:(dI m.V)[i]?=some ((Sum.inl m.V[i].1:Key),V.int m.V[i].2):=by unfold dI;rw[mG,kE hi];rfl
  rw[e]at hk;exact kH hk
 have tk:m.V.take (i+1)=m.V.take i++[m.V[i]]:=(gA hi).symm;show q6X _ (V.int m.V[i].1) _ _ _;refine⟨_,rfl,rfl,_,rfl,?_⟩;rw[vV];by_cases e:m.V[i].1=64
 ·rw[hW e];refine iteF ?_;refine⟨fz3,k3,?_⟩;have:hdN (m.V.take (i+1))=hdN (m.V.take i):=by unfold hdN;rw[tk,mI,dH];simp[e]
  rw[this];exact hd
 rw[hZ e];refine iteT ?_;refine⟨_,rfl,_,hd,?_,?_,λx u nx e'=>?_,?_⟩
 ·rw[h8];have l2:(hdN (m.V.take i)).length≤65:=by unfold hdN;refine kY (mL _ _) ?_;rw[h8,dC];lia
  have:(65:Nat)<sizeLine:=by decide
  lia
 ·rw[qD Dw.symm];exact fz3
 ·rw[qD (qF e' nDH)];exact k3 _ _ nx e'
 have:hdN (m.V.take (i+1))=hdN (m.V.take i)++[m.V[i].1]:=by unfold hdN;rw[tk,mI,dH];simp[e]
 rw[qJ,this,mI];rfl
obtain⟨fz3,k3,hd⟩:=hp
rw[q6M,dG]at hd
refine⟨o,_,fz3,?_⟩
have sH:Same H (upd H3 a.wv (.dK (dI m.V))):=qF8 hb.w k3
have hd4:(upd H3 a.wv (.dK (dI m.V))) D=some (.lst ((hdN m.V).map V.int)):=by rw[qD Dw];exact hd
generalize upd H3 a.wv (.dK (dI m.V))=H4 at sH hd4 ⊢
refine⟨D,hdN m.V,rfl,SqL.of hd4,by lia,λns pp pw l H5 n5 s5 h5=>?_⟩
exact q l ns H5 (sH.trans s5) (sH.free n5) h5 pp pw)
structure HeldIs(q:QM)(ns:List Int):Prop where
pm:ns.Perm (hdN q.V)
so:ns.Pairwise (·≤·)
noncomputable def spHd(t:Adr):Sp:=λvs H Q _=>∃x r2 r3 r4 r5 m q,vs=[.ref x.s]∧StAt t H x r2 r3 r4 r5 m q∧Fit m q∧(hdN q.V).length<64∧∀l ns H',HeldIs q ns→Same H H'→H l=none→H' l=some (.lst (List.map V.int ns))→Q (.ref l) H'
theorem zD(T:Txt K mg t)(S:Fns K t):S.eL.Ok0 P w mg base 2 (spHd t):=by(
refine S.eL.F.ok0 q4K λcdv A _ s H vs Q E hr h=>?_
obtain⟨x,r2,r3,r4,r5,m,q,rfl,hs,ft,h64,k⟩:=h
refine⟨_,(qE (qS (j7 (qM (pv 0) rfl) T.aG T.xC (q6O T S).mono hr S.i4.b .nil qK))),?_⟩
try dsimp-beta-proj-iota-zeta-eta only[wishK,cxK]
exact(iV rfl (iF hs.o T.aB T.aL rfl (iM hs.bk.o rfl ⟨x.k,q,rfl,hs.bk,ft.oq,h64,λl ns H' s' n' h' pm so=>k l ns H' ⟨pm,so⟩ s' n' h'⟩))))
noncomputable def spCs(t:Adr):Sp:=λvs H Q E=>∃x r3 r4 r5 m q v,∃sh:Int,vs=[.ref x.s,v]∧StAt t H x (.int sh) r3 r4 r5 m q∧Knd H v∧(if inB v 0 (sh-1)=true then Q .non H else False)
theorem yF(T:Txt K mg t)(S:Fns K t):S.aM.Ok0 P w mg base 3 (spCs t):=by(
refine S.aM.F.ok0 q0P λcdv A _ s H vs Q E hr h=>?_
obtain⟨x,r3,r4,r5,m,q,v,sh,rfl,hs,kn,k⟩:=h
refine⟨_,(qE (jA (jH (jB (qV (jE T S).mono hr rfl T.aE T.aF S.aJ.b .nil qK (qA (pv 1) (qA qI (qA (qN y9 (qM (qM (pv 0) rfl) rfl) qI) qG)))))) (qE j9) qR)),?_⟩
try dsimp-beta-proj-iota-zeta-eta only[wishK,cxK]
refine⟨_,rfl,iV rfl (iF hs.o T.aB T.aH rfl (iF hs.te T.aI T.fF rfl (iI ⟨v,_,_,rfl,kn,_,rfl,?_⟩)))⟩
cases z:inB v 0 (sh-1)with
|true=>rw[z,hU rfl]at k;exact iteF k
|false=>rw[z,hV (by decide)]at k;exact k.elim)
theorem q7U(T:Txt K mg t)(S:Fns K t):S.oR.Ok0 P w mg base 3 (λvs H Q _=>∃v,vs=[v]∧Knd H v∧Q (.bl (inB v 0 (10 ^ 30-1))) H):=by(
refine S.oR.F.ok0 q7R λcdv A _ s H vs Q E hr h=>?_
obtain⟨v,rfl,kn,k⟩:=h
refine⟨_,(qE (qS (qV (jE T S).mono hr rfl T.aE T.aF S.aJ.b .nil qK (qA (pv 0) (qA qI (qA (qN y9 (qN qAG qI qI) qI) qG)))))),?_⟩
try dsimp-beta-proj-iota-zeta-eta only[wishK,cxK]
exact⟨_,rfl,iI ⟨⟨by decide,by decide,by decide⟩,iI ⟨v,_,_,rfl,kn,k⟩⟩⟩)
noncomputable def hold(q:QM)(s:Int):Bool:=decide (s∈hdN q.V)
theorem q2E{s:Int}:∀{ns:List Int},inV (.int s) (ns.map V.int)=decide (s∈ns)
| []=>rfl
|n::r=>by
 have ih:=q2E (s:=s) (ns:=r);unfold inV at ih ⊢;rw[k7,rY,ih];by_cases e:n=s
 ·subst e;simp[eqV]
 have e':¬s=n:=λz=>e z.symm;simp[eqV,e,e']
theorem q9C{ns:List Int}:(ns.map V.int).all uU=true:=by(
rw[dE]
intro v hv
obtain⟨n,_,rfl⟩:=mH.mp hv
rfl)
theorem HeldIs.hold{q:QM}{ns:List Int}(h:HeldIs q ns)(s:Int):decide (s∈ns)=hold q s:=by(
unfold W1.hold
by_cases z:s∈ns
·rw[hW z,hW (h.pm.mem_iff.mp z)]
rw[hZ z,hZ (λy=>z (h.pm.mem_iff.mpr y))])
noncomputable def spSh(t:Adr):Sp:=λvs H Q E=>∃x r2 r4 r5 m q,∃s sr:Int,vs=[.ref x.s,.int s]∧StAt t H x r2 (.int sr) r4 r5 m q∧Fit m q∧(hdN q.V).length<64∧∀H',Same H H'→if hold q s=false∧sr≤((hdN q.V).length:Int)then False else Q .non H'
theorem q0T(T:Txt K mg t)(S:Fns K t):S.bP.Ok0 P w mg base 3 (spSh t):=by(
refine S.bP.F.ok0 uM λcdv A _ s H vs Q E hr h=>?_
obtain⟨x,r2,r4,r5,m,q,s,sr,rfl,hs,ft,h64,k⟩:=h
refine⟨_,(qC (qX (i:=2) uM.nd rfl (Or.inl rfl) (j7 (pv 0) T.aB T.fW (zD T S).mono hr S.eL.b .nil qK)) (qE (jA (PW.pt (q7Z (qZ zL (pv 1) (pv 2) rfl) (q5N (qZ qAJ (jJ yA (by rfl) T.xB dY (qA (pv 2) qG)) (qM (qM (pv 0) rfl) rfl) (j8 _))))) (qE j9) qR))),?_⟩
try dsimp-beta-proj-iota-zeta-eta only[wishK,cxK]
refine(iV rfl (iM hs.o rfl ⟨x,r2,.int sr,r4,r5,m,q,rfl,hs,ft,h64,λl ns H1 hn s1 n1 h1=>?_⟩))
refine⟨_,rfl,_,rfl,?_⟩
refine⟨l,_,rfl,.inl (SqL.of h1),rfl,q9C,_,rfl,?_⟩
have kk:=k H1 s1
have e:inV (.int s) (ns.map V.int)=hold q s:=by rw[q2E];exact hn.hold s
show if(!inV (.int s) (ns.map V.int))=true then _ else _
rw[e]
cases z:hold q s with
|true=>rw[z,hV (λy=>by cases y.1)]at kk;exact iteF kk
|false=>
 refine iteT ?_;refine⟨_,rfl,l,_,rfl,.inl (SqL.of h1),iV rfl (iF (hs.same s1).o T.aB T.aH rfl (iF (hs.same s1).te T.aI T.fN rfl (iI ⟨_,rfl,?_⟩)))⟩;rw[h8,hn.pm.length_eq];by_cases y:sr≤((hdN q.V).length:Int)
 ·rw[hW y];rw[hU ⟨z,y⟩]at kk;exact kk.elim
 rw[hZ y];rw[hV (λw=>y w.2)]at kk;exact iteF kk)
theorem qFK{B0 P1:Nat}(b2:B0≤16)(p1:1≤P1)(p2:P1≤16):(bk0 B0 P1).Ok:=by(
refine⟨p1,p2,b2,mR,mR,mR,by simp[bk0],λq hq=>absurd (show q∈([]:Mp)from hq) (by simp),λq hq=>absurd (show q∈([]:Mp)from hq) (by simp),λb hb=>⟨0,?_,mO _⟩⟩
show(List.replicate B0 (0:Int)).getD b 0=_
rw[rep8]
rfl)
theorem qDE{ns:List Int}{lo hi:Option Int}{i:Nat}{x:V}(h:(cutV (ns.map V.int) lo hi)[i]?=some x):∃n,x=.int n:=by(
have m1:=mY h
unfold cutV at m1
obtain⟨n,_,rfl⟩:=mH.mp (List.mem_of_mem_drop (List.mem_of_mem_take m1))
exact⟨n,rfl⟩)
theorem Same.keepF{H Hi Hj:Hp}{F:List Addr}(s:Same H Hi)(k:Keep F Hi Hj)(f:∀b∈F,H b=none):Same H Hj:=λb o e=>k.k b o (λz=>by rw[f b z]at e;cases e) (s b o e)
theorem _root_.L2.ChipAt.has{C c:Addr}{a:CA}{m:CM}{H:Hp}(h:ChipAt C H c a m){b:Addr}(hb:b∈a.li::foot c a):∃o,H b=some o∧(b≠c→∀C d f,o≠ .ins C d f):=by(
obtain⟨rs,er,_⟩:=h.rc
have hb:b=a.li∨b=c∨b=a.bo∨b=a.cl∨b=a.dc∨b=a.br∨b=a.rc:=by simpa[foot]using hb
rcases hb with rfl|rfl|rfl|rfl|rfl|rfl|rfl
·exact⟨_,h.li,λ_ _ _ _ z=>by cases z⟩
·exact⟨_,h.ins,λn=>absurd rfl n⟩
·exact⟨_,h.bo,λ_ _ _ _ z=>by cases z⟩
·exact⟨_,h.cl,λ_ _ _ _ z=>by cases z⟩
·exact⟨_,h.dc,λ_ _ _ _ z=>by cases z⟩
·exact⟨_,h.br,λ_ _ _ _ z=>by cases z⟩
exact⟨_,er,λ_ _ _ _ z=>by cases z⟩)
theorem StAt.off{H:Hp}{x:Sto}{r2 r3 r4 r5:V}{m:CM}{q:QM}(h:StAt t H x r2 r3 r4 r5 m q){p:Addr}(n:H p=none):p∉t.aA::sf x:=λz=>by(
obtain⟨rs,er,_⟩:=h.ch.rc
obtain⟨ps,hT,_⟩:=h.tb
have z:p=t.aA∨p=x.c∨p=x.a.bo∨p=x.a.cl∨p=x.a.dc∨p=x.a.br∨p=x.a.rc∨p=x.k.bk∨p=x.k.wv∨p=x.k.lv∨p=x.k.fi∨p=x.k.bo:=by simpa[sf,bf,foot]using z
rcases z with rfl|rfl|rfl|rfl|rfl|rfl|rfl|rfl|rfl|rfl|rfl|rfl
·rw[hT]at n;cases n
·rw[h.ch.ins]at n;cases n
·rw[h.ch.bo]at n;cases n
·rw[h.ch.cl]at n;cases n
·rw[h.ch.dc]at n;cases n
·rw[h.ch.br]at n;cases n
·rw[er]at n;cases n
·rw[h.bk.o]at n;cases n
·rw[h.bk.w]at n;cases n
·rw[h.bk.l]at n;cases n
·rw[h.bk.f]at n;cases n
rw[h.bk.b]at n;cases n)
noncomputable def spPi(t:Adr):Sp:=λvs H Q E=>∃x dx tm td c a r2 r3 r4 r5,∃m:CM,∃B P:Nat,vs=[.ref x,.ref c,.ref tm]∧H x=some (.ins t.C_Sure dx [])∧H tm=some (.ins t.C_Terms td (teF (.int (B:Int)) (.int (P:Int)) r2 r3 r4 r5))∧ChipAt t.C_Chip H c a m∧m.bl=(B:Int)∧m.pg=(P:Int)∧B≤16∧TbF t H∧∀k H',H' x=some (.ins t.C_Sure dx [("chip",.ref c),("terms",.ref tm),("book",.ref k.bk)])→(∀ru pa H2,Keep [x] H' H2→H2 x=some (.ins t.C_Sure dx [("chip",.ref c),("terms",.ref tm),("book",.ref k.bk),("rule",ru),("papers",pa)])→StAt t H2 ⟨x,dx,tm,td,c,a,k,ru,pa⟩ r2 r3 r4 r5 m (bk0 B P))→(∀b∈bf k,H b=none)→(∀b o,b≠x→H b=some o→H' b=some o)→Q .non H'
theorem q4S(T:Txt K mg t)(S:Fns K t):S.iC.Ok0 P w mg base 3 (spPi t):=by(
refine S.iC.F.ok0 q4H λcdv A _ s H vs Q E hr h=>?_
obtain⟨x,dx,tm,td,c,a,r2,r3,r4,r5,m,B,P',rfl,hx,htm,hc,eB,eP,hB,tb,k⟩:=h
refine⟨_,(qC (jA (PW.pt (zZ (qZ q1Z (qM (pv 2) rfl) (qM (pv 1) rfl) (j8 _)) (zK (qZ q1Z (qM (pv 2) rfl) (qM (pv 1) rfl) (j8 _))))) (qE j9) qR) (qC (jI (pv 0) (pv 1) rfl) (qC (jI (pv 0) (pv 2) rfl) (qE (jI (pv 0) (q3C T.aAK (q6K T S).mono hr rfl T.aAM S.iX.b .nil qK (qA (qM (pv 1) rfl) (qA (qM (pv 1) rfl) qG))) rfl))))),?_⟩
try dsimp-beta-proj-iota-zeta-eta only[wishK,cxK]
refine(iV rfl (iF htm T.aI T.aT rfl (iV rfl (iF hc.ins T.aD T.bB rfl ⟨rfl,_,rfl,?_⟩))))
rw[show(!decide (V.int (B:Int)=V.int m.bl))=false by rw[eB];simp]
refine iteF ?_
refine(iV rfl (iF htm T.aI T.a8 rfl (iV rfl (iF hc.ins T.aD T.bM rfl ⟨rfl,_,rfl,?_⟩))))
rw[show(!decide (V.int (P':Int)=V.int m.pg))=false by rw[eP];simp]
refine iteF ?_
refine⟨_,rfl,_,rfl,x,_,dx,_,rfl,hx,T.aB,T.aV,by decide,?_⟩
refine⟨_,rfl,_,rfl,x,_,dx,_,rfl,qJ,T.aB,T.aH,by show 1<1000;decide,?_⟩
rw[q5M]
have tx:tm≠x:=jN htm hx (by intro z;injection z with z1 z2 z3;unfold teF at z3;cases z3)
have cx:c≠x:=jN hc.ins hx (by intro z;injection z with z1 z2 z3;unfold chF at z3;cases z3)
have k1:∀b o,b≠x→H b=some o→(upd H x (.ins t.C_Sure dx [("chip",.ref c),("terms",.ref tm)])) b=some o:=λb o nb e=>by rw[qD nb];exact e
have o1:(upd H x (.ins t.C_Sure dx [("chip",.ref c),("terms",.ref tm)])) x=some (.ins t.C_Sure dx [("chip",.ref c),("terms",.ref tm)]):=qJ
have f1:∀b,(upd H x (.ins t.C_Sure dx [("chip",.ref c),("terms",.ref tm)])) b=none→H b=none:=λb e=>by
 by_cases z:b=x
 ·rw[z,qJ]at e;cases e
 rw[qD z]at e;exact e
rw[show putF "terms" (.ref tm) (putF "chip" (.ref c) ([]:List (Str×V)))=([("chip",V.ref c),("terms",V.ref tm)]:List (Str×V))from rfl]
generalize upd H x (.ins t.C_Sure dx [("chip",.ref c),("terms",.ref tm)])=H1 at k1 o1 f1 ⊢
have hc1:=k1 _ _ cx hc.ins
refine(iV rfl (iF hc1 T.aD T.bB rfl (iV rfl (iF hc1 T.aD T.bM rfl (λk' kd nk nkd nn=>?_)))))
rw[eB,eP]
refine⟨k',kd,B,P',rfl,hB,qJ,λka H3 e1 e2 hb3 ds fr up=>⟨rfl,?_⟩⟩
have s0:Same H1 (upd (upd H1 kd (.own k')) k' (.ins t.C_Book kd [])):=q5Y nk nkd
have up':∀b o,H1 b=some o→H3 b=some o:=λb o e=>up b o (qF e nk) (s0 b o e)
refine⟨_,rfl,x,_,dx,_,rfl,up' _ _ o1,T.aB,T.aL,by show 2<1000;decide,?_⟩
have hx3:=up' _ _ o1
have kx:ka.bk≠x:=by rw[e1];exact(qF o1 nk).symm
have lH:∀b∈bf ka,H b=none:=λb hb=>by
 have hb:b=ka.bk∨b∈[ka.wv,ka.lv,ka.fi,ka.bo]:=by simpa[bf]using hb
 rcases hb with rfl|hb
 ·rw[e1];exact f1 _ nk
 exact f1 _ (Same.free s0 (fr b hb))
have kpx:∀b o,b≠x→H3 b=some o→(upd H3 x (.ins t.C_Sure dx (putF "book" (.ref k') [("chip",V.ref c),("terms",V.ref tm)]))) b=some o:=λb o nb e=>by rw[qD nb];exact e
have up2:∀b o,b≠x→H b=some o→(upd H3 x (.ins t.C_Sure dx (putF "book" (.ref k') [("chip",V.ref c),("terms",V.ref tm)]))) b=some o:=λb o nb e=>kpx b o nb (up' b o (k1 b o nb e))
have nx:∀{b:Addr} {o:HO},H3 b=some o→(∀C d fs,o≠ .ins C d fs)→b≠x:=fun {b o} e n z=>by rw[z,hx3]at e;exact n _ _ _ (kH e).symm
have cfx:∀b∈a.li::foot c a,b≠x:=λb hb z=>by
 obtain⟨o,e,no⟩:=hc.has hb;by_cases y:b=c
 ·exact cx (y.symm.trans z)
 rw[z,hx]at e;exact no y _ _ _ (kH e).symm
refine k ka _ (by rw[e1];exact qJ) (λru pa H2 kk hx2=>?_) lH up2
have kp2:∀b o,b≠x→H3 b=some o→H2 b=some o:=λb o nb e=>kk.k b o (by simpa using nb) (kpx b o nb e)
have up3:∀b o,b≠x→H b=some o→H2 b=some o:=λb o nb e=>kk.k b o (by simpa using nb) (up2 b o nb e)
have kK:Keep [x] H H2:=⟨λb o nb e=>up3 b o (λz=>nb (by rw[z];simp)) e,λb xs e=>up3 b _ (λz=>by rw[z,hx]at e;cases e) e⟩
refine⟨hx2,?_,?_,?_,?_,ds,?_,?_⟩
·rw[eB,eP];exact up3 _ _ tx htm
·exact hc.keep kK (λb hb z=>cfx b hb (kN.mp z))
·exact⟨kp2 _ _ kx hb3.o,kp2 _ _ (nx hb3.w (λ_ _ _ z=>by cases z)) hb3.w,kp2 _ _ (nx hb3.l (λ_ _ _ z=>by cases z)) hb3.l,kp2 _ _ (nx hb3.f (λ_ _ _ z=>by cases z)) hb3.f,kp2 _ _ (nx hb3.b (λ_ _ _ z=>by cases z)) hb3.b⟩
·obtain⟨ps,hT,h⟩:=tb;refine⟨ps,up3 _ _ (λz=>by rw[z,hx]at hT;cases hT) hT,?_⟩;rcases h with h|⟨c',h,hcd⟩
 ·exact .inl h
 exact .inr ⟨c',h,up3 _ _ (λz=>by rw[z,hx]at hcd;cases hcd) hcd⟩
·intro b hb z;obtain⟨o,e,_⟩:=hc.has hb;rw[lH b z]at e;cases e
intro b hb z
have hb:b=x∨b=tm:=by simpa using hb
have y0:b∈foot c a∨b∈bf ka:=by simpa[sf]using z
clear z
rcases y0 with z|z
·rcases hb with rfl|rfl
 ·exact cfx _ (h9 _ z) rfl
 obtain⟨o,e,no⟩:=hc.has (h9 _ z);by_cases y:b=c
 ·rw[y,hc.ins]at htm;have htm:=kH htm;injection htm with z1 z2 z3
  unfold chF teF at z3;have:=rD List.length z3;simp at this
 rw[htm]at e;exact no y _ _ _ (kH e).symm
have n:=lH b z
rcases hb with rfl|rfl
·rw[hx]at n;cases n
rw[htm]at n;cases n)
noncomputable def spSi(t:Adr):Sp:=λvs H Q E=>∃x dx tm td c a r2 r3 r4 r5 ru,∃m:CM,∃B P:Nat,vs=[.ref x,.ref c,.ref tm,ru]∧H x=some (.ins t.C_Sure dx [])∧H tm=some (.ins t.C_Terms td (teF (.int (B:Int)) (.int (P:Int)) r2 r3 r4 r5))∧ChipAt t.C_Chip H c a m∧m.bl=(B:Int)∧m.pg=(P:Int)∧B≤16∧TbF t H∧∀k p H',StAt t H' ⟨x,dx,tm,td,c,a,k,ru,.ref p⟩ r2 r3 r4 r5 m (bk0 B P)→H' p=some (.lst [])→H p=none→(∀b∈bf k,H b=none)→p∉t.aA::sf ⟨x,dx,tm,td,c,a,k,ru,.ref p⟩→(∀b o,b≠x→H b=some o→H' b=some o)→Q .non H'
theorem q4T(T:Txt K mg t)(S:Fns K t):S.iB.Ok0 P w mg base 4 (spSi t):=by(
refine S.iB.F.ok0 q4L λcdv A _ s H vs Q E hr h=>?_
obtain⟨x,dx,tm,td,c,a,r2,r3,r4,r5,ru,m,B,P',rfl,hx,htm,hc,eB,eP,hB,tb,k⟩:=h
refine⟨_,(qC (qY (qFE T.xZ (q4S T S).mono hr rfl T.xM S.iC.b .nil qK (qA (pv 0) (qA (pv 1) (qA (pv 2) qG))))) (qC (jI (pv 0) (pv 3) rfl) (qE (jI (pv 0) (jT qG) rfl)))),?_⟩
try dsimp-beta-proj-iota-zeta-eta only[wishK,cxK]
refine⟨_,rfl,_,rfl,_,rfl,x,dx,tm,td,c,a,r2,r3,r4,r5,m,B,P',rfl,hx,htm,hc,eB,eP,hB,tb,λka H1 hx1 st fk up=>?_⟩
refine⟨_,rfl,_,rfl,x,_,dx,_,rfl,hx1,T.aB,T.tH,by show 3<1000;decide,?_⟩
refine⟨sz0,λp H2 np s2 h2=>?_⟩
have px:p≠x:=λz=>by rw[z,qJ]at np;cases np
rw[qD px]at np
have hx2:=s2 _ _ qJ
refine⟨_,rfl,x,_,dx,_,rfl,hx2,T.aB,T.fR,by show 4<1000;decide,?_⟩
have stA:=st ru .non (upd H1 x (.ins t.C_Sure dx [("chip",.ref c),("terms",.ref tm),("book",.ref ka.bk),("rule",ru),("papers",.non)])) (Keep.upd hx1 (λ_ z=>by cases z) (by simp)) qJ
have off:=stA.off (p:=p) (by rw[qD px];exact np)
have kA:Keep [x] H1 (upd H2 x (.ins t.C_Sure dx (putF "papers" (.ref p) (putF "rule" ru [("chip",.ref c),("terms",.ref tm),("book",.ref ka.bk)])))):=((Keep.upd hx1 (λ_ z=>by cases z) (by simp)).trans (Keep.same s2)).trans (Keep.upd hx2 (λ_ z=>by cases z) (by simp))
refine k ka p _ (st ru (.ref p) _ kA qJ) (by rw[qD px];exact h2) ?_ fk off (λb o nb e=>kA.k b o (by simpa using nb) (up b o nb e))
cases e:H p with
|none=>rfl
|some o=>rw[up p o px e]at np;cases np)
noncomputable def spFl(t:Adr):Sp:=λvs H Q _=>∃x r2 r3 r4 r5 m q,vs=[.ref x.s]∧StAt t H x r2 r3 r4 r5 m q∧Fit m q∧∀H',Same H H'→Q (.int (flN m q)) H'
theorem vR(T:Txt K mg t)(S:Fns K t):FnOkH P w K mg base CX0 6 t.f_Sure_failures S.aO.fd ["self"] (spFl t):=by(
refine S.aO.F.okH q2O (λvs H Q E h=>?_) (λcdv A outer s H vs Q E hp hh hr h=>?_)
·repeat obtain⟨_,h⟩:=h
 all_goals subst_vars;rfl
obtain⟨x,r2,r3,r4,r5,m,q,rfl,hs,ft,k⟩:=h
refine⟨_,(qE (qS (qN y9 (qM (qM (pv 0) rfl) rfl) (jJ yA (by rfl) T.xB dY (qA (q0Z (pv 0) T.aB T.fT (q0S T S).mono hh hr S.bY.b .nil qK) qG))))),?_⟩
try dsimp-beta-proj-iota-zeta-eta only[wishK,cxK]
refine(iV rfl (iF hs.o T.aB T.aH rfl (iF hs.te T.aI T.aT rfl ?_)))
refine(iV rfl (iM hs.o rfl ⟨x,r2,r3,r4,r5,m,q,rfl,hs,ft,λl H1 n1 s1 h1=>?_⟩))
refine⟨l,_,rfl,.inl (SqL.of h1),iI ?_⟩
rw[h8,ft.eB]
exact k H1 s1)
theorem uI(T:Txt K mg t)(S:Fns K t):S.aO.Ok0 P w mg base 6 (spFl t):=(vR T S).fn
noncomputable def spWo(t:Adr):Sp:=λvs H Q _=>∃x r2 r3 r5 m q,∃ie:Int,vs=[.ref x.s]∧StAt t H x r2 r3 (.int ie) r5 m q∧Fit m q∧∀H',Same H H'→Q (.bl (decide (ie<flN m q))) H'
theorem q1E(T:Txt K mg t)(S:Fns K t):FnOkH P w K mg base CX0 7 t.f_Sure_worn S.e9.fd ["self"] (spWo t):=by(
refine S.e9.F.okH q6C (λvs H Q E h=>?_) (λcdv A outer s H vs Q E hp hh hr h=>?_)
·repeat obtain⟨_,h⟩:=h
 all_goals subst_vars;rfl
obtain⟨x,r2,r3,r5,m,q,ie,rfl,hs,ft,k⟩:=h
refine⟨_,(qE (qS (yM qDO (q0Z (pv 0) T.aB T.bG (vR T S).mono hh hr S.aO.b .nil qK) (qM (qM (pv 0) rfl) rfl) (j8 _)))),?_⟩
try dsimp-beta-proj-iota-zeta-eta only[wishK,cxK]
refine(iV rfl (iM hs.o rfl ⟨x,r2,r3,_,r5,m,q,rfl,hs,ft,λH1 s1=>?_⟩))
have hs1:=hs.same s1
exact(iV rfl (iF hs1.o T.aB T.aH rfl (iF hs1.te T.aI T.b9 rfl (iI (k H1 s1))))))
theorem q6P(T:Txt K mg t)(S:Fns K t):S.e9.Ok0 P w mg base 7 (spWo t):=(q1E T S).fn
noncomputable def spCw(t:Adr):Sp:=λvs H Q _=>∃x r2 r3 r5 m q,∃ie:Int,vs=[.ref x.s]∧StAt t H x r2 r3 (.int ie) r5 m q∧Fit m q∧flN m q≤ie∧∀H',Same H H'→Q .non H'
theorem uY(T:Txt K mg t)(S:Fns K t):FnOkH P w K mg base CX0 8 t.f_Sure_check_worn S.aW.fd ["self"] (spCw t):=by(
refine S.aW.F.okH q1T (λvs H Q E h=>?_) (λcdv A outer s H vs Q E hp hh hr h=>?_)
·repeat obtain⟨_,h⟩:=h
 all_goals subst_vars;rfl
obtain⟨x,r2,r3,r5,m,q,ie,rfl,hs,ft,le,k⟩:=h
refine⟨_,(qE (jA (jB (q0Z (pv 0) T.aB T.i3 (q1E T S).mono hh hr S.e9.b .nil qK)) (qE j9) qR)),?_⟩
try dsimp-beta-proj-iota-zeta-eta only[wishK,cxK]
refine(iV rfl (iM hs.o rfl ⟨x,r2,r3,r5,m,q,ie,rfl,hs,ft,λH1 s1=>⟨_,rfl,?_⟩⟩))
rw[hZ (by lia)]
exact iteF (k H1 s1))
theorem q1W(T:Txt K mg t)(S:Fns K t):S.aW.Ok0 P w mg base 8 (spCw t):=(uY T S).fn
noncomputable def spRs(t:Adr):Sp:=λvs H Q _=>∃x r2 r3 r5 m q,∃ie:Int,vs=[.ref x.s]∧StAt t H x r2 r3 (.int ie) r5 m q∧Fit m q∧∀H',Same H H'→Q (.int (1+(ie-flN m q))) H'
theorem uT(T:Txt K mg t)(S:Fns K t):S.bS.Ok0 P w mg base 7 (spRs t):=by(
refine S.bS.F.ok0 q31 λcdv A _ s H vs Q E hr h=>?_
obtain⟨x,r2,r3,r5,m,q,ie,rfl,hs,ft,k⟩:=h
refine⟨_,(qE (qS (qN y9 (qN jM qI (qM (qM (pv 0) rfl) rfl)) (j7 (pv 0) T.aB T.bG (uI T S).mono hr S.aO.b .nil qK)))),?_⟩
try dsimp-beta-proj-iota-zeta-eta only[wishK,cxK]
refine(iV rfl (iF hs.o T.aB T.aH rfl (iF hs.te T.aI T.b9 rfl (iI ?_))))
refine(iV rfl (iM hs.o rfl ⟨x,r2,r3,_,r5,m,q,rfl,hs,ft,λH1 s1=>(iI ?_)⟩))
show Q (.int (1+ie-flN m q)) H1
rw[nI]
exact k H1 s1)
noncomputable def spRd(t:Adr):Sp:=λvs H Q _=>∃x r2 r3 r5 m q,∃ie:Int,vs=[.ref x.s]∧StAt t H x r2 r3 (.int ie) r5 m q∧Fit m q∧∀l H',FreeIs q.B m.br m.cl q.fi l→Keep [t.aA] H H'→TbF t H'→Q (.bl (rdy (ie-flN m q) l (uV q.B q.P m.br q.fi))) H'
theorem q4B(T:Txt K mg t)(S:Fns K t)(B:BmIn base mg):S.fU.Ok0 P w mg base 9 (spRd t):=by(
refine S.fU.F.ok0 q0O λcdv A _ s H vs Q E hr h=>?_
obtain⟨x,r2,r3,r5,m,q,ie,rfl,hs,ft,k⟩:=h
refine⟨_,(qC (qX (i:=1) q0O.nd rfl (Or.inl rfl) (qN y9 (jJ yA (by rfl) T.xB dY (qA (j7 (pv 0) T.aB T.i8 (q1C T S B).mono hr S.iH .nil qK) qG)) (j7 (pv 0) T.aB T.eC (uT T S).mono hr S.bS.b .nil qK))) (qE (qS (qDK (yM qDO (pv 1) qI (j8 _)) (uO (vS (yM q00 (pv 1) qI (j8 _)) (uO (yM q20 (j7 (pv 0) T.aB T.iS (q1D T S).mono hr S.fJ.b .nil qK) yN (j8 _))))))))),?_⟩
try dsimp-beta-proj-iota-zeta-eta only[wishK,cxK]
refine(iV rfl (iM hs.o rfl ⟨x,r2,r3,_,r5,m,q,rfl,hs,ft,λl p H1 hl np k1 tb1 h1=>?_⟩))
have hs1:=hs.kT k1 tb1
refine⟨p,_,rfl,.inl (SqL.of h1),iV rfl (iM hs1.o rfl ⟨x,r2,r3,r5,m,q,ie,rfl,hs1,ft,λH2 s2=>(iI ?_)⟩)⟩
have hs2:=hs1.same s2
refine⟨_,rfl,_,_,rfl,rfl,_,rfl,?_⟩
have kk:=λH' s'=>k l H' hl ((k1.trans (Keep.same s2)).trans (Keep.same s')) ((tb1.same s2).same s')
unfold rdy at kk
rw[h8]
by_cases z:(l.length:Int)-(1+(ie-flN m q))>0
·rw[hW z];refine iteT ?_;have:=kk H2 (Same.refl H2);rw[hW z]at this;exact this
rw[hZ z]
refine iteF ?_
rw[hZ z]at kk
refine⟨_,rfl,rfl,_,rfl,?_⟩
rw[vV]
by_cases e0:(l.length:Int)-(1+(ie-flN m q))=0
·rw[hW e0];rw[hW e0]at kk;refine iteT ?_;refine(iV rfl (iM hs2.o rfl ⟨x,r2,r3,_,r5,m,q,rfl,hs2,ft,λH3 s3=>⟨rfl,?_⟩⟩));have:=kk H3 s3;cases hp:uV q.B q.P m.br q.fi with
 |none=>rw[hp]at this;exact this
 |some b=>rw[hp]at this;exact this
rw[hZ e0]
rw[hZ e0]at kk
refine iteF ?_
exact kk H2 (Same.refl H2))
noncomputable def spMr(t:Adr):Sp:=λvs H Q _=>∃x r2 r3 r5 m q,∃ie:Int,vs=[.ref x.s]∧StAt t H x r2 r3 (.int ie) r5 m q∧Fit m q∧flN m q≤ie∧(∀l,FreeIs q.B m.br m.cl q.fi l→rdy (ie-flN m q) l (uV q.B q.P m.br q.fi)=true)∧∀H',Keep [t.aA] H H'→TbF t H'→Q .non H'
theorem q15(T:Txt K mg t)(S:Fns K t)(B:BmIn base mg):S.bU.Ok0 P w mg base 15 (spMr t):=by(
refine S.bU.F.ok0 q11 λcdv A _ s H vs Q E hr h=>?_
obtain⟨x,r2,r3,r5,m,q,ie,rfl,hs,ft,le,rd,k⟩:=h
refine⟨_,(qE (q3K mW (jH (jB (j7 (pv 0) T.aB T.o6 (q4B T S B).mono hr S.fU.b .nil qK))) (qE j9))),?_⟩
try dsimp-beta-proj-iota-zeta-eta only[wishK,cxK]
refine⟨λ_ σ' H'=>σ'=[some (.ref x.s)]∧H'=H,⟨0,rfl,rfl⟩,?_⟩
rintro _ _ _ ⟨rfl,rfl⟩
refine(iV rfl (iM hs.o rfl ⟨x,r2,r3,r5,m,q,ie,rfl,hs,ft,λl H1 hl k1 tb1=>⟨_,rfl,?_⟩⟩))
rw[rd l hl]
exact iteF (k H1 k1 tb1))
theorem vJ(T:Txt K mg t)(S:Fns K t)(B:BmIn base mg):S.bL.Ok0 P w mg base 16 (spMr t):=by(
refine S.bL.F.ok0 q1S λcdv A _ s H vs Q E hr h=>?_
obtain⟨x,r2,r3,r5,m,q,ie,rfl,hs,ft,le,rd,k⟩:=h
refine⟨_,(qC (qY (j7 (pv 0) T.aB T.eG (q1W T S).mono hr S.aW.b .nil qK)) (qE (qY (j7 (pv 0) T.aB T.iE (q15 T S B).mono hr S.bU.b .nil qK)))),?_⟩
try dsimp-beta-proj-iota-zeta-eta only[wishK,cxK]
refine(iV rfl (iM hs.o rfl ⟨x,r2,r3,r5,m,q,ie,rfl,hs,ft,le,λH1 s1=>?_⟩))
have hs1:=hs.same s1
exact(iV rfl (iM hs1.o rfl ⟨x,r2,r3,r5,m,q,ie,rfl,hs1,ft,le,rd,λH' k' tb'=>k H' ((Keep.same s1).trans k') tb'⟩)))
theorem Fit.deed{m:CM}{q:QM}{wd:Str}{pl b:Int}{f:Bool}(h:Fit m q)(hr:m.rc.length<1000000):Fit (m.deed wd pl b f) q:=⟨h.ok.deed hr,h.oq,h.eB,h.eP⟩
noncomputable def qGX(t:Adr):Sp:=λvs H Q _=>∃x r2 r3 r5 m q n v b f,∃ie:Int,vs=[.ref x.s,.int n,.int v]∧StAt t H x r2 r3 (.int ie) r5 m q∧Fit m q∧0≤n∧n≤64∧Spt m q b f∧(if m.spent (b:Int)=true then flN (m.deed "put" ((b*q.P+f:Nat):Int) (b:Int) true) q≤ie∧∀H',StAt t H' x r2 r3 (.int ie) r5 (m.deed "put" ((b*q.P+f:Nat):Int) (b:Int) true) q→Keep (t.aA::sf x) H H'→Q .non H'
  else ∀tp H',H' tp=some (.tup [.int (q.nx*128+n),.int v])→Keep (t.aA::sf x) H H'→StAt t H' x r2 r3 (.int ie) r5 (putC m (b*q.P+f) (.ref tp)) (q.put b f n)→Q (.int ((b*q.P+f:Nat):Int)) H')
theorem zE(T:Txt K mg t)(S:Fns K t)(B:BmIn base mg):S.aU.Ok0 P w mg base 11 (qGX t):=by(
refine S.aU.F.ok0 zC λcdv A _ s H vs Q E hr h=>?_
obtain⟨x,r2,r3,r5,m,q,n,v,b,f,ie,rfl,hs,ft,n0,n1,sp,k⟩:=h
refine⟨_,(qE (qB2 (λpins XE ES tk1 po1=>(qE (qS (q04 tk1 (pv 0) T.aB T.i6 (q2D T S B).mono hr S.eE.b .nil (qA (pv 1) (qA (pv 2) qG)))))) (qBX (λea=>(yW rfl T.eD rfl (v:=.ref t.C_BlockFailed))) rfl (λea pn hh=>(qC (qY (q0Z (pv 0) T.aB T.eG (uY T S).mono hh hr.u S.aW.b .nil qK)) (qE (qS yN)))) (qB1 q2T)))),?_⟩
try dsimp-beta-proj-iota-zeta-eta only[wishK,cxK]
refine(iV rfl (iM hs.o rfl ⟨_,rfl,_,rfl,x,r2,r3,.int ie,r5,m,q,n,v,b,f,rfl,hs,ft,n0,n1,sp,?_⟩))
cases z:m.spent (b:Int)with
|true=>rw[hU z]at k;rw[hU rfl];intro dx H1 hs1 k1 ea hea;refine⟨_,T.aZ,iteT ?_⟩;refine(iV rfl (iM hs1.o rfl ⟨x,r2,r3,r5,_,q,ie,rfl,hs1,ft.deed sp.hr,k.1,λH2 s2=>?_⟩));exact k.2 H2 (hs1.same s2) (k1.trans (Keep.same s2))
|false=>rw[hV (by rw[z];decide)]at k;rw[hV (by decide)];exact k)
noncomputable def spLy(t:Adr):Sp:=λvs H Q _=>∃x r2 r3 r5 m q n v j m' b f,∃ie:Int,vs=[.ref x.s,.int n,.int v]∧StAt t H x r2 r3 (.int ie) r5 m q∧Fit m q∧0≤n∧n≤64∧Ly q ie j m m' b f∧∀tp H',H' tp=some (.tup [.int (q.nx*128+n),.int v])→Keep (t.aA::sf x) H H'→StAt t H' x r2 r3 (.int ie) r5 (putC m' (b*q.P+f) (.ref tp)) (q.put b f n)→Q (.int ((b*q.P+f:Nat):Int)) H'
theorem q2Z(T:Txt K mg t)(S:Fns K t)(B:BmIn base mg):S.iQ.Ok0 P w mg base 12 (spLy t):=by(
refine S.iQ.F.ok0 q0Q λcdv A _ s H vs Q E hr h=>?_
obtain⟨x,r2,r3,r5,m,q,n,v,j,m',b,f,ie,rfl,hs,ft,n0,n1,ly,k⟩:=h
refine⟨_,(qC (qX (i:=3) q0Q.nd rfl (Or.inl rfl) yN) (qC (q3K mW (qZ q82 (pv 3) yN (j8 _)) (qE (qX (i:=3) q0Q.nd rfl (Or.inl rfl) (jD (pv 0) T.aB T.eT (zE T S B).mono hr S.aU.b .nil qK (qA (pv 1) (qA (pv 2) qG)))))) (qE (qS (pv 3))))),?_⟩
try dsimp-beta-proj-iota-zeta-eta only[wishK,cxK]
refine⟨λi σ' H'=>∃pg,σ'=[some (.ref x.s),some (.int n),some (.int v),some pg]∧((pg≠ .non∧Q pg H')∨(pg=.non∧∃j1 m1,i=j1+1∧StAt t H' x r2 r3 (.int ie) r5 m1 q∧Fit m1 q∧Ly q ie j1 m1 m' b f∧Keep (t.aA::sf x) H H')),⟨j+1,_,rfl,.inr ⟨rfl,j,m,rfl,hs,ft,ly,Keep.refl⟩⟩,?_⟩
rintro i σ' H1 ⟨pg,rfl,h⟩
refine⟨_,rfl,rfl,_,rfl,?_⟩
rcases h with⟨np,hq⟩|⟨rfl,j1,m1,rfl,hs1,ft1,ly1,k1⟩
·rw[hZ np];exact iteF ⟨_,rfl,hq⟩
rw[hW rfl]
refine iteT ⟨_,λσ' H' z=>z,?_⟩
cases ly1 with
|here sp ns=>refine(iV rfl (iM hs1.o rfl ⟨_,rfl,_,rfl,x,r2,r3,r5,m',q,n,v,b,f,ie,rfl,hs1,ft1,n0,n1,sp,?_⟩));rw[hV (by rw[ns];decide)];exact λtp H2 ht k2 st2=>⟨0,by lia,_,rfl,.inl ⟨(λz=>by cases z),k tp H2 ht (k1.trans k2) st2⟩⟩
|@fail j2 _ _ b2 f2 _ _ sp ys le ly2=>refine(iV rfl (iM hs1.o rfl ⟨_,rfl,_,rfl,x,r2,r3,r5,m1,q,n,v,b2,f2,ie,rfl,hs1,ft1,n0,n1,sp,?_⟩));rw[hU ys];exact⟨le,λH2 hs2 k2=>⟨j2+1,by lia,_,rfl,.inr ⟨rfl,j2,_,rfl,hs2,ft1.deed sp.hr,ly2,k1.trans k2⟩⟩⟩)
noncomputable def qGY(t:Adr):Sp:=λvs H Q _=>∃x r5 m q j m' b f,∃s v sh sr ie:Int,vs=[.ref x.s,.int s,.int v]∧StAt t H x (.int sh) (.int sr) (.int ie) r5 m q∧Fit m q∧(hdN q.V).length<64∧sh≤64∧0≤s∧s≤sh-1∧inB (.int v) 0 (10 ^ 30-1)=true∧¬(hold q s=false∧sr≤((hdN q.V).length:Int))∧flN m q≤ie∧(∀l,FreeIs q.B m.br m.cl q.fi l→rdy (ie-flN m q) l (uV q.B q.P m.br q.fi)=true)∧Ly q ie j m m' b f∧∀tp H',H' tp=some (.tup [.int (q.nx*128+s),.int v])→Keep (t.aA::sf x) H H'→StAt t H' x (.int sh) (.int sr) (.int ie) r5 (putC m' (b*q.P+f) (.ref tp)) (q.put b f s)→Q (.int ((b*q.P+f:Nat):Int)) H'
theorem q4C(T:Txt K mg t)(S:Fns K t)(B:BmIn base mg):S.fS.Ok0 P w mg base 17 (qGY t):=by(
refine S.fS.F.ok0 q47 λcdv A _ s H vs Q E hr h=>?_
obtain⟨x,r5,m,q,j,m',b,f,s,v,sh,sr,ie,rfl,hs,ft,h64,sh64,s0,s1',w,hf,le,rd,ly,k⟩:=h
refine⟨_,(qC (qY (jD (pv 0) T.aB T.bH (yF T S).mono hr S.aM.b .nil qK (qA (pv 1) qG))) (qC (jA (jH (jB (qV (q7U T S).mono hr rfl T.xE T.xH S.oR.b .nil qK (qA (pv 2) qG)))) (qE j9) qR) (qC (qY (jD (pv 0) T.aB T.fY (q0T T S).mono hr S.bP.b .nil qK (qA (pv 1) qG))) (qC (qY (j7 (pv 0) T.aB T.eN (vJ T S B).mono hr S.bL.b .nil qK)) (qE (qS (jD (pv 0) T.aB T.oH (q2Z T S B).mono hr S.iQ.b .nil qK (qA (pv 1) (qA (pv 2) qG))))))))),?_⟩
try dsimp-beta-proj-iota-zeta-eta only[wishK,cxK]
refine(iV rfl (iM hs.o rfl ⟨_,rfl,x,.int sr,.int ie,r5,m,q,.int s,sh,rfl,hs,.int _,?_⟩))
rw[hU (inBi s0 s1')]
refine⟨_,rfl,.int v,rfl,.int _,_,rfl,?_⟩
rw[w]
refine iteF ?_
refine(iV rfl (iM hs.o rfl ⟨_,rfl,x,.int sh,.int ie,r5,m,q,s,sr,rfl,hs,ft,h64,λH1 s1=>?_⟩))
rw[hV hf]
have hs1:=hs.same s1
refine(iV rfl (iM hs1.o rfl ⟨x,.int sh,.int sr,r5,m,q,ie,rfl,hs1,ft,le,rd,λH2 k2 tb2=>?_⟩))
have hs2:=hs1.kT k2 tb2
exact(iV rfl (iM hs2.o rfl ⟨_,rfl,_,rfl,x,.int sh,.int sr,r5,m,q,s,v,j,m',b,f,ie,rfl,hs2,ft,s0,by lia,ly,λtp H3 htp k3=>k tp H3 htp ((((Keep.same s1).trans k2).mono (by simp)).trans k3)⟩)))
noncomputable def gvn(ns ss:List Int):List Int:=ns.filter λn=>decide (n∈ss)
noncomputable def rst(ns g:List Int):List Int:=ns.filter λn=>!decide (n∈g)
noncomputable def natL(ns:List Int):List Nat:=ns.map Int.toNat
theorem qC0:∀{ns:List Int},(∀n∈ns,0≤n)→ns.map V.int=vN (natL ns)
| [],_=>rfl
|n::r,h=>by have h0:=h n kM;show V.int n::r.map V.int=V.int ((n.toNat:Nat):Int)::vN (natL r);rw[qC0 (ns:=r) λx hx=>h x (h9 _ hx),show((n.toNat:Nat):Int)=n by lia]
theorem qFL{q:QM}(ok:q.Ok){n:Int}(h:n∈hdN q.V):0≤n∧n≤63:=by(
unfold hdN at h
obtain⟨h1,h2⟩:=gQ.mp h
obtain⟨p,hp,rfl⟩:=mH.mp h1
have:=ok.nm p hp
have:=mK h2
lia)
theorem q9D{n:Int}:∀{ns:List Int},ns.Nodup→n∈ns→gvn ns [n]=[n]
| [],_,h=>by cases h
|x::r,nd,h=>by
 obtain⟨n1,n2⟩:=mM.mp nd;unfold gvn;rw[mJ];by_cases z:x=n
 ·subst z;rw[hU (by simp),pB.mpr λy hy=>by simp;exact λw=>n1 (w▸hy)]
 rw[hV (by simpa using z)];exact q9D n2 ((kG.mp h).resolve_left (λw=>z w.symm))
theorem qGZ{q:QM}(ok:q.Ok){ns:List Int}(h:HeldIs q ns):ns.Nodup:=h.pm.nodup_iff.mpr (lQ _ ok.nd)
noncomputable def spGU(t:Adr):Sp:=λvs H Q _=>∃x r5 m q j m' b f l0,∃n sh sr ie:Int,vs=[.ref x.s,.ref l0]∧StAt t H x (.int sh) (.int sr) (.int ie) r5 m q∧Fit m q∧(hdN q.V).length<64∧H l0=some (.lst [.int n])∧0≤n∧n≤sh-1∧n∈hdN q.V∧flN m q≤ie∧(∀l,FreeIs q.B m.br m.cl q.fi l→rdy (ie-flN m q) l (uV q.B q.P m.br q.fi)=true)∧Ly q ie j m m' b f∧∀ns tp H',HeldIs q ns→H' tp=some (.tup [.int (q.nx*128+64),.int ((orB (natL (rst ns [n])) 0:Nat):Int)])→Keep (t.aA::sf x) H H'→StAt t H' x (.int sh) (.int sr) (.int ie) r5 (putC m' (b*q.P+f) (.ref tp)) ((q.put b f 64).forget n)→Q (.int 1) H'
theorem q2Q(T:Txt K mg t)(S:Fns K t)(B:BmIn base mg):S.eX.Ok0 P w mg base 17 (spGU t):=by(
refine S.eX.F.ok0 y8 λcdv A _ s H vs Q E hr h=>?_
obtain⟨x,r5,m,q,j,m',b,f,l0,n,sh,sr,ie,rfl,hs,ft,h64,hl0,n0,n1',hn0,le,rd,ly,k⟩:=h
have hu:=vM hr
refine⟨_,(qC (vT mW rfl (uZ (pv 1)) (jQ (i:=2) y8.nd rfl (Or.inl rfl)) (qE (qY (jD (pv 0) T.aB T.bH (yF T S).mono hr S.aM.b .nil qK (qA (pv 2) qG))))) (qC (qX (i:=3) y8.nd rfl (Or.inl rfl) (j7 (pv 0) T.aB T.fW (zD T S).mono hr S.eL.b .nil qK)) (qC (qX (i:=4) y8.nd rfl (Or.inr rfl) (q5W ["sheets","sheet"] [1] rfl (uZ (pv 3)) (λ_ _ _ _ _=>(jQ (i:=1) (show List.Nodup (["sheets","sheet"]:List Str)from by decide) rfl (Or.inl rfl))) (λ_ _ _ _ _=>(q26 (qZ (q8C (K:=K) rfl) (pv 1) (pv 0) rfl))) (λ_ _ _ _ _=>(pv 1)) (by kernel_rfl) (q05 (by decide)))) (qC (jA (qZ (q8B hr.units) (pv 4) (jT qG) (j8 _)) (qE (qS qI)) qR) (qC (qY (j7 (pv 0) T.aB T.eN (vJ T S B).mono hr S.bL.b .nil qK)) (qC (qY (jD (pv 0) T.aB T.oH (q2Z T S B).mono hr S.iQ.b .nil qK (qA (yW rfl T.xU ⟨_,rfl⟩ (v:=.int 64)) (qA (qV (q8R T S).mono hr rfl T.xO T.xR S.tS.b .nil qK (qA (q5W ["gone","sheet"] [4] rfl (uZ (pv 3)) (λ_ _ _ _ _=>(jQ (i:=1) (show List.Nodup (["gone","sheet"]:List Str)from by decide) rfl (Or.inl rfl))) (λ_ _ _ _ _=>(q26 (qZ (q4G (K:=K) rfl) (pv 1) (pv 0) rfl))) (λ_ _ _ _ _=>(pv 1)) (by kernel_rfl) (q05 (by decide))) qG)) qG)))) (qC (vT mW rfl (uZ (pv 4)) (jQ (i:=2) y8.nd rfl (Or.inl rfl)) (qE (qY (jD (qM (pv 0) rfl) T.aG T.f8 (q0R T S).mono hr S.eU.b .nil qK (qA (pv 2) qG))))) (qE (qS (jJ yA (by rfl) T.xB dY (qA (pv 4) qG))))))))))),?_⟩
try dsimp-beta-proj-iota-zeta-eta only[wishK,cxK]
refine⟨_,rfl,l0,rfl,⟨_,SqL.of hl0⟩,?_⟩
refine zF (K:=K) (xs:=[V.int n]) (λi σ' H2=>∃y,σ'=[some (.ref x.s),some (.ref l0),y,none,none]∧H=H2) ⟨_,rfl,rfl⟩ (λi σ' H2 hi hp=>?_) (λi v σ' H2 hv hp=>?_) (λσ' H2 hp=>?_)
·obtain⟨y,rfl,rfl⟩:=hp;exact SqL.of hl0
·obtain⟨y,rfl,rfl⟩:=hp;obtain rfl:v=V.int n:=by simpa using mY hv
 refine(iV rfl (iM hs.o rfl ⟨_,rfl,x,.int sr,.int ie,r5,m,q,.int n,sh,rfl,hs,.int _,?_⟩));rw[hU (inBi n0 n1')];exact⟨_,rfl,rfl⟩
obtain⟨y,rfl,rfl⟩:=hp
refine(iV rfl (iM hs.o rfl ⟨x,.int sh,.int sr,.int ie,r5,m,q,rfl,hs,ft,h64,λhl ns H1 hn s1 n1 h1=>?_⟩))
have nsd:=qGZ ft.oq hn
have lns:ns.length<64:=by rw[hn.pm.length_eq];exact h64
refine⟨_,rfl,hl,rfl,⟨_,SqL.of h1⟩,λD H2 nD s2 hD=>?_⟩
refine q42 (K:=K) (xs:=ns.map V.int) (D:=D) (λi H3=>Same H1 H3∧H3 D=some (.lst ((gvn (ns.take i) [n]).map V.int))) ⟨s2,hD⟩ (λi H3 hp=>SqL.of (hp.1 _ _ h1)) (λi v H3 hv hp=>?_) (λH3 hp=>?_)
·obtain⟨sm,hd⟩:=hp;rw[mG]at hv;obtain⟨n2,hw,rfl⟩:=mP.mp hv;have hi:=(kD.mp hw).1;have ev:=(kD.mp hw).2;refine⟨_,rfl,_,rfl,l0,_,rfl,.inl (SqL.of (sm _ _ (s1 _ _ hl0))),rfl,(show([n].map V.int).all uU=true from q9C),_,rfl,?_⟩;show if inV (.int n2) ([n].map V.int)=true then _ else _;rw[q2E];have eg:gvn (ns.take (i+1)) [n]=gvn (ns.take i) [n]++(if n2∈[n]then[n2]else[]):=by
  unfold gvn;rw[←gA hi,dH,ev,mJ];by_cases z:n2∈[n]
  ·rw[hW z,hU z];rfl
  rw[hZ z,hV z];rfl
 rw[eg];by_cases z:n2∈[n]
 ·rw[hW z,hU z];refine iteT ?_;refine⟨_,rfl,_,hd,?_,λb o e=>?_,?_⟩
  ·rw[h8];have l1:(gvn (ns.take i) [n]).length≤(ns.take i).length:=mL _ _;rw[dC]at l1;have:(64:Nat)<sizeLine:=by decide
   lia
  ·rw[qD (qF e nD)];exact sm _ _ e
  rw[qJ,mI];rfl
 rw[hZ z,hV z,wR];exact iteF ⟨sm,hd⟩
obtain⟨sm,hd⟩:=hp
rw[h8,dG]at hd
have s03:Same H H3:=s1.trans sm
have hs3:=hs.same s03
rw[q9D nsd (hn.pm.mem_iff.mpr hn0)]at hd
refine⟨_,rfl,sz0,λe H4 n4 s4 h4=>⟨D,_,e,rfl,rfl,SqL.of (s4 _ _ hd),SqL.of h4,_,rfl,?_⟩⟩
have s04:=s03.trans s4
rw[hZ (λy=>by cases y)]
refine iteF ?_
have hs4:=hs3.same s4
refine(iV rfl (iM hs4.o rfl ⟨x,.int sh,.int sr,r5,m,q,ie,rfl,hs4,ft,le,rd,λH5 k5 tb5=>?_⟩))
have k05:Keep [t.aA] H H5:=(Keep.same s04).trans k5
have hs5:=hs4.kT k5 tb5
have hT:∀{p:Addr} {us:List V},H4 p=some (.lst us)→H5 p=some (.lst us):=fun {p us} e'=>k5.k _ _ (λw=>hs4.tb.ne e' (λ_ z=>by cases z) (kN.mp w)) e'
have h1_5:=hT (s4 _ _ (sm _ _ h1))
have hd5:=hT (s4 _ _ hd)
refine(iV rfl (iM hs5.o rfl ?_))
refine⟨_,rfl,hl,rfl,⟨_,SqL.of h1_5⟩,λD2 H6 n6 s6 hD2=>?_⟩
refine q42 (K:=K) (xs:=ns.map V.int) (D:=D2) (λi H7=>Same H5 H7∧H7 D2=some (.lst ((rst (ns.take i) ([n])).map V.int))) ⟨s6,hD2⟩ (λi H7 hp=>SqL.of (hp.1 _ _ h1_5)) (λi v H7 hv hp=>?_) (λH7 hp=>?_)
·obtain⟨sm7,hd7⟩:=hp;rw[mG]at hv;obtain⟨n2,hw,rfl⟩:=mP.mp hv;have hi:=(kD.mp hw).1;have ev:=(kD.mp hw).2;refine⟨_,rfl,_,rfl,D,_,rfl,.inl (SqL.of (sm7 _ _ hd5)),rfl,q9C,_,rfl,?_⟩;show if(!inV (.int n2) (([n]).map V.int))=true then _ else _;rw[q2E];have eg:rst (ns.take (i+1)) ([n])=rst (ns.take i) ([n])++(if n2∈[n]then[]else[n2]):=by
  unfold rst;rw[←gA hi,dH,ev,mJ];by_cases y:n2∈[n]
  ·rw[hW y,hU y];rfl
  rw[hZ y,hV y];rfl
 rw[eg];by_cases y:n2∈[n]
 ·rw[hW y,hU y,wR];exact iteF ⟨sm7,hd7⟩
 rw[hZ y,hV y];refine iteT ?_;refine⟨_,rfl,_,hd7,?_,λb o e=>?_,?_⟩
 ·rw[h8];have l1:(rst (ns.take i) ([n])).length≤(ns.take i).length:=mL _ _;rw[dC]at l1;have:(64:Nat)<sizeLine:=by decide
  lia
 ·rw[qD (qF e n6)];exact sm7 _ _ e
 rw[qJ,mI];rfl
obtain⟨sm7,hd7⟩:=hp
rw[h8,dG]at hd7
have inr:∀n3∈rst ns [n],0≤n3∧n3≤63:=λn3 hn'=>qFL ft.oq (hn.pm.mem_iff.mp (gQ.mp hn').1)
rw[qC0 (λn hn'=>(inr n hn').1)]at hd7
refine⟨D2,_,rfl,SqL.of hd7,λs hs'=>?_,?_⟩
·obtain⟨n3,hn',rfl⟩:=mH.mp hs';have:=inr n3 hn';lia
have hs7:=hs5.same sm7
refine⟨x,.int sh,.int sr,r5,m,q,64,_,j,m',b,f,ie,rfl,hs7,ft,by decide,by decide,ly,λtp H8 htp k8 st8=>?_⟩
have k07:Keep [t.aA] H H7:=k05.trans (Keep.same sm7)
have k08:Keep (t.aA::sf x) H H8:=(k07.mono (by simp)).trans k8
have dD:D∉t.aA::sf x:=(hs.same s1).off nD
have hd8:=k8.k _ _ dD (sm7 _ _ hd5)
obtain⟨hB,hf,ef⟩:=ly.at ft.oq
have okp:=ft.oq.put (n:=64) hB hf ef (by decide) (by decide)
refine⟨_,rfl,D,rfl,⟨_,SqL.of hd8⟩,?_⟩
refine zF (K:=K) (xs:=[V.int n]) (λi σ' H'=>∃y',σ'=[some (.ref x.s),some (.ref l0),y',some (.ref hl),some (.ref D)]∧StAt t H' x (.int sh) (.int sr) (.int ie) r5 (putC m' (b*q.P+f) (.ref tp)) (if i=0 then q.put b f 64 else(q.put b f 64).forget n)∧Keep (bf x.k) H8 H') ⟨_,rfl,st8,Keep.refl⟩ (λi σ' H' hi hp=>?_) (λi v σ' H' hv hp=>?_) (λσ' H' hp=>?_)
·obtain⟨y',rfl,st,kb⟩:=hp;exact SqL.of (kb.k _ _ (λw=>dD (by simp[sf,w])) hd8)
·obtain⟨y',rfl,st,kb⟩:=hp;obtain rfl:i=0:=by have:=(kD.mp hv).1;simpa using this
 obtain rfl:V.int n=v:=by simpa using hv
 rw[hU rfl]at st;refine(iV rfl (iF st.o T.aB T.aL rfl (iM st.bk.o rfl ⟨_,rfl,x.k,_,n,rfl,st.bk,okp,st.ds,λH9 hb9 k9=>?_⟩)));have k9:Keep (bf x.k) H' H9:=k9.mono (by intro b hb;simp at hb;rcases hb with rfl|rfl<;>simp[bf]);exact⟨_,rfl,st.note hb9 k9,kb.trans k9⟩
obtain⟨y',rfl,st,kb⟩:=hp
have st:StAt t H' x (.int sh) (.int sr) (.int ie) r5 (putC m' (b*q.P+f) (.ref tp)) ((q.put b f 64).forget n):=st
have hd9:=kb.k _ _ (λw=>dD (by simp[sf,w])) hd8
refine⟨_,rfl,D,_,rfl,.inl (SqL.of hd9),?_⟩
exact k ns tp H' hn (kb.tp _ _ htp) (k08.trans (kb.mono (λb hb=>by simp[sf,hb]))) st)
noncomputable def qH0:Sp:=λvs H Q _=>∃c:Int,vs=[.int c]∧∀tp H',∀B ie P:Nat,Same H H'→H' tp=some (.tup [.int (B:Int),.int (ie:Int),.int (P:Int)])→3≤B→B≤6→1≤ie→ie≤B-2→1≤P→P≤4→3≤(B-1-ie)*P→Q (.ref tp) H'
theorem q6Q(T:Txt K mg t)(S:Fns K t):S.i7.Ok0 P w mg base 1 qH0:=by(
refine S.i7.F.ok0 uC λcdv A _ s H vs Q E hr h=>?_
obtain⟨c,rfl,k⟩:=h
refine⟨_,(qC (qX (i:=1) uC.nd rfl (Or.inl rfl) (qN jM qI (qN yI (pv 0) qI))) (qC (qX (i:=2) uC.nd rfl (Or.inl rfl) (qN jM qI (qN yI (qN yX (pv 0) qI) (qN y9 (pv 1) qI)))) (qC (qX (i:=3) uC.nd rfl (Or.inl rfl) (qN jM qI (qN yI (qN yX (pv 0) qI) qI))) (q3E (jA (qZ q8Y (qN yD (qN y9 (qN y9 (pv 1) qI) (pv 2)) (pv 3)) qI (j8 _)) (qE (qX (i:=3) uC.nd rfl (Or.inl rfl) qI)) qR) (qE (qS (v3 (qA (pv 1) (qA (pv 2) (qA (pv 3) qG)))))))))),?_⟩
try dsimp-beta-proj-iota-zeta-eta only[wishK,cxK]
refine⟨_,rfl,iI ⟨(by show(0:Int)<4;decide),iI ?_⟩⟩
try dsimp only
have c0:=uP c 4 (by decide)
obtain⟨B,eB⟩:∃n:Nat,3+c%4=(n:Int):=⟨(3+c%4).toNat,by lia⟩
rw[eB]
have B1:3≤B:=by lia
have B2:B≤6:=by lia
refine⟨_,rfl,iI ⟨⟨by decide,by decide⟩,_,rfl,iI (iI ⟨(by show(0:Int)<(B:Int)-2;lia),iI ?_⟩)⟩⟩
try dsimp only
have c1:=uP (c / 4) ((B:Int)-2) (by lia)
obtain⟨ie,ei⟩:∃n:Nat,1+c / 4%((B:Int)-2)=(n:Int):=⟨(1+c / 4%((B:Int)-2)).toNat,by lia⟩
rw[ei]
have i1:1≤ie:=by lia
have i2:ie≤B-2:=by lia
refine⟨_,rfl,iI ⟨⟨by decide,by decide⟩,iI ⟨(by show(0:Int)<4;decide),iI ?_⟩⟩⟩
try dsimp only
have c2:=uP (c / 16) 4 (by decide)
obtain⟨P0,eP⟩:∃n:Nat,1+c / 16%4=(n:Int):=⟨(1+c / 16%4).toNat,by lia⟩
rw[eP]
have p1:1≤P0:=by lia
have p2:P0≤4:=by lia
clear c0 c1 c2 eB ei eP
refine⟨λσ' H'=>∃P:Nat,σ'=[some (.int c),some (.int (B:Int)),some (.int (ie:Int)),some (.int (P:Int))]∧H=H'∧1≤P∧P≤4∧3≤(B-1-ie)*P,?_,?_⟩
·have e:(B:Int)-1-(ie:Int)=((B-1-ie:Nat):Int):=by lia
 refine⟨_,rfl,iI ⟨_,rfl,iI ⟨_,rfl,iI ⟨.inl ⟨by lia,by lia⟩,iI ⟨_,rfl,?_⟩⟩⟩⟩⟩;refine ite2 (λz=>?_) (λz=>?_)
 ·exact⟨3,rfl,rfl,by decide,by decide,by lia⟩
 have z:¬((B:Int)-1-(ie:Int))*(P0:Int)<3:=λy=>z (hW y);rw[e,←m8]at z;exact⟨P0,rfl,rfl,p1,p2,by lia⟩
rintro σ' _ ⟨P,rfl,rfl,q1,q2,cp⟩
exact⟨_,rfl,_,rfl,_,rfl,sz3,λtp H' _ s' e'=>k tp H' B ie P s' e' B1 B2 i1 i2 q1 q2 cp⟩)
structure Ils(B P:Nat)(la:List Int)(its:List (V×V))(n:Nat):Prop where
ll:la.length=B
ln:its.length≤n
lb:∀b:Nat,la.getD b (-1)= -1∨(0≤la.getD b (-1)∧la.getD b (-1)<(P:Int))
ct:((List.range B).filter λb=>decide (la.getD b (-1)≠-1)).length≤n
li:∃lim,limM (B:Int) its []=some lim∧∀b:Nat,b<B→valV lim (Sum.inl (b:Int))=if la.getD b (-1)= -1 then none else some (.int (la.getD b (-1)))
theorem Ils.start{B P:Nat}:Ils B P (List.replicate B (-1)) [] 0:=by(
have e:∀b:Nat,(List.replicate B (-1:Int)).getD b (-1)= -1:=λb=>by rw[hG,gW];split<;>rfl
refine⟨mR,kB _,λb=>.inl (e b),?_,[],rfl,λb _=>by rw[e,hU rfl];rfl⟩
rw[pB.mpr λb _=>by rw[e];decide]
exact kB _)
theorem Ils.add{B P n:Nat}{la:List Int}{its:List (V×V)}{b:Nat}{d:Int}(h:Ils B P la its n)(hb:b<B)(hn:la.getD b (-1)= -1)(d0:0≤d)(d1:d<(P:Int))(p4:P≤4):Ils B P (la.set b d) (its++[(.int (b:Int),.int d)]) (n+1):=by(
obtain⟨lim,l1,l2⟩:=h.li
have ll:=h.ll
have e:∀c:Nat,(la.set b d).getD c (-1)=if c=b then d else la.getD c (-1):=λc=>by
 rw[hG,mQ];by_cases z:b=c
 ·subst z;rw[hU rfl,hU (by lia),hU rfl];rfl
 rw[hV z,hV (λy=>z y.symm),←hG]
refine⟨by rw[m7];exact ll,by rw[kZ];exact dZ h.ln,λc=>?_,?_,putK lim (Sum.inl (b:Int)) (.int d),q5K l1 ⟨by lia,by lia⟩ (by rw[l2 b hb,hU hn]) (inBi d0 (by lia)),λc hc=>?_⟩
·rw[e];split
 ·exact .inr ⟨d0,d1⟩
 exact h.lb c
·have:=q67 (p:=λc=>decide ((la.set b d).getD c (-1)≠-1)) (p':=λc=>decide (la.getD c (-1)≠-1)) (b:=b) (L:=List.range B) (hW (by rw[e,hU rfl];lia)) (hZ (by rw[hn];decide)) wN (mZ.mpr hb) λc _ z=>by rw[e,hV z]
 rw[this];exact dZ h.ct
rw[q72,e,l2 c hc]
by_cases z:c=b
·subst z;rw[hU rfl,hU rfl,hV (by lia)]
rw[hV (λy=>z (by injection y with y;lia)),hV z])
theorem Ils.more{B P n m:Nat}{la:List Int}{its:List (V×V)}(h:Ils B P la its n)(hm:n≤m):Ils B P la its m:=⟨h.ll,kY h.ln hm,h.lb,kY h.ct hm,h.li⟩
noncomputable def pI(H:Hp)(v:V)(d:Int×Int):Prop:=∃p,v=.ref p∧H p=some (.tup [.int d.1,.int d.2])
noncomputable def vI(d:Int×Int):V×V:=(.int d.1,.int d.2)
theorem pI.v{H:Hp}:∀{xs:List V} {ds:List (Int×Int)},Paired (pI H) xs ds→Paired (vU H) xs (ds.map vI)
|_,_,.nil=>.nil
|_,_,.cons ⟨p,e,h⟩ r=>.cons ⟨p,e,h,.int _,.int _⟩ (pI.v r)
noncomputable def spIl:Sp:=λvs H Q _=>∃c mi x,∃la:List Int,∃W G lg,vs=[.int c,.ref mi]∧Mi H mi x la W G lg∧3≤x.B∧x.B≤6∧1≤x.P∧x.P≤4∧1≤x.ie∧x.ie≤6∧la=List.replicate x.B (-1)∧∀l xs its la' H',Mi H' mi x la' W G lg→Keep [x.la] H H'→H l=none→H' l=some (.lst xs)→Paired (vU H') xs its→Ils x.B x.P la' its x.ie→Q (.ref l) H'
theorem q7V(T:Txt K mg t)(S:Fns K t):S.oY.Ok0 P w mg base 1 spIl:=by(
refine S.oY.F.ok0 vQ λcdv A _ s H vs Q E hr h=>?_
obtain⟨c,mi,x,la,W,G,lg,rfl,h,B1,B2,P1,P2,i1,i2,rfl,k⟩:=h
have hu:=vM hr
have s9:(99:Nat)<sizeLine:=by decide
refine⟨_,(qC (qX (i:=2) vQ.nd rfl (Or.inl rfl) (jT qG)) (qC (vT mW rfl (q0U rfl T.iY (qA (qN yI (pv 0) (qN jM (qQ hu (pv 1) qL (λ_ _=>rfl)) qI)) qG)) (jQ (i:=3) vQ.nd rfl (Or.inl rfl)) (qC (qX (i:=4) vQ.nd rfl (Or.inl rfl) (qN yI (qN jM (qN yX (pv 0) qI) (qN yD (pv 3) (qN jM qI (qN yI (qN yX (pv 0) qI) qI)))) (qQ hu (pv 1) qL (λ_ _=>rfl)))) (qE (jA (qZ q00 (yL jS (qQ hu (pv 1) qL (λ_ _=>rfl)) (pv 4) (λ_ _=>rfl)) (qDM qAH qI) (j8 _)) (qC (q3J (qN yI (qN yX (pv 0) (qN jM (pv 3) qI)) (qQ hu (pv 1) qL (λ_ _=>rfl))) (q5O (qQ hu (pv 1) qL (λ_ _=>rfl)) (pv 4) uJ)) (qE (qY (q70 gY gT gU v6 (pv 2) (qA (v3 (qA (pv 4) (qA (yL jS (qQ hu (pv 1) qL (λ_ _=>rfl)) (pv 4) (λ_ _=>rfl)) qG))) qG zH))))) qR)))) (qE (qS (pv 2))))),?_⟩
try dsimp-beta-proj-iota-zeta-eta only[wishK,cxK]
refine⟨sz0,λl H1 n1 s1 h1=>?_⟩
have m1:=h.same s1
refine⟨_,rfl,_,rfl,mi,_,rfl,DGet.k (k:=Sum.inr "ill") m1.hm,_,_,rfl,rfl,iI ⟨(by show(0:Int)<(x.ie:Int)+1;lia),?_⟩⟩
have c0:=uP c ((x.ie:Int)+1) (by lia)
refine⟨_,rfl,by lia,by lia,?_⟩
have lne:∀{b:Addr} {o:HO},H b=some o→b≠l:=λe=>qF e n1
refine q1I (λi σ' H'=>∃y3 y4 ds xs la,σ'=[some (.int c),some (.ref mi),some (.ref l),y3,y4]∧Mi H' mi x la W G lg∧Keep [x.la] H H'∧H' l=some (.lst xs)∧Paired (pI H') xs ds∧Ils x.B x.P la (ds.map vI) i) ⟨_,_,[],[],_,rfl,m1,Keep.same s1,h1,.nil,Ils.start⟩ (λi σ' H' D' nxt hi hp=>?_) (λσ' H' hp=>?_)
·obtain⟨y3,y4,ds,xs,la,rfl,mm,kk,hl,pr,il⟩:=hp;rw[cD];have ci:=il.ll;have hi6:i≤6:=by have:i<(c%((x.ie:Int)+1)).toNat:=hi;lia
 refine⟨_,rfl,iI ⟨⟨by decide,by decide⟩,_,rfl,_,rfl,iI ⟨⟨by decide,by decide⟩,iI ⟨(by show(0:Int)<2;decide),iI (iI ⟨.inl ⟨by lia,by lia⟩,iI ⟨_,rfl,mi,_,rfl,DGet.k (k:=Sum.inr "blocks") mm.hm,_,_,rfl,rfl,(by show(0:Int)<(x.B:Int);lia),?_⟩⟩)⟩⟩⟩⟩;try dsimp only
 have mb:=uP (c / 8+(i:Int)*(1+c / 64%2)) (x.B:Int) (by lia);obtain⟨b,eb⟩:∃n:Nat,(c / 8+(i:Int)*(1+c / 64%2))%(x.B:Int)=(n:Int):=⟨((c / 8+(i:Int)*(1+c / 64%2))%(x.B:Int)).toNat,by lia⟩;rw[eb];have hb:b<x.B:=by lia
 clear mb eb;have gd:la.getD ((b:Int)).toNat 0=la.getD b (-1):=by rw[kR,hG,hG,kE (by lia)];rfl
 refine⟨_,rfl,mi,_,rfl,DGet.k (k:=Sum.inr "lasts") mm.hm,_,rfl,iL (k:=(b:Int)) (v:=_) (SqL.of mm.hl) (getI (by lia) (by lia)) ⟨_,rfl,rfl,_,rfl,?_⟩⟩;rw[vV,gd];by_cases z:la.getD b (-1)= -1
 ·rw[show decide (la.getD b (-1)= -1)=true from hW z];refine iteT ?_;refine⟨_,rfl,_,rfl,iI (iI ⟨⟨by lia,by lia⟩,_,rfl,mi,_,rfl,DGet.k (k:=Sum.inr "pages") mm.hm,_,_,rfl,rfl,(by show(0:Int)<(x.P:Int);lia),?_⟩)⟩;try dsimp only
  have md:=uP (c / ((i:Int)+16)) (x.P:Int) (by lia);generalize c / ((i:Int)+16)%(x.P:Int)=d at md ⊢;refine⟨_,rfl,mi,_,rfl,DGet.k (k:=Sum.inr "lasts") mm.hm,_,rfl,x.la,_,(b:Int),b,rfl,rfl,mm.hl,by rw[h8];exact ixOk (by lia) (by lia),?_⟩;rw[←pA];have mm2:=mm.setLa (la.set b d);have k2:=kk.trans (Keep.upd (F:=[x.la]) (o:=.lst ((la.set b d).map V.int)) mm.hl (λ_ z=>by cases z) (by simp));have ll:l≠x.la:=λy=>lne h.hl y.symm;have hl2:(upd H' x.la (.lst ((la.set b d).map V.int))) l=some (.lst xs):=by rw[qD ll];exact hl
  have kt:∀p us,H' p=some (.tup us)→(upd H' x.la (.lst ((la.set b d).map V.int))) p=some (.tup us):=λp us e=>by rw[qD (jN e mm.hl (by intro z;cases z))];exact e
  generalize upd H' x.la (.lst ((la.set b d).map V.int))=H2 at mm2 k2 hl2 kt ⊢;have gd2:(la.set b d).getD ((b:Int)).toNat 0=d:=by rw[kR,hG,mQ,hU rfl,hU (by lia)];rfl
  refine⟨_,rfl,.inl ⟨rfl,_,SqL.of hl2⟩,_,rfl,_,rfl,mi,_,rfl,DGet.k (k:=Sum.inr "lasts") mm2.hm,_,rfl,iL (k:=(b:Int)) (v:=_) (SqL.of mm2.hl) (getI (by lia) (by rw[m7];lia)) ⟨sz2,λtp H3 n3 s3 e3=>?_⟩⟩;rw[gd2]at e3;have hl3:=s3 _ _ hl2;refine⟨l,xs,_,rfl,rfl,hl3,?_,?_⟩
  ·rw[pr.len];have:=il.ln;rw[h8]at this;lia
  have kl:Keep [l] H3 (upd H3 l (.lst (xs++[.ref tp]))):=Keep.upd hl3 (λ_ z=>by cases z) (by simp);have mn:∀y∈[mi,x.la,x.ls,x.gn,x.lg],y∉[l]:=λy hy z=>by
   obtain⟨rs,er,_⟩:=h.hr;rw[kN.mp z]at hy;simp only[kG,mC,gS]at hy;rcases hy with hy|hy|hy|hy|hy
   ·exact lne h.hm hy.symm
   ·exact lne h.hl hy.symm
   ·exact lne h.hw hy.symm
   ·exact lne h.hg hy.symm
   exact lne er hy.symm
  refine nxt _ _ ⟨_,_,ds++[((b:Int),d)],_,la.set b d,rfl,(mm2.same s3).keep kl mn,⟨λb' o n e=>?_,λb' us e=>kl.tp _ _ (s3 _ _ (k2.tp _ _ e))⟩,qJ,L2.Paired.snoc (Paired.mapP pr λv d' ⟨p,e1,e2⟩=>⟨p,e1,kl.tp _ _ (s3 _ _ (kt _ _ e2))⟩) ⟨tp,rfl,kl.tp _ _ e3⟩,?_⟩
  ·exact kl.k _ _ (by simpa using lne e) (s3 _ _ (k2.k _ _ n e))
  rw[mI];exact il.add hb z md.1 md.2 P2
 rw[show decide (la.getD b (-1)= -1)=false from hZ z];refine iteF ?_;exact nxt _ _ ⟨_,_,ds,xs,la,rfl,mm,kk,hl,pr,il.more (by lia)⟩
obtain⟨y3,y4,ds,xs,la,rfl,mm,kk,hl,pr,il⟩:=hp
exact⟨_,rfl,k l xs _ la H' mm kk n1 hl (pI.v pr) (il.more (by lia))⟩)
noncomputable def gF(G:Mp)(b:Nat):Bool:=decide ((b:Int)∈G.map (·.1))
noncomputable def lF(la:List Int)(b:Nat):Int:=la.getD b (-1)
noncomputable def spNx:Sp:=λvs H Q _=>∃mi x,∃la:List Int,∃W G lg k,vs=[.ref mi]∧Mi H mi x la W G lg∧la.length=x.B∧x.B≤6∧x.P≤4∧Wp x.B x.P x.ie (lF la) (gF G) x.c x.a k∧k<(x.B-1-x.ie)*x.P∧lg.length≤10000∧∀F c' a' H',Go x.P (lF la) (gF G) x.c x.a F c' a'→Keep [mi,x.lg] H H'→Mi H' mi { x with c:=c',a:=a'+1,st:=x.st+1,fl:=x.fl+F.length } la W G (lg++flR x.P F++[(("put":Str),((c'*x.P+a':Nat):Int),true)])→c'<x.B→a'<x.P→Q (.int ((c'*x.P+a':Nat):Int)) H'
theorem q7W(T:Txt K mg t)(S:Fns K t):S.oW.Ok0 P w mg base 1 spNx:=by(
refine S.oW.F.ok0 q2X λcdv A _ s H vs Q E hr h=>?_
obtain⟨mi,x,la,W,G,lg,k,rfl,h,ll,B2,P2,wp,hk,lgn,q⟩:=h
have hu:=vM hr
have s9:(999999:Nat)<sizeLine:=by decide
have p1:=wp.p1
refine⟨_,(q3E (jA (qZ q00 (qQ hu (pv 0) qL (λ_ _=>rfl)) (qQ hu (pv 0) qL (λ_ _=>rfl)) (j8 _)) (qC (jW hu (pv 0) qL (qN jM (qQ hu (pv 0) qL (λ_ _=>rfl)) qI) rfl) (qE (jW hu (pv 0) qL qI rfl))) qR) (qC (q3K mW (PW.pt (zZ (q2H (q3U hu (qQ hu (pv 0) qL (λ_ _=>rfl)) (qQ hu (pv 0) qL (λ_ _=>rfl)))) (zK (qZ q00 (yL jS (qQ hu (pv 0) qL (λ_ _=>rfl)) (qQ hu (pv 0) qL (λ_ _=>rfl)) (λ_ _=>rfl)) (qQ hu (pv 0) qL (λ_ _=>rfl)) (j8 _))))) (qC (jA (q2H (q5A hu (qQ hu (pv 0) qL (λ_ _=>rfl)) (qQ hu (pv 0) qL (λ_ _=>rfl)))) (qC (qY (q70 gY gT gU v6 (qQ hu (pv 0) qL (λ_ _=>rfl)) (qA (v3 (qA qL (qA (qN jM (qN yD (qQ hu (pv 0) qL (λ_ _=>rfl)) (qQ hu (pv 0) qL (λ_ _=>rfl))) (qQ hu (pv 0) qL (λ_ _=>rfl))) (qA uD qG)))) qG zH))) (qE (jW hu (pv 0) qL (qN jM (qQ hu (pv 0) qL (λ_ _=>rfl)) qI) rfl))) qR) (qC (jW hu (pv 0) qL (qN jM (qQ hu (pv 0) qL (λ_ _=>rfl)) qI) rfl) (qE (jW hu (pv 0) qL qI rfl))))) (qC (qX (i:=1) q2X.nd rfl (Or.inl rfl) (qN jM (qN yD (qQ hu (pv 0) qL (λ_ _=>rfl)) (qQ hu (pv 0) qL (λ_ _=>rfl))) (qQ hu (pv 0) qL (λ_ _=>rfl)))) (qC (qY (q70 gY gT gU v6 (qQ hu (pv 0) qL (λ_ _=>rfl)) (qA (v3 (qA qL (qA (pv 1) (qA uD qG)))) qG zH))) (qC (jW hu (pv 0) qL (qN jM (qQ hu (pv 0) qL (λ_ _=>rfl)) qI) rfl) (qC (jW hu (pv 0) qL (qN jM (qQ hu (pv 0) qL (λ_ _=>rfl)) qI) rfl) (qE (qS (pv 1))))))))),?_⟩
try dsimp-beta-proj-iota-zeta-eta only[wishK,cxK]
refine⟨λσ' H'=>∃c a,σ'=[some (.ref mi),none]∧Mi H' mi { x with c:=c,a:=a } la W G lg∧Wp x.B x.P x.ie (lF la) (gF G) c a k∧a<x.P∧(∀F c' a',Go x.P (lF la) (gF G) c a F c' a'→Go x.P (lF la) (gF G) x.c x.a F c' a')∧Keep [mi,x.lg] H H',?_,?_⟩
·refine⟨_,rfl,mi,_,rfl,DGet.k (k:=Sum.inr "at") h.hm,_,rfl,mi,_,rfl,DGet.k (k:=Sum.inr "pages") h.hm,rfl,_,rfl,?_⟩;rw[vV];by_cases z:x.a=x.P
 ·rw[show decide ((x.a:Int)=(x.P:Int))=true from hW (by rw[z])];refine iteT ?_;refine⟨_,rfl,mi,_,rfl,DGet.k (k:=Sum.inr "block") h.hm,_,_,rfl,rfl,_,rfl,mi,_,rfl,DPut.k (k:=Sum.inr "block") h.hm (by show 13<sizeLine;lia),?_⟩;have m1:=h.pc (v:=.int ((x.c:Int)+1)) (n:=x.c+1) rfl;have k1:=h.kp (o:=.dK (putK (mD x) (.inr "block") (.int ((x.c:Int)+1)))) (F:=[mi,x.lg]) (by simp);generalize upd H mi (.dK (putK (mD x) (.inr "block") (.int ((x.c:Int)+1))))=H1 at m1 k1 ⊢;refine⟨_,rfl,mi,_,rfl,DPut.k (k:=Sum.inr "at") m1.hm (by show 13<sizeLine;lia),?_⟩;rw[z]at wp;exact⟨x.c+1,0,rfl,m1.pa rfl,wp.full,by lia,λF c' a' g=>by rw[z];exact .full g,k1.trans (m1.kp (by simp))⟩
 rw[show decide ((x.a:Int)=(x.P:Int))=false from hZ (λy=>z (by lia))];exact iteF ⟨x.c,x.a,rfl,h,wp,by have:=wp.aP;lia,λ_ _ _ g=>g,Keep.refl⟩
rintro σ' H1 ⟨c,a,rfl,m1,w1,a1,g1,k1⟩
refine⟨λn σ' H'=>∃c a F0,σ'=[some (.ref mi),none]∧n=x.B-c∧Mi H' mi { x with c:=c,a:=a,fl:=x.fl+F0.length } la W G (lg++flR x.P F0)∧Wp x.B x.P x.ie (lF la) (gF G) c a k∧a<x.P∧(∀F c' a',Go x.P (lF la) (gF G) c a F c' a'→Go x.P (lF la) (gF G) x.c x.a (F0++F) c' a')∧F0.length≤c∧Keep [mi,x.lg] H H',⟨_,c,a,[],rfl,rfl,by simpa[flR]using m1,w1,a1,g1,mO _,k1⟩,?_⟩
rintro n _ H2 ⟨c,a,F0,rfl,rfl,m2,w2,a2,g2,f2,k2⟩
have hc:=w2.lt hk
have dg:=DGet.k (k:=Sum.inl (c:Int)) m2.hg
refine⟨_,rfl,mi,_,rfl,DGet.k (k:=Sum.inr "block") m2.hm,_,rfl,mi,_,rfl,DGet.k (k:=Sum.inr "gone") m2.hm,x.gn,_,rfl,dg,_,rfl,?_⟩
rw[q28]
cases hg:gF G c with
|true=>rw[show decide ((c:Int)∈G.map (·.1))=true from hg];refine iteT (iteT ⟨_,λσ' H' z=>z,?_⟩);refine⟨_,rfl,mi,_,rfl,DGet.k (k:=Sum.inr "block") m2.hm,_,rfl,mi,_,rfl,DGet.k (k:=Sum.inr "gone") m2.hm,x.gn,_,rfl,dg,_,rfl,?_⟩;rw[q28,show decide ((c:Int)∈G.map (·.1))=true from hg];refine iteF ?_;have a0:=w2.gone hg;have w3:=w2.next (by rw[a0];exact w2.gl c hg);have m3:=m2;have k3:=k2;generalize H2=H3 at m3 k3 ⊢;refine⟨_,rfl,mi,_,rfl,DGet.k (k:=Sum.inr "block") m3.hm,_,_,rfl,rfl,_,rfl,mi,_,rfl,DPut.k (k:=Sum.inr "block") m3.hm (by show 13<sizeLine;lia),?_⟩;have m4:=m3.pc (v:=.int ((c:Int)+1)) (n:=c+1) rfl;have k4:=k3.trans (m3.kp (o:=.dK (putK (mD { x with c:=c,a:=a,fl:=x.fl+F0.length }) (.inr "block") (.int ((c:Int)+1)))) (F:=[mi,x.lg]) (by simp));generalize upd H3 mi (.dK (putK (mD { x with c:=c,a:=a,fl:=x.fl+F0.length }) (.inr "block") (.int ((c:Int)+1))))=H4 at m4 k4 ⊢;refine⟨_,rfl,mi,_,rfl,DPut.k (k:=Sum.inr "at") m4.hm (by show 13<sizeLine;lia),?_⟩;exact⟨x.B-(c+1),by lia,c+1,0,F0,rfl,rfl,m4.pa rfl,w3,by lia,λF c' a' g=>g2 F c' a' (by rw[a0];exact .gone hg g),by lia,k4.trans (m4.kp (by simp))⟩
|false=>
 rw[show decide ((c:Int)∈G.map (·.1))=false from hg];refine iteF ?_;have gd:la.getD ((c:Int)).toNat 0=lF la c:=by unfold lF;rw[kR,hG,hG,kE (by lia)];rfl
 refine⟨_,rfl,mi,_,rfl,DGet.k (k:=Sum.inr "lasts") m2.hm,_,rfl,mi,_,rfl,DGet.k (k:=Sum.inr "block") m2.hm,iL (k:=(c:Int)) (v:=_) (SqL.of m2.hl) (getI (by lia) (by show(c:Int)<(la.length:Int);lia)) ⟨_,rfl,mi,_,rfl,DGet.k (k:=Sum.inr "at") m2.hm,rfl,_,rfl,?_⟩⟩;rw[vV,gd];by_cases z:lF la c=(a:Int)
 ·rw[show decide (lF la c=(a:Int))=true from hW z];refine iteT ⟨_,λσ' H' z=>z,?_⟩;refine⟨_,rfl,mi,_,rfl,DGet.k (k:=Sum.inr "block") m2.hm,_,rfl,mi,_,rfl,DGet.k (k:=Sum.inr "gone") m2.hm,x.gn,_,rfl,dg,_,rfl,?_⟩;rw[q28,show decide ((c:Int)∈G.map (·.1))=false from hg];refine iteT ?_;obtain⟨rs,er,pr⟩:=m2.hr;refine⟨_,rfl,mi,_,rfl,DGet.k (k:=Sum.inr "log") m2.hm,.inl ⟨rfl,_,SqL.of er⟩,_,rfl,mi,_,rfl,DGet.k (k:=Sum.inr "block") m2.hm,_,rfl,mi,_,rfl,DGet.k (k:=Sum.inr "pages") m2.hm,_,_,rfl,rfl,.inl ⟨by lia,by lia⟩,_,rfl,mi,_,rfl,DGet.k (k:=Sum.inr "at") m2.hm,_,_,rfl,rfl,sz3,λtp Ha na sa ea=>?_⟩;have ma:=m2.same sa;have era:=sa _ _ er;refine⟨x.lg,rs,_,rfl,rfl,era,?_,?_⟩
  ·rw[pr.len,kZ];unfold flR;rw[h8];lia
  have mb:=ma.addR (d:=(("put":Str),(c:Int)*(x.P:Int)+(a:Int),false)) era (Paired.mapP pr λv d ⟨p,e,h⟩=>⟨p,e,sa _ _ h⟩) ea;have kb:=(k2.trans (Keep.same sa)).trans (Keep.upd (F:=[mi,x.lg]) (o:=.lst (rs++[.ref tp])) era (λ_ z=>by cases z) (by simp));generalize upd Ha x.lg (.lst (rs++[.ref tp]))=Hb at mb kb ⊢;refine⟨_,rfl,mi,_,rfl,DGet.k (k:=Sum.inr "failures") mb.hm,_,_,rfl,rfl,_,rfl,mi,_,rfl,DPut.k (k:=Sum.inr "failures") mb.hm (by show 13<sizeLine;lia),?_⟩;have ef:lg++flR x.P F0++[(("put":Str),(c:Int)*(x.P:Int)+(a:Int),false)]=lg++flR x.P (F0++[(c,a)]):=by unfold flR;rw[mI,wG];congr 2
  rw[ef]at mb;have m3:=mb.pf (v:=.int (((x.fl+F0.length:Nat):Int)+1)) (n:=x.fl+(F0++[(c,a)]).length) (by rw[kZ];rfl);have k3:=kb.trans (mb.kp (o:=.dK (putK (mD { x with c:=c,a:=a,fl:=x.fl+F0.length }) (.inr "failures") (.int (((x.fl+F0.length:Nat):Int)+1)))) (F:=[mi,x.lg]) (by simp));generalize upd Hb mi (.dK (putK (mD { x with c:=c,a:=a,fl:=x.fl+F0.length }) (.inr "failures") (.int (((x.fl+F0.length:Nat):Int)+1))))=H3 at m3 k3 ⊢;have w3:=w2.next z;refine⟨_,rfl,mi,_,rfl,DGet.k (k:=Sum.inr "block") m3.hm,_,_,rfl,rfl,_,rfl,mi,_,rfl,DPut.k (k:=Sum.inr "block") m3.hm (by show 13<sizeLine;lia),?_⟩;have m4:=m3.pc (v:=.int ((c:Int)+1)) (n:=c+1) rfl;have k4:=k3.trans (m3.kp (o:=.dK (putK (mD { x with c:=c,a:=a,fl:=x.fl+(F0++[(c,a)]).length }) (.inr "block") (.int ((c:Int)+1)))) (F:=[mi,x.lg]) (by simp));generalize upd H3 mi (.dK (putK (mD { x with c:=c,a:=a,fl:=x.fl+(F0++[(c,a)]).length }) (.inr "block") (.int ((c:Int)+1))))=H4 at m4 k4 ⊢;refine⟨_,rfl,mi,_,rfl,DPut.k (k:=Sum.inr "at") m4.hm (by show 13<sizeLine;lia),?_⟩;exact⟨x.B-(c+1),by lia,c+1,0,(F0++[(c,a)]),rfl,rfl,m4.pa rfl,w3,by lia,λF c' a' g=>by rw[wG];exact g2 _ c' a' (.fail hg z g),by rw[kZ];exact dZ f2,k4.trans (m4.kp (by simp))⟩
 rw[show decide (lF la c=(a:Int))=false from hZ z];refine iteF ?_;have go:=g2 [] c a (.stop a2 hg z);rw[wR]at go;refine⟨_,rfl,mi,_,rfl,DGet.k (k:=Sum.inr "block") m2.hm,_,rfl,mi,_,rfl,DGet.k (k:=Sum.inr "pages") m2.hm,_,_,rfl,rfl,.inl ⟨by lia,by lia⟩,_,rfl,mi,_,rfl,DGet.k (k:=Sum.inr "at") m2.hm,_,_,rfl,rfl,?_⟩;have ep:(c:Int)*(x.P:Int)+(a:Int)=((c*x.P+a:Nat):Int):=by rw[wT,m8]
 try dsimp only
 rw[ep];obtain⟨rs,er,pr⟩:=m2.hr;refine⟨_,rfl,mi,_,rfl,DGet.k (k:=Sum.inr "log") m2.hm,.inl ⟨rfl,_,SqL.of er⟩,_,rfl,sz3,λtp Ha na sa ea=>?_⟩;have ma:=m2.same sa;have era:=sa _ _ er;refine⟨x.lg,rs,_,rfl,rfl,era,?_,?_⟩
 ·rw[pr.len,kZ];unfold flR;rw[h8];lia
 have mb:=ma.addR (d:=(("put":Str),((c*x.P+a:Nat):Int),true)) era (Paired.mapP pr λv d ⟨p,e,h⟩=>⟨p,e,sa _ _ h⟩) ea;have kb:=(k2.trans (Keep.same sa)).trans (Keep.upd (F:=[mi,x.lg]) (o:=.lst (rs++[.ref tp])) era (λ_ z=>by cases z) (by simp));generalize upd Ha x.lg (.lst (rs++[.ref tp]))=Hb at mb kb ⊢;refine⟨_,rfl,mi,_,rfl,DGet.k (k:=Sum.inr "at") mb.hm,_,_,rfl,rfl,_,rfl,mi,_,rfl,DPut.k (k:=Sum.inr "at") mb.hm (by show 13<sizeLine;lia),?_⟩;have mc:=mb.pa (v:=.int ((a:Int)+1)) (n:=a+1) rfl;have kc:=kb.trans (mb.kp (o:=.dK (putK (mD { x with c:=c,a:=a,fl:=x.fl+F0.length }) (.inr "at") (.int ((a:Int)+1)))) (F:=[mi,x.lg]) (by simp));generalize upd Hb mi (.dK (putK (mD { x with c:=c,a:=a,fl:=x.fl+F0.length }) (.inr "at") (.int ((a:Int)+1))))=Hc at mc kc ⊢;refine⟨_,rfl,mi,_,rfl,DGet.k (k:=Sum.inr "stamp") mc.hm,_,_,rfl,rfl,_,rfl,mi,_,rfl,DPut.k (k:=Sum.inr "stamp") mc.hm (by show 13<sizeLine;lia),?_⟩;exact⟨_,rfl,q F0 c a _ go (kc.trans (mc.kp (by simp))) (mc.ps rfl) hc a2⟩)
structure Jw(t:Adr)(H:Hp)(c:Addr)(a:CA)(m:CM)(mi:Addr)(x:Mn)(la:List Int)(W G:Mp)(q:QM):Prop where
ch:ChipAt t.C_Chip H c a m
ok:m.Ok
mm:Mi H mi x la W G m.rc
w:Wc x.B x.P x.ie (lF la) (gF G) 0 0 0 m q
fl:flN m q=(x.fl:Int)
dj:∀z∈[mi,x.la,x.ls,x.gn,x.lg],z∉a.li::foot c a
noncomputable def spWd(t:Adr):Sp:=λvs H Q _=>∃c a m mi x,∃la:List Int,∃W q,vs=[.ref c,.ref mi]∧Jw t H c a m mi x la W [] q∧la.length=x.B∧x.B≤6∧x.P≤4∧m.rc=[]∧x.hf<2∧0≤x.hf∧∀m' G fl H',Jw t H' c a m' mi { x with fl:=fl } la W G q→m'.rc.length≤6→Keep ([mi,x.gn,x.lg]++foot c a) H H'→Q (.bl true) H'
theorem q6R(T:Txt K mg t)(S:Fns K t):S.iW.Ok0 P w mg base 5 (spWd t):=by(
refine S.iW.F.ok0 v5 λcdv A _ s H vs Q E hr h=>?_
obtain⟨c,a,m,mi,x,la,W,q,rfl,j,ll,B2,P2,rc0,h1,h0,k⟩:=h
have hu:=vM hr
refine⟨_,(qC (vT mW rfl (q0U rfl T.iY (qA (qQ hu (pv 1) qL (λ_ _=>rfl)) qG)) (jQ (i:=2) v5.nd rfl (Or.inl rfl)) (qE (jA (PW.pt (q7Z (qZ q00 (yL jS (qQ hu (pv 1) qL (λ_ _=>rfl)) (pv 2) (λ_ _=>rfl)) qI (j8 _)) (q5N (qZ q00 (qN yI (pv 2) qI) (qQ hu (pv 1) qL (λ_ _=>rfl)) (j8 _))))) (qC (qX (i:=3) v5.nd rfl (Or.inl rfl) qL) (qC (qB2 (λpins XE ES tk1 po1=>(qE (qY (q04 tk1 (pv 0) T.aD T.t9 (q6H T S).mono hr S.i9.b .nil (qA (pv 2) qG))))) (qCI (λea=>(yW rfl T.eD rfl (v:=.ref t.C_BlockFailed))) rfl (λea=>(qE (qX (i:=3) v5.nd rfl (Or.inl rfl) qL))) (qB1 q2T))) (qC (jA (qZ q1Z (pv 3) qL (j8 _)) (qE (qS uD)) qR) (qC (jW hu (qQ hu (pv 1) qL (λ_ _=>rfl)) (pv 2) uD rfl) (qC (jW hu (pv 1) qL (qN jM (qQ hu (pv 1) qL (λ_ _=>rfl)) qI) rfl) (qE (qY (q70 gY gT gU v6 (qQ hu (pv 1) qL (λ_ _=>rfl)) (qA (v3 (qA qL (qA (pv 2) (qA uD qG)))) qG zH))))))))) qR))) (qE (qS uD))),?_⟩
try dsimp-beta-proj-iota-zeta-eta only[wishK,cxK]
refine⟨_,rfl,mi,_,rfl,DGet.k (k:=Sum.inr "blocks") j.mm.hm,_,rfl,by lia,by lia,?_⟩
refine q1I (λi σ' H'=>∃y2 y3 m' G fl,σ'=[some (.ref c),some (.ref mi),y2,y3]∧Jw t H' c a m' mi { x with fl:=fl } la W G q∧m'.rc.length≤i∧G.length≤i∧(∀b:Nat,i≤b→gF G b=false)∧Keep ([mi,x.gn,x.lg]++foot c a) H H') ⟨_,_,m,[],x.fl,rfl,j,by rw[rc0];exact kB _,kB _,λ_ _=>rfl,Keep.refl⟩ (λi σ' H' D' nxt hi hp=>?_) (λσ' H' hp=>?_)
·obtain⟨y2,y3,m',G,fl,rfl,jj,rl,gl,gn,kk⟩:=hp;rw[cD];have hi:i<x.B:=by have:i<((x.B:Int)).toNat:=hi;lia
 have ci:=jj.mm.hl;have gd:la.getD ((i:Int)).toNat 0=lF la i:=by unfold lF;rw[kR,hG,hG,kE (by lia)];rfl
 have no:∀y2 y3,D'.nx [some (.ref c),some (.ref mi),y2,y3] H':=λy2 y3=>nxt _ _ ⟨y2,y3,m',G,fl,rfl,jj,by lia,by lia,λb hb=>gn b (by lia),kk⟩;refine⟨_,rfl,mi,_,rfl,DGet.k (k:=Sum.inr "lasts") jj.mm.hm,_,rfl,iL (k:=(i:Int)) (v:=_) (SqL.of jj.mm.hl) (getI (by lia) (by lia)) ⟨rfl,_,rfl,?_⟩⟩;rw[vV,gd];by_cases z:lF la i=0
 ·rw[show decide (lF la i=0)=true from hW z];refine iteT ?_;refine⟨_,rfl,iI ⟨(by show(0:Int)<2;decide),_,rfl,mi,_,rfl,DGet.k (k:=Sum.inr "half") jj.mm.hm,rfl,_,rfl,?_⟩⟩;rw[vV];by_cases y:(i:Int)%2=x.hf
  ·rw[show decide ((i:Int)%2=x.hf)=true from hW y];refine iteT ?_;have gi:=gn i (kB _);have bl:=jj.w.bl;refine(iV rfl (iM jj.ch.ins rfl ⟨_,rfl,c,a,m',i,rfl,jj.ch,jj.ok,jj.w.lf,by lia,by lia,by rw[jj.w.br i hi,gi];simp,jj.w.spent0 hi gi z,λH1 hc1 k1 dx ea hea=>⟨_,T.aZ,iteT ?_⟩⟩));have mm1:=jj.mm.keep k1 λz hz w=>jj.dj z hz (h9 _ w);refine⟨_,rfl,rfl,_,rfl,iteF ?_⟩;have gni:(i:Int)∉G.map (·.1):=of_decide_eq_false gi;have gG:G.length≤6:=by lia
   refine⟨_,rfl,mi,_,rfl,DGet.k (k:=Sum.inr "gone") mm1.hm,_,rfl,x.gn,_,rfl,DPut.k (k:=Sum.inl (i:Int)) mm1.hg (by rw[qFF];exact rB gG (by decide)),?_⟩;rw[qDC (p:=0),show putW G (i:Int) 0=G++[((i:Int),0)]from hV (λz=>gni (by obtain⟨q,h1,h2⟩:=rV.mp z;exact mH.mpr ⟨q,h1,mK h2⟩))];have mm2:=mm1.setG (G++[((i:Int),0)]);have k2:Keep ([mi,x.gn,x.lg]++foot c a) H (upd H1 x.gn (.dK (dB (G++[((i:Int),0)])))):=(kk.trans (k1.mono (by intro b hb;simp[hb]))).trans (Keep.upd mm1.hg (λ_ z=>by cases z) (by simp));have c2:ChipAt t.C_Chip (upd H1 x.gn (.dK (dB (G++[((i:Int),0)])))) c a (m'.deed "wipe" (i:Int) (i:Int) true):=hc1.keep (Keep.upd (F:=[x.gn]) mm1.hg (λ_ z=>by cases z) (by simp)) λb hb z=>jj.dj x.gn (by simp) (by rw[←kN.mp z];exact hb);generalize upd H1 x.gn (.dK (dB (G++[((i:Int),0)])))=H2 at mm2 k2 c2 ⊢;refine⟨_,rfl,mi,_,rfl,DGet.k (k:=Sum.inr "failures") mm2.hm,_,_,rfl,rfl,_,rfl,mi,_,rfl,DPut.k (k:=Sum.inr "failures") mm2.hm (by show 13<sizeLine;decide),?_⟩;have mm3:=mm2.pf (v:=.int ((fl:Int)+1)) (n:=fl+1) rfl;have k3:=k2.trans (mm2.kp (o:=.dK (putK (mD { x with fl:=fl }) (.inr "failures") (.int ((fl:Int)+1)))) (F:=[mi,x.gn,x.lg]++foot c a) (by simp));have c3:ChipAt t.C_Chip (upd H2 mi (.dK (putK (mD { x with fl:=fl }) (.inr "failures") (.int ((fl:Int)+1))))) c a (m'.deed "wipe" (i:Int) (i:Int) true):=c2.keep (mm2.kp (F:=[mi]) (by simp)) λb hb z=>jj.dj mi (by simp) (by rw[←kN.mp z];exact hb);generalize upd H2 mi (.dK (putK (mD { x with fl:=fl }) (.inr "failures") (.int ((fl:Int)+1))))=H3 at mm3 k3 c3 ⊢;obtain⟨rs,er,pr⟩:=mm3.hr;refine⟨_,rfl,mi,_,rfl,DGet.k (k:=Sum.inr "log") mm3.hm,.inl ⟨rfl,_,SqL.of er⟩,_,rfl,sz3,λtp Ha na sa ea=>?_⟩;have ma:=mm3.same sa;have era:=sa _ _ er;refine⟨x.lg,rs,_,rfl,rfl,era,?_,?_⟩
   ·rw[pr.len];have:(99:Nat)<sizeLine:=by decide
    lia
   have mb:=ma.addR (d:=(("wipe":Str),(i:Int),false)) era (Paired.mapP pr λv d ⟨p,e,h⟩=>⟨p,e,sa _ _ h⟩) ea;have kb:Keep ([mi,x.gn,x.lg]++foot c a) H _:=(k3.trans (Keep.same sa)).trans (Keep.upd (o:=.lst (rs++[.ref tp])) era (λ_ z=>by cases z) (by simp));have cb:ChipAt t.C_Chip (upd Ha x.lg (.lst (rs++[.ref tp]))) c a (m'.deed "wipe" (i:Int) (i:Int) true):=(c3.same sa).keep (Keep.upd (F:=[x.lg]) era (λ_ z=>by cases z) (by simp)) λb hb z=>jj.dj x.lg (by simp) (by rw[←kN.mp z];exact hb);have gE:∀b,gF (G++[((i:Int),0)]) b=(gF G b||decide (b=i)):=λb=>by unfold gF;rw[mI,←Bool.decide_or];refine dF.mpr ?_;rw[mS];refine or_congr Iff.rfl ?_;simp;lia
   refine nxt _ _ ⟨_,_,_,_,fl+1,rfl,⟨cb,jj.ok.deed (by lia),mb,by rw[show gF (G++[((i:Int),0)])=λb=>gF G b||decide (b=i)from funext gE];exact jj.w.wipe jj.ok hi gi z,?_,jj.dj⟩,?_,?_,λb hb=>?_,kb⟩
   ·rw[q7O (by rw[jj.w.qB];exact hi) (by rw[jj.w.br i hi,gi];simp) (by have:=jj.ok.nbr;rw[jj.w.qB];lia),jj.fl];rfl
   ·show(m'.rc++[_]).length≤_;rw[kZ];exact dZ rl
   ·rw[kZ];exact dZ gl
   rw[gE,gn b (by lia),hZ (by lia)];rfl
  rw[show decide ((i:Int)%2=x.hf)=false from hZ y];exact iteF (no _ _)
 rw[show decide (lF la i=0)=false from hZ z];exact iteF (iteF (no _ _))
obtain⟨y2,y3,m',G,fl,rfl,jj,rl,gl,gn,kk⟩:=hp
exact k m' G fl H' jj (by lia) kk)
noncomputable def inW(W:Mp)(k:Nat):Bool:=decide ((k:Int)∈W.map (·.1))
noncomputable def spBt:Sp:=λvs H Q _=>∃mi x,∃la:List Int,∃W G lg,vs=[.ref mi]∧Mi H mi x la W G lg∧(W.map (·.1)).Nodup∧Q (.int ((sumB (inW W) 64:Nat):Int)) H
theorem q7X(T:Txt K mg t)(S:Fns K t):S.oN.Ok0 P w mg base 1 spBt:=by(
refine S.oN.F.ok0 yV λcdv A _ s H vs Q E hr h=>?_
obtain⟨mi,x,la,W,G,lg,rfl,h,nd,q⟩:=h
have hm:=h.hm
have hl:=h.hw
have hu:=vM hr
refine⟨_,(qC (qX (i:=1) yV.nd rfl (Or.inl rfl) qI) (qC (qX (i:=2) yV.nd rfl (Or.inl rfl) qI) (qC (vT mW rfl (q0U rfl T.iY (qA qI qG)) (jQ (i:=3) yV.nd rfl (Or.inl rfl)) (qC (jA (q2H (q3U hu (pv 3) (qQ hu (pv 0) qL (λ_ _=>rfl)))) (qE (qX (i:=2) yV.nd rfl (Or.inl rfl) (qN jM (pv 2) (pv 1)))) qR) (qE (qX (i:=1) yV.nd rfl (Or.inl rfl) (qN yD (pv 1) qI))))) (qE (qS (pv 2)))))),?_⟩
try dsimp-beta-proj-iota-zeta-eta only[wishK,cxK]
refine⟨_,rfl,by decide,by decide,?_⟩
refine q4Y (λi σ' H'=>∃y,σ'=[some (.ref mi),some (.int ((2 ^ i:Nat):Int)),some (.int ((sumB (inW W) i:Nat):Int)),y]∧H=H') ⟨_,rfl,rfl⟩ (λi σ' H' hi hp=>?_) (λσ' H' hp=>?_)
·obtain⟨y,rfl,rfl⟩:=hp;have hi:i<64:=hi;rw[cD];refine⟨_,rfl,_,rfl,mi,_,rfl,DGet.k (k:=Sum.inr "last") hm,x.ls,_,rfl,DGet.k (k:=Sum.inl (i:Int)) hl,_,rfl,?_⟩;have e2:((2 ^ i:Nat):Int)*2=((2 ^ (i+1):Nat):Int):=by rw[Nat.pow_succ,m8];rfl
 by_cases z:(i:Int)∈W.map (·.1)
 ·obtain⟨⟨k',v⟩,hk,ek⟩:=mH.mp z;have ek:k'=(i:Int):=ek;subst ek;rw[zN nd hk];refine iteT ?_;refine⟨_,rfl,_,rfl,iI ⟨_,rfl,iI ⟨.inr ⟨by decide,by decide⟩,some (.int (i:Int)),?_,rfl⟩⟩⟩;have es:sumB (inW W) (i+1)=sumB (inW W) i+2 ^ i:=by show sumB (inW W) i+(if inW W i then 2 ^ i else 0)=_;rw[show inW W i=true from hW z,hU rfl]
  try dsimp only
  rw[e2,es,wT];rfl
 rw[zO z];refine iteF ?_;refine⟨_,rfl,iI ⟨.inr ⟨by decide,by decide⟩,some (.int (i:Int)),?_,rfl⟩⟩;have es:sumB (inW W) (i+1)=sumB (inW W) i:=by show sumB (inW W) i+(if inW W i then 2 ^ i else 0)=_;rw[show inW W i=false from hZ z,hV (by decide)];rfl
 try dsimp only
 rw[e2,es];rfl
obtain⟨y,rfl,rfl⟩:=hp
exact⟨_,rfl,q⟩)
noncomputable def spBe(t:Adr):Sp:=λvs H Q _=>∃x r2 r3 r4 r5 m q tp,∃p:Nat,∃mk v:Int,vs=[.ref x.s,.int (p:Int),.int mk,.int v]∧StAt t H x r2 r3 r4 r5 m q∧Fit m q∧m.lf=none∧(p:Int)≤m.bl*m.pg-1∧m.bo.getD p .non=.ref tp∧H tp=some (.tup [.int mk,.int v])∧∀H',Same H H'→Q (.bl true) H'
theorem q2F(T:Txt K mg t)(S:Fns K t):S.f7.Ok0 P w mg base 6 (spBe t):=by(
refine S.f7.F.ok0 q2B λcdv A _ s H vs Q E hr h=>?_
obtain⟨x,r2,r3,r4,r5,m,q,tp,p,mk,v,rfl,hs,ft,lf,hp,hb,ht,k⟩:=h
refine⟨_,(qC (qX (i:=4) q2B.nd rfl (Or.inl rfl) (jD (qM (pv 0) rfl) T.aD T.lU (q2C T S).mono hr S.fX.b .nil qK (qA (pv 1) qG))) (qC (jA (PW.pt (zZ (jH (jB (jJ jX (by rfl) T.aN (by kernel_rfl) (qA (pv 4) (qA (q1X rfl T.aAI (by kernel_rfl) rfl (v:=.ty "tuple")) qG))))) (zZ (qZ q1Z (jJ yA (by rfl) T.xB dY (qA (pv 4) qG)) qI (j8 _)) (zZ (jH (jB (qV (yC T S).mono hr rfl T.aS T.aX S.bI.b .nil qK (qA (yL q85 (pv 4) qI (λ_ _=>rfl)) qG)))) (zK (jH (jB (qV (yC T S).mono hr rfl T.aS T.aX S.bI.b .nil qK (qA (yL q85 (pv 4) qI (λ_ _=>rfl)) qG))))))))) (qE (qS uD)) qR) (qE (qS (yM (qBD hr.units) (pv 4) (v3 (qA (pv 2) (qA (pv 3) qG))) (j8 _)))))),?_⟩
try dsimp-beta-proj-iota-zeta-eta only[wishK,cxK]
refine(iV rfl (iF hs.o T.aB T.aV rfl (iM hs.ch.ins rfl ⟨_,rfl,x.c,x.a,m,_,rfl,hs.ch,ft.ok,lf,by lia,hp,?_⟩)))
rw[kR,hb]
refine⟨_,rfl,.ref tp,_,_,.type "tuple",_,rfl,rfl,.inl (.tup ht),qET,_,rfl,iteF ?_⟩
refine⟨_,rfl,tp,_,rfl,.inr (SqT.of ht),rfl,_,rfl,iteF ?_⟩
refine⟨_,rfl,iT (k:=0) (v:=_) (SqT.of ht) rfl ⟨.int mk,rfl,.int _,_,rfl,iteF ?_⟩⟩
refine⟨_,rfl,iT (k:=1) (v:=_) (SqT.of ht) rfl ⟨.int v,rfl,.int _,_,rfl,iteF ?_⟩⟩
exact⟨_,rfl,_,rfl,_,rfl,sz2,λu H2 n2 s2 e2=>⟨q5D (SqT.of (s2 _ _ ht)) (SqT.of e2) (by simp[uU]),k H2 s2⟩⟩)
theorem qDF{H:Hp}{a b:Addr}{rs us:List V}{ds:List (Str×Int×Bool)}(ha:H a=some (.lst rs))(hb:H b=some (.lst us))(ra:Recd H rs ds)(rb:Recd H us ds):Eqv K H 6 (.ref a) (.ref b):=by(
refine .lst (SqL.of ha) (SqL.of hb) (by rw[ra.len,rb.len]) λi x y hx hy=>?_
obtain⟨d,hd,p,rfl,hp⟩:=Paired.at ra hx
obtain⟨d',hd',p',rfl,hp'⟩:=Paired.at rb hy
rw[hd]at hd'
cases hd'
exact q5D (SqT.of hp) (SqT.of hp') (by simp[uU]))
structure J1(t:Adr)(H:Hp)(s:Sto)(sh sr:Int)(m:CM)(q:QM)(mi:Addr)(x:Mn)(la:List Int)(W G:Mp)(k:Nat):Prop where
st:StAt t H s (.int sh) (.int sr) (.int (x.ie:Int)) (.int 1000000) m q
ft:Fit m q
mm:Mi H mi x la W G m.rc
w:Wc x.B x.P x.ie (lF la) (gF G) x.c x.a k m q
fl:flN m q=(x.fl:Int)
rn:m.rc.length≤6+7*k
dj:∀z∈[mi,x.la,x.ls,x.gn,x.lg],z∉[s.s,s.tm]++(s.a.li::sf s)
noncomputable def spCn(t:Adr):Sp:=λvs H Q _=>∃s sh sr m q mi x,∃la:List Int,∃W G k,vs=[.ref s.s,.ref mi]∧J1 t H s sh sr m q mi x la W G k∧∀H',Same H H'→Q (.bl true) H'
theorem J1.same{H H':Hp}{s:Sto}{sh sr:Int}{m:CM}{q:QM}{mi:Addr}{x:Mn}{la:List Int}{W G:Mp}{k:Nat}(h:J1 t H s sh sr m q mi x la W G k)(e:Same H H'):J1 t H' s sh sr m q mi x la W G k:={ h with st:=h.st.same e,mm:=h.mm.same e }
theorem q1F(T:Txt K mg t)(S:Fns K t):S.fK.Ok0 P w mg base 8 (spCn t):=by(
refine S.fK.F.ok0 q4O λcdv A _ s H vs Q E hr h=>?_
obtain⟨s',sh,sr,m,q,mi,x,la,W,G,k,rfl,j,kk⟩:=h
have hu:=vM hr
refine⟨_,(qC (jA (PW.pt (zZ (jH (jB (qV (yC T S).mono hr rfl T.aS T.aX S.bI.b .nil qK (qA (j7 (pv 0) T.aB T.bG (uI T S).mono hr S.aO.b .nil qK) qG)))) (zK (qZ q1Z (j7 (pv 0) T.aB T.bG (uI T S).mono hr S.aO.b .nil qK) (qQ hu (pv 1) qL (λ_ _=>rfl)) (j8 _))))) (qE (qS uD)) qR) (qC (jA (PW.pt (zZ (jH (jB (qV (yC T S).mono hr rfl T.aS T.aX S.bI.b .nil qK (qA (j7 (pv 0) T.aB T.eC (uT T S).mono hr S.bS.b .nil qK) qG)))) (zK (qZ q1Z (j7 (pv 0) T.aB T.eC (uT T S).mono hr S.bS.b .nil qK) (qN y9 (qN jM qI (qQ hu (pv 1) qL (λ_ _=>rfl))) (qQ hu (pv 1) qL (λ_ _=>rfl))) (j8 _))))) (qE (qS uD)) qR) (qE (qS (vS (yM qEA (j7 (pv 0) T.aB T.i3 (q6P T S).mono hr S.e9.b .nil qK) uD (j8 _)) (uO (yM (qBD hr.units) (j7 (qM (pv 0) rfl) T.aD T.tI (q4P T S).mono hr S.iD.b .nil qK) (qQ hu (pv 1) qL (λ_ _=>rfl)) (j8 _)))))))),?_⟩
try dsimp-beta-proj-iota-zeta-eta only[wishK,cxK]
refine⟨_,rfl,s'.s,s'.sd,_,rfl,j.st.o,rfl,s',_,_,_,_,m,q,rfl,j.st,j.ft,λH1 s1=>⟨_,rfl,.int _,_,rfl,iteF ?_⟩⟩
have j1:=j.same s1
refine⟨_,rfl,s'.s,s'.sd,_,rfl,j1.st.o,rfl,s',_,_,_,_,m,q,rfl,j1.st,j.ft,λH2 s2=>?_⟩
rw[j.fl]
have j2:=j1.same s2
refine⟨_,rfl,mi,_,rfl,DGet.k (k:=Sum.inr "failures") j2.mm.hm,rfl,_,rfl,?_⟩
rw[show(!decide (V.int (x.fl:Int)=V.int (x.fl:Int)))=false by simp]
refine iteF ?_
refine⟨_,rfl,s'.s,s'.sd,_,rfl,j2.st.o,rfl,s',_,_,_,m,q,_,rfl,j2.st,j.ft,λH3 s3=>⟨_,rfl,.int _,_,rfl,iteF ?_⟩⟩
have j3:=j2.same s3
refine⟨_,rfl,s'.s,s'.sd,_,rfl,j3.st.o,rfl,s',_,_,_,m,q,_,rfl,j3.st,j.ft,λH4 s4=>?_⟩
rw[j.fl]
have j4:=j3.same s4
refine⟨_,rfl,mi,_,rfl,DGet.k (k:=Sum.inr "ill") j4.mm.hm,_,_,rfl,rfl,_,rfl,mi,_,rfl,DGet.k (k:=Sum.inr "failures") j4.mm.hm,_,_,rfl,rfl,rfl,_,rfl,?_⟩
rw[show(!decide (V.int (1+((x.ie:Int)-(x.fl:Int)))=V.int (1+(x.ie:Int)-(x.fl:Int))))=false by rw[nI];simp]
refine iteF ?_
refine⟨_,rfl,s'.s,s'.sd,_,rfl,j4.st.o,rfl,s',_,_,_,m,q,_,rfl,j4.st,j.ft,λH5 s5=>?_⟩
have le:=j.w.bad.1
have ef:flN m q=(x.B:Int)-((jK q.B m.br).length:Int):=by unfold flN;rw[j.w.qB]
rw[hZ (by rw[ef];lia)]
have j5:=j4.same s5
refine⟨false,false,rfl,rfl,_,rfl,iteT ?_⟩
refine(iV rfl (iF j5.st.o T.aB T.aV rfl ⟨s'.c,s'.a.dx,_,rfl,j5.st.ch.ins,rfl,s'.c,s'.a,m,rfl,j5.st.ch,λrs hrs rec l H6 n6 s6 e6=>?_⟩))
have j6:=j5.same s6
obtain⟨us,eu,ru⟩:=j6.mm.hr
exact⟨_,rfl,mi,_,rfl,DGet.k (k:=Sum.inr "log") j6.mm.hm,qDF e6 eu (Paired.mapP rec λv d ⟨p,e,h⟩=>⟨p,e,s6 _ _ h⟩) ru,kk H6 (((((s1.trans s2).trans s3).trans s4).trans s5).trans s6)⟩)
theorem jZ{W:Mp}{x:Int}:x∈W.map (·.1)↔∃v,(x,v)∈W:=by(
constructor
·intro h;obtain⟨⟨a,b⟩,h1,rfl⟩:=mH.mp h;exact⟨b,h1⟩
rintro⟨v,h⟩
exact mH.mpr ⟨_,h,rfl⟩)
theorem q6S{V:Mp}{x:Int}:x∈hdN V↔(∃p,(x,p)∈V)∧x≠64:=by unfold hdN;rw[gQ,jZ,kI]
theorem qFM{V W:Mp}{s p v:Int}(ndV:(V.map (·.1)).Nodup)(ndW:(W.map (·.1)).Nodup)(pm:(hdN V).Perm (W.map (·.1)))(s64:s≠64):(hdN (jG V s++[(s,p)])).Perm ((putW W s v).map (·.1)):=by(
have n1:((jG V s++[(s,p)]).map (·.1)).Nodup:=by
 rw[mI];refine rL.mpr ⟨v9 ndV,by simp,λa ha c hc=>?_⟩;obtain⟨q,hq,rfl⟩:=mH.mp ha;have hc:c=s:=by simpa using hc
 rw[hc];exact(qU.mp hq).2
refine q60 (n1.sublist wX) (q5I ndW) λx=>?_
rw[q6S,jZ]
have hx:x∈hdN V↔x∈W.map (·.1):=pm.mem_iff
rw[q6S,jZ]at hx
constructor
·rintro⟨⟨p',h⟩,h64⟩
 rcases mS.mp h with h|h
 ·obtain⟨h1,h2⟩:=qU.mp h;obtain⟨v',hv⟩:=hx.mp ⟨⟨p',h1⟩,h64⟩;exact⟨v',(q07 ndW).mpr (.inr (qU.mpr ⟨hv,h2⟩))⟩
 obtain⟨rfl,rfl⟩:x=s∧p'=p:=by simpa using h
 exact⟨v,(q07 ndW).mpr (.inl rfl)⟩
rintro⟨v',h⟩
rcases(q07 ndW).mp h with h|h
·obtain⟨rfl,rfl⟩:x=s∧v'=v:=by simpa using h
 exact⟨⟨p,kP _ (by simp)⟩,s64⟩
obtain⟨h1,h2⟩:=qU.mp h
obtain⟨⟨p',hp⟩,h64⟩:=hx.mpr ⟨v',h1⟩
exact⟨⟨p',mE _ (qU.mpr ⟨hp,h2⟩)⟩,h64⟩)
theorem qDG{V W:Mp}{p n:Int}(ndV:(V.map (·.1)).Nodup)(ndW:(W.map (·.1)).Nodup)(pm:(hdN V).Perm (W.map (·.1)))(g64:n≠64):(hdN (jG (jG V 64++[(64,p)]) n)).Perm ((jG W n).map (·.1)):=by(
have n1:((jG V 64++[((64:Int),p)]).map (·.1)).Nodup:=by
 rw[mI];refine rL.mpr ⟨v9 ndV,by simp,λa ha c hc=>?_⟩;obtain⟨q,hq,rfl⟩:=mH.mp ha;have hc:c=64:=by simpa using hc
 rw[hc];exact(qU.mp hq).2
refine q60 ((v9 n1).sublist wX) (v9 ndW) λx=>?_
have hx:x∈hdN V↔x∈W.map (·.1):=pm.mem_iff
rw[q6S,jZ]at hx ⊢
constructor
·rintro⟨⟨p',h⟩,h64⟩
 obtain⟨h1,h2⟩:=qU.mp h;rcases mS.mp h1 with h1|h1
 ·obtain⟨v',hv⟩:=hx.mp ⟨⟨p',(qU.mp h1).1⟩,h64⟩;exact⟨v',qU.mpr ⟨hv,h2⟩⟩
 obtain⟨rfl,rfl⟩:x=64∧p'=p:=by simpa using h1
 exact absurd rfl h64
rintro⟨v',h⟩
obtain⟨h1,h2⟩:=qU.mp h
obtain⟨⟨p',hp⟩,h64⟩:=hx.mpr ⟨v',h1⟩
exact⟨⟨p',qU.mpr ⟨mE _ (qU.mpr ⟨hp,h64⟩),h2⟩⟩,h64⟩)
theorem Go.len{P c a c' a':Nat}{la:Nat→Int}{g:Nat→Bool}{F:List (Nat×Nat)}(h:Go P la g c a F c' a'):c+F.length≤c':=by(
induction h with
|stop _ _ _=>exact kB _
|full _ ih=>lia
|gone _ _ ih=>lia
|fail _ _ _ ih=>rw[kX];lia)
structure Kp(H:Hp)(m:CM)(q:QM)(W:Mp)(so:Nat):Prop where
nd:(W.map (·.1)).Nodup
pm:(hdN q.V).Perm (W.map (·.1))
kb:∀s∈W.map (·.1),0≤s∧s<(so:Int)
vl:∀s v,(s,v)∈W→∃p st mk,(s,p)∈q.V∧0≤p∧p≤m.bl*m.pg-1∧m.bo.getD p.toNat .non=.ref st∧H st=some (.tup [mk,.int v])
structure J2(t:Adr)(H:Hp)(s:Sto)(sh sr:Int)(m:CM)(q:QM)(mi:Addr)(x:Mn)(la:List Int)(W G:Mp)(k:Nat):Prop where
j:J1 t H s sh sr m q mi x la W G k
kp:Kp H m q W x.so
ll:la.length=x.B
B2:x.B≤6
P2:x.P≤4
nx:q.nx=(k:Int)+1
st:x.st=k
wl:W.length≤k
k16:k≤16
s1:1≤x.so
ssh:(x.so:Int)≤sh
ssr:(x.so:Int)≤sr
sh4:sh≤64
section
variable{H H':Hp}{s:Sto}{sh sr:Int}{m m1:CM}{q:QM}{mi tp:Addr}{x:Mn}{la:List Int}{W G:Mp}{k c' a':Nat}{F:List (Nat×Nat)}
theorem q4D{bo:List V}{p:Nat}{v:V}{i:Nat}(hp:p<bo.length):(bo.set p v).getD i .non=if i=p then v else bo.getD i .non:=by(
rw[hG,mQ]
by_cases z:p=i
·subst z;rw[hU rfl,hU hp,hU rfl];rfl
rw[hV z,hV (λy=>z y.symm),←hG])
theorem Kp.put{sn v:Int}{so:Nat}{mk:V}(h:Kp H m q W so)(ft:Fit m q){p:Nat}(hp:p<q.B*q.P)(hb:m.bo.getD p .non=.non)(e1:m1.bo=m.bo)(e2:m1.bl=m.bl)(e3:m1.pg=m.pg)(eq:((c'*q.P+a':Nat):Int)=(p:Int))(kt:∀b us,H b=some (.tup us)→H' b=some (.tup us))(ht:H' tp=some (.tup [mk,.int v]))(s0:0≤sn)(s1:sn<(so:Int))(so4:so≤64):
 Kp H' (putC m1 p (.ref tp)) (q.put c' a' sn) (putW W sn v) so:=by(
have nb:=ft.ok.nbo
have eB:=ft.eB
have eP:=ft.eP
have lb:(m.bo.length:Int)=((q.B*q.P:Nat):Int):=by rw[nb,eB,eP,m8]
have bd:(p:Int)≤m.bl*m.pg-1:=by rw[←nb];lia
refine⟨q5I h.nd,qFM ft.oq.nd h.nd h.pm (by lia),λy hy=>?_,λs' v' hs=>?_⟩
·obtain⟨v',hv⟩:=jZ.mp hy;rcases(q07 h.nd).mp hv with z|z
 ·obtain⟨rfl,_⟩:y=sn∧v'=v:=by simpa using z
  exact⟨s0,s1⟩
 exact h.kb y (jZ.mpr ⟨v',(qU.mp z).1⟩)
show ∃p' st mk,(s',p')∈jG q.V sn++[(sn,((c'*q.P+a':Nat):Int))]∧0≤p'∧p'≤m1.bl*m1.pg-1∧(m1.bo.set p (.ref tp)).getD p'.toNat .non=.ref st∧H' st=some (.tup [mk,.int v'])
rw[e1,e2,e3]
rcases(q07 h.nd).mp hs with z|z
·obtain⟨rfl,rfl⟩:s'=sn∧v'=v:=by simpa using z
 refine⟨(p:Int),tp,mk,by rw[eq];simp,by lia,bd,?_,ht⟩;rw[q4D (by lia),kR,hU rfl]
obtain⟨z1,z2⟩:=qU.mp z
obtain⟨p',st,mk',a1,a2,a3,a4,a5⟩:=h.vl s' v' z1
refine⟨p',st,mk',mE _ (qU.mpr ⟨a1,z2⟩),a2,a3,?_,kt _ _ a5⟩
rw[q4D (by lia),hV (λy=>by rw[y,hb]at a4;cases a4)]
exact a4)
theorem Kp.giv{n:Int}{so:Nat}(h:Kp H m q W so)(ft:Fit m q){p:Nat}(hp:p<q.B*q.P)(hb:m.bo.getD p .non=.non)(e1:m1.bo=m.bo)(e2:m1.bl=m.bl)(e3:m1.pg=m.pg)(kt:∀b us,H b=some (.tup us)→H' b=some (.tup us))(n64:n≠64)(so4:so≤64):
 Kp H' (putC m1 p (.ref tp)) ((q.put c' a' 64).forget n) (jG W n) so:=by(
have nb:=ft.ok.nbo
have eB:=ft.eB
have eP:=ft.eP
have lb:(m.bo.length:Int)=((q.B*q.P:Nat):Int):=by rw[nb,eB,eP,m8]
refine⟨v9 h.nd,qDG ft.oq.nd h.nd h.pm n64,λy hy=>?_,λs' v' hs=>?_⟩
·obtain⟨v',hv⟩:=jZ.mp hy;exact h.kb y (jZ.mpr ⟨v',(qU.mp hv).1⟩)
obtain⟨z1,z2⟩:=qU.mp hs
obtain⟨p',st,mk',a1,a2,a3,a4,a5⟩:=h.vl s' v' z1
have s64:=h.kb s' (jZ.mpr ⟨v',z1⟩)
show ∃p' st mk,(s',p')∈jG (jG q.V 64++[(64,((c'*q.P+a':Nat):Int))]) n∧0≤p'∧p'≤m1.bl*m1.pg-1∧(m1.bo.set p (.ref tp)).getD p'.toNat .non=.ref st∧H' st=some (.tup [mk,.int v'])
rw[e1,e2,e3]
refine⟨p',st,mk',qU.mpr ⟨mE _ (qU.mpr ⟨a1,by show s'≠64;lia⟩),z2⟩,a2,a3,?_,kt _ _ a5⟩
rw[q4D (by lia),hV (λy=>by rw[y,hb]at a4;cases a4)]
exact a4)
theorem qDH{p:Nat}{v:V}(h:m.Ok)(hr:m.rc.length<1000000):(putC m p v).Ok:=by have d:=h.deed (w:="put") (pl:=(p:Int)) (b:=(p:Int) / m.pg) (f:=false) hr;exact⟨d.bl1,d.bl2,d.pg1,d.pg2,by show((m.bo.set p v).length:Int)=_;rw[m7];exact d.nbo,d.ncl,d.ndc,d.nbr,d.lim,d.nrc⟩
theorem J2.next{q':QM}{W':Mp}(j:J2 t H s sh sr m q mi x la W G k)(go:Go x.P (lF la) (gF G) x.c x.a F c' a')(hc:c'<x.B)(lyf:flN m1 q=flN m q+(F.length:Int))(ok1:m1.Ok)(w1:Wc x.B x.P x.ie (lF la) (gF G) c' a' k m1 q)(rc1:m1.rc=m.rc++flR x.P F)(oq':q'.Ok)(eB':q'.B=q.B)(eP':q'.P=q.P)(enx:q'.nx=q.nx+1)
 (w2:Wc x.B x.P x.ie (lF la) (gF G) c' (a'+1) (k+1) (putC m1 (c'*x.P+a') (.ref tp)) q') (st':StAt t H' s (.int sh) (.int sr) (.int (x.ie:Int)) (.int 1000000) (putC m1 (c'*x.P+a') (.ref tp)) q')
 (mm':Mi H' mi { x with c:=c',a:=a'+1,st:=x.st+1,fl:=x.fl+F.length } la W' G (m.rc++flR x.P F++[(("put":Str),((c'*x.P+a':Nat):Int),true)])) (kp':Kp H' (putC m1 (c'*x.P+a') (.ref tp)) q' W' x.so) (wl:W'.length≤k+1) (k16:k+1≤16):
 J2 t H' s sh sr (putC m1 (c'*x.P+a') (.ref tp)) q' mi { x with c:=c',a:=a'+1,st:=x.st+1,fl:=x.fl+F.length } la W' G (k+1):=by(
have gl:=go.len
have rn:=j.j.rn
have B2:=j.B2
have r1:m1.rc.length=m.rc.length+F.length:=by rw[rc1,kZ];unfold flR;rw[h8]
refine⟨⟨st',⟨qDH ok1 (by lia),oq',by rw[eB',j.j.w.qB];exact w1.bl,by rw[eP',j.j.w.qP];exact w1.pg⟩,?_,w2,?_,?_,j.j.dj⟩,kp',j.ll,j.B2,j.P2,by rw[enx,j.nx];rfl,by rw[←j.st],wl,k16,j.s1,j.ssh,j.ssr,j.sh4⟩
·show Mi H' mi _ la W' G (m1.rc++[_]);rw[rc1];exact mm'
·show(q'.B:Int)-((jK q'.B m1.br).length:Int)=_;rw[eB'];refine(show(q.B:Int)-((jK q.B m1.br).length:Int)=flN m1 q from rfl).trans ?_;rw[lyf,j.j.fl];exact(wT _ _).symm
show(m1.rc++[_]).length≤_
rw[kZ,r1]
show _ +1≤_
lia)
theorem J1.off(j:J1 t H s sh sr m q mi x la W G k):∀z∈[mi,x.la,x.ls,x.gn,x.lg],z∉t.aA::sf s:=λz hz w=>by(
rcases kG.mp w with w|w
·obtain⟨rs,er,_⟩:=j.mm.hr;simp only[kG,mC,gS]at hz;rcases hz with hz|hz|hz|hz|hz<;>subst hz
 ·exact j.st.tb.ne j.mm.hm (λ_ z=>by cases z) w
 ·exact j.st.tb.ne j.mm.hl (λ_ z=>by cases z) w
 ·exact j.st.tb.ne j.mm.hw (λ_ z=>by cases z) w
 ·exact j.st.tb.ne j.mm.hg (λ_ z=>by cases z) w
 exact j.st.tb.ne er (λ_ z=>by cases z) w
exact j.dj z hz (by simp[w]))
theorem J1.keep(j:J1 t H s sh sr m q mi x la W G k){F:List Addr}(k':Keep F H H')(hF:∀b∈F,b∈[mi,x.la,x.ls,x.gn,x.lg]):StAt t H' s (.int sh) (.int sr) (.int (x.ie:Int)) (.int 1000000) m q:=by(
refine j.st.keep k' (λb hb z=>j.dj b (hF b z) hb) ?_
obtain⟨ps,hT,hc⟩:=j.st.tb
have ne:∀{b:Addr} {o:HO},H b=some o→(∀kvs,o≠ .dK kvs)→(∀xs,o≠ .lst xs)→b∉F:=fun {b o} e n1 n2 z=>by
 obtain⟨rs,er,_⟩:=j.mm.hr;have hz:=hF b z;simp only[kG,mC,gS]at hz;rcases hz with hz|hz|hz|hz|hz<;>subst hz
 ·rw[j.mm.hm]at e;exact n1 _ (kH e).symm
 ·rw[j.mm.hl]at e;exact n2 _ (kH e).symm
 ·rw[j.mm.hw]at e;exact n1 _ (kH e).symm
 ·rw[j.mm.hg]at e;exact n1 _ (kH e).symm
 rw[er]at e;exact n2 _ (kH e).symm
refine⟨ps,k'.k _ _ (ne hT (λ_ z=>by cases z) (λ_ z=>by cases z)) hT,?_⟩
rcases hc with hc|⟨c,hc,hcd⟩
·exact .inl hc
exact .inr ⟨c,hc,k'.k _ _ (ne hcd (λ_ z=>by cases z) (λ_ z=>by cases z)) hcd⟩)
theorem Kp.kt{so:Nat}(h:Kp H m q W so)(kt:∀b us,H b=some (.tup us)→H' b=some (.tup us)):Kp H' m q W so:=⟨h.nd,h.pm,h.kb,λs v hs=>let⟨p,st,mk',a1,a2,a3,a4,a5⟩:=h.vl s v hs;⟨p,st,mk',a1,a2,a3,a4,kt _ _ a5⟩⟩
theorem J2.same(h:J2 t H s sh sr m q mi x la W G k)(e:Same H H'):J2 t H' s sh sr m q mi x la W G k:={ h with j:=h.j.same e,kp:=h.kp.kt λb us z=>e _ _ z }
theorem J2.h64(h:J2 t H s sh sr m q mi x la W G k):(hdN q.V).length<64:=by(
have:=h.wl
have:=h.k16
rw[h.kp.pm.length_eq,h8]
lia)
theorem J2.may(h:J2 t H s sh sr m q mi x la W G k){n:Int}(n0:0≤n)(n1:n<(x.so:Int)):¬(hold q n=false∧sr≤((hdN q.V).length:Int)):=λ⟨z1,z2⟩=>by(
have z1:n∉hdN q.V:=of_decide_eq_false z1
rw[h.kp.pm.mem_iff]at z1
rw[h.kp.pm.length_eq]at z2
have:=qBN (l:=n::W.map (·.1)) (m:=(List.range x.so).map λi:Nat=>(i:Int)) (mM.mpr ⟨z1,h.kp.nd⟩) λy hy=>by
 have hy:0≤y∧y<(x.so:Int):=by
  rcases kG.mp hy with rfl|hy
  ·exact⟨n0,n1⟩
  exact h.kp.kb y hy
 exact mH.mpr ⟨y.toNat,mZ.mpr (by lia),by lia⟩
rw[kX,h8,h8,gI]at this
rw[h8]at z2
have:=h.ssr
lia)
theorem qC1{n v:Int}:(putW W n v).length≤W.length+1:=by(
unfold putW
split
·rw[h8];lia
rw[kZ];exact kB _)
theorem J2.bits(h:J2 t H s sh sr m q mi x la W G k){ns:List Int}(hn:HeldIs q ns){n:Int}:orB (natL (rst ns [n])) 0=sumB (inW (jG W n)) 64:=by(
have so64:x.so≤64:=by have:=h.ssh;have:=h.sh4;lia
have mem:∀y,y∈ns↔y∈W.map (·.1):=λy=>(hn.pm.trans h.kp.pm).mem_iff
have e:∀y,y∈rst ns [n]↔y∈W.map (·.1)∧y≠n:=λy=>by unfold rst;rw[gQ,mem y];simp
have l64:∀u∈natL (rst ns [n]),u<64:=λu hu=>by obtain⟨y,hy,rfl⟩:=mH.mp hu;have:=h.kp.kb y ((e y).mp hy).1;lia
rw[qDA l64]
refine q1H 64 λu _=>dF.mpr ?_
rw[jZ]
constructor
·intro hu;obtain⟨y,hy,rfl⟩:=mH.mp hu;obtain⟨h1,h2⟩:=(e y).mp hy;have:=h.kp.kb y h1;obtain⟨v,hv⟩:=jZ.mp h1;exact⟨v,qU.mpr ⟨by rw[show((y.toNat:Nat):Int)=y by lia];exact hv,by show((y.toNat:Nat):Int)≠n;lia⟩⟩
rintro⟨v,hv⟩
obtain⟨h1,h2⟩:=qU.mp hv
exact mH.mpr ⟨(u:Int),(e _).mpr ⟨jZ.mpr ⟨v,h1⟩,h2⟩,by lia⟩)
end
noncomputable def spSt(t:Adr):Sp:=λvs H Q _=>∃s sh sr m q mi x,∃la:List Int,∃W G k,∃n:Int,vs=[.ref s.s,.ref mi,.int n]∧J2 t H s sh sr m q mi x la W G k∧k<(x.B-1-x.ie)*x.P∧(x.B-1-x.ie)*x.P≤16∧∀m' q' y W' H',J2 t H' s sh sr m' q' mi y la W' G (k+1)→y.B=x.B→y.P=x.P→y.ie=x.ie→y.la=x.la→y.ls=x.ls→y.gn=x.gn→y.lg=x.lg→Keep ([mi,x.ls,x.lg]++(t.aA::sf s)) H H'→Q (.bl true) H'
theorem q7Y(T:Txt K mg t)(S:Fns K t)(B:BmIn base mg):S.oS.Ok0 P w mg base 18 (spSt t):=by(
refine S.oS.F.ok0 jY λcdv A _ s H vs Q E hr h=>?_
obtain⟨s',sh,sr,m,q,mi,x,la,W,G,k,n,rfl,j,hk,hk16,kk⟩:=h
have hu:=vM hr
have s9:(99999:Nat)<sizeLine:=by decide
refine⟨_,(qC (qX (i:=3) jY.nd rfl (Or.inl rfl) (jJ (q63 rfl) (by rfl) T.oX (by kernel_rfl) (qA (qQ hu (pv 1) qL (λ_ _=>rfl)) qG))) (qC (qX (i:=4) jY.nd rfl (Or.inl rfl) (qV (q7W T S).mono hr rfl T.tZ T.xL S.oW.b .nil qK (qA (pv 1) qG))) (q3E (jA (PW.pt (q7Z (qZ q00 (qN yI (pv 2) qI) qI (j8 _)) (q5N (qZ (qF7 hr.units) (pv 3) (jT qG) (j8 _))))) (qC (qX (i:=5) jY.nd rfl (Or.inl rfl) (yL jS (pv 3) (qN yI (qN yX (pv 2) qI) (jJ yA (by rfl) T.xB dY (qA (pv 3) qG))) (λ_ _=>rfl))) (qC (qY (q76 (qQ hu (pv 1) qL (λ_ _=>rfl)) (pv 5) ⟨rfl,rfl,rfl,rfl⟩)) (qC (qX (i:=6) jY.nd rfl (Or.inl rfl) (jD (pv 0) T.aB T.oA (q2Q T S B).mono hr S.eX.b .nil qK (qA (jT (qA (pv 5) qG)) qG qBB))) (qC (qX (i:=7) jY.nd rfl (Or.inl rfl) (vS (qV (yC T S).mono hr rfl T.aS T.aX S.bI.b .nil qK (qA (pv 6) qG)) (uO (yM q00 (pv 6) qI (j8 _))))) (qE (qS (vS (pv 7) (uO (qV (q2F T S).mono hr rfl T.iG T.iN S.f7.b .nil qK (qA (pv 0) (qA (pv 4) (qA (qN jM (qN yD (qQ hu (pv 1) qL (λ_ _=>rfl)) qI) qI) (qA (qV (q7X T S).mono hr rfl T.tV T.tU S.oN.b .nil qK (qA (pv 1) qG)) qG))))))))))))) qR) (qC (qX (i:=5) jY.nd rfl (Or.inl rfl) (qN yI (qN yX (pv 2) qI) (qQ hu (pv 1) qL (λ_ _=>rfl)))) (qC (qX (i:=8) jY.nd rfl (Or.inl rfl) (qN yI (qN yD (qN yD (pv 2) qI) qI) (qN qAG qI qI))) (qC (jW hu (qQ hu (pv 1) qL (λ_ _=>rfl)) (pv 5) (pv 8) rfl) (qC (qX (i:=6) jY.nd rfl (Or.inl rfl) (jD (pv 0) T.aB T.o8 (q4C T S B).mono hr S.fS.b .nil qK (qA (pv 5) (qA (pv 8) qG)))) (qC (jA (PW.pt (zZ (jH (jB (qV (yC T S).mono hr rfl T.aS T.aX S.bI.b .nil qK (qA (pv 6) qG)))) (zK (qZ q1Z (pv 6) (pv 4) (j8 _))))) (qE (qS uD)) qR) (qE (qS (qV (q2F T S).mono hr rfl T.iG T.iN S.f7.b .nil qK (qA (pv 0) (qA (pv 4) (qA (qN jM (qN yD (qQ hu (pv 1) qL (λ_ _=>rfl)) qI) (pv 5)) (qA (pv 8) qG))))))))))))))),?_⟩
try dsimp-beta-proj-iota-zeta-eta only[wishK,cxK]
refine⟨_,rfl,mi,_,rfl,DGet.k (k:=Sum.inr "last") j.j.mm.hm,x.ls,W,rfl,j.j.mm.hw,by have:=j.wl;have:=j.k16;lia,λns pns sns l1 H1 n1 s1 h1=>?_⟩
have j1:=j.j.same s1
refine⟨_,rfl,mi,x,la,W,G,m.rc,k,rfl,j1.mm,j.ll,j.B2,j.P2,j.j.w.w,hk,by have:=j.j.rn;have:=j.k16;lia,λF c' a' H2 go k2 mm2 hc' ha'=>?_⟩
obtain⟨nl,m1,ly,w1,ok1,_,g1,la1,rc1,bo1,rn1,fl1⟩:=qGM go j.j.w j.j.ft.ok hk (by have:=j.j.rn;have:=j.k16;have:=j.B2;lia)
have lyf:=ly.fl j.j.ft.oq (by have:=j.j.ft.ok.nbr;have:=j.j.ft.eB;lia)
have off:=j.j.off
have st2:=j1.keep k2 (by simp)
have le:flN m q≤(x.ie:Int):=by have:=j.j.w.bad.1;unfold flN;rw[j.j.w.qB]at this ⊢;exact this
have rd:∀l,FreeIs q.B m.br m.cl q.fi l→rdy ((x.ie:Int)-flN m q) l (uV q.B q.P m.br q.fi)=true:=λl hl=>by have:=j.j.w.ready hk hl;unfold flN;rw[j.j.w.qB]at this ⊢;exact this
refine⟨λσ' H'=>σ'=[some (.ref s'.s),some (.ref mi),some (.int n),some (.ref l1),some (.int ((c'*x.P+a':Nat):Int)),none,none,none,none]∧Same H2 H',?_,?_⟩
·refine⟨_,rfl,iI ⟨(by show(0:Int)<4;decide),rfl,_,rfl,?_⟩⟩;rw[vV];by_cases z4:n%4=0
 ·rw[show decide (n%4=0)=true from hW z4];refine iteT ?_;have l1n:l1∉[mi,x.lg]:=λw=>by
   obtain⟨rs,er,_⟩:=j.j.mm.hr;simp only[kG,mC,gS]at w;rcases w with w|w<;>subst w
   ·rw[j.j.mm.hm]at n1;cases n1
   rw[er]at n1;cases n1
  have h12:=k2.k _ _ l1n h1;refine⟨_,rfl,sz0,λe0 H3 n3 s3 h3=>⟨l1,_,e0,rfl,rfl,SqL.of (s3 _ _ h12),SqL.of h3,_,rfl,?_⟩⟩;cases ns with
  |nil=>exact iteF ⟨rfl,s3⟩
  |cons n0 nr=>
   refine iteT ?_;have h13:=s3 _ _ h12;have mm3:=mm2.same s3;have qP:=j.j.w.qP;have qB:=j.j.w.qB;have lt:c'*x.P+a'<q.B*q.P:=by rw[qB,qP];exact q8H hc' ha'
   refine⟨_,rfl,_,rfl,iI ⟨⟨by decide,by decide⟩,_,rfl,l1,_,rfl,.inl (SqL.of h13),iI ⟨(by show(0:Int)<(((n0::nr).map V.int).length:Int);rw[h8,kX];lia),?_⟩⟩⟩;rw[h8];try dsimp only
   have mi4:=uP (n / 4) (((n0::nr).length:Nat):Int) (by rw[kX];lia);generalize n / 4%(((n0::nr).length:Nat):Int)=ix at mi4 ⊢;refine(iL (k:=ix) (v:=_) (SqL.of h13) (getI mi4.1 mi4.2) ?_);have gm:(n0::nr).getD ix.toNat 0∈n0::nr:=by rw[hG,kE (by lia)];exact rT _
   generalize (n0::nr).getD ix.toNat 0=gs at gm ⊢;have gk:gs∈W.map (·.1):=pns.mem_iff.mp gm;obtain⟨vv,hvv⟩:=jZ.mp gk;have gb:=j.kp.kb gs gk;have so64:x.so≤64:=by have:=j.ssh;have:=j.sh4;lia
   refine⟨_,rfl,mi,_,rfl,DGet.k (k:=Sum.inr "last") mm3.hm,x.ls,rfl,.inl ⟨_,.inl mm3.hw⟩,_,rfl,_,Sum.inl gs,.int vv,mm3.hw,rfl,zN j.kp.nd hvv,?_⟩;rw[q7H];have mm4:=mm3.setW (jG W gs);have k24:Keep [mi,x.lg,x.ls] H1 (upd H3 x.ls (.dK (dI (jG W gs)))):=((k2.mono (by intro b hb;simp at hb ⊢;lia)).trans (Keep.same s3)).trans (Keep.upd mm3.hw (λ_ z=>by cases z) (by simp));have st4:=j1.keep k24 (by intro b hb;simp at hb ⊢;lia);generalize upd H3 x.ls (.dK (dI (jG W gs)))=H4 at mm4 k24 st4 ⊢;refine⟨_,rfl,s'.s,s'.sd,_,rfl,st4.o,rfl,_,rfl,sz1,λlg0 H5 n5 s5 h5=>?_⟩;have st5:=st4.same s5;have mm5:=mm4.same s5;refine⟨s',_,m,q,nl,m1,c',a',lg0,gs,sh,sr,(x.ie:Int),rfl,st5,j.j.ft,j.h64,h5,gb.1,by have:=j.ssh;lia,j.kp.pm.mem_iff.mpr gk,le,rd,ly,λns' tp H6 hns htp k6 st6=>?_⟩;rw[qP]at st6;have mm6:=mm5.keep k6 off;have cl:m.bo.getD (c'*x.P+a') .non=.non:=j.j.w.cr c' a' hc' ha' (by rw[w1.fic hc'];exact d9 _);have kt6:∀b us,H b=some (.tup us)→H6 b=some (.tup us):=λb us e=>k6.tp _ _ (s5 _ _ (k24.tp _ _ (s1 _ _ e)));have kp6:=j.kp.giv (H':=H6) (m1:=m1) (tp:=tp) (c':=c') (a':=a') (n:=gs) j.j.ft lt cl bo1 (by rw[w1.bl,j.j.w.bl]) (by rw[w1.pg,j.j.w.pg]) kt6 (by lia) so64;have w2:=w1.put (st:=.ref tp) (n:=64) ok1 j.j.ft.oq hc' g1 la1 ha';have okp:=(j.j.ft.oq.put (n:=64) (by rw[qB];exact hc') (by rw[qP];exact ha') (w1.fic hc') (by decide) (by decide)).forget gs;have wl6:(jG W gs).length≤k+1:=kY (mL _ _) (Nat.le_succ_of_le j.wl);have jn:=j.next go hc' (by rw[lyf,fl1]) ok1 w1 rc1 okp rfl rfl rfl ⟨w2.w,w2.qB,w2.qP,w2.bl,w2.pg,w2.lf,w2.cl,w2.li,w2.br,w2.fi,w2.dc,w2.cr⟩ st6 mm6 kp6 wl6 (by lia);refine⟨_,rfl,.int _,rfl,.int _,_,rfl,iteT ?_⟩;refine⟨_,rfl,rfl,?_⟩;rw[show decide (V.int 1=V.int 1)=true from hW rfl];refine⟨_,rfl,_,rfl,iteT ?_⟩;have em:q.nx*128+64=((x.st+1:Nat):Int)*128+64:=by rw[j.nx,j.st];rfl
   rw[j.bits hns]at htp;have nbo:=ok1.nbo;refine⟨_,rfl,_,rfl,_,rfl,mi,_,rfl,DGet.k (k:=Sum.inr "stamp") mm6.hm,_,_,rfl,rfl,.inr ⟨by decide,by decide⟩,iI ⟨_,rfl,mi,_,la,_,G,_,rfl,mm6,kp6.nd,s',_,_,_,_,_,_,tp,c'*x.P+a',_,_,rfl,jn.j.st,jn.j.ft,jn.j.w.lf,?_,?_,by rw[←em];exact htp,λH7 s7=>?_⟩⟩
   ·show _≤m1.bl*m1.pg-1;rw[w1.bl,w1.pg,←m8];rw[qB,qP]at lt;lia
   ·show(m1.bo.set (c'*x.P+a') (.ref tp)).getD (c'*x.P+a') .non=.ref tp;rw[q4D (by rw[w1.bl,w1.pg,←m8]at nbo;rw[qB,qP]at lt;lia),hU rfl]
   refine kk _ _ _ _ H7 (jn.same s7) rfl rfl rfl rfl rfl rfl rfl ?_;exact(((((Keep.same s1).trans (k24.mono (by intro b hb;simp at hb ⊢;lia))).trans (Keep.same s5)).trans (k6.mono (by intro b hb;simp at hb ⊢;lia))).trans (Keep.same s7))
 rw[show decide (n%4=0)=false from hZ z4];exact iteF (iteF ⟨rfl,Same.refl _⟩)
rintro σ' H3 ⟨rfl,s3⟩
have mm3:=mm2.same s3
have so1:=j.s1
have qP:=j.j.w.qP
have qB:=j.j.w.qB
have lt:c'*x.P+a'<q.B*q.P:=by rw[qB,qP];exact q8H hc' ha'
refine⟨_,rfl,iI ⟨⟨by decide,by decide⟩,_,rfl,mi,_,rfl,DGet.k (k:=Sum.inr "some") mm3.hm,_,_,rfl,rfl,(by show(0:Int)<(x.so:Int);lia),?_⟩⟩
try dsimp only
have ms:=uP (n / 4) (x.so:Int) (by lia)
generalize n / 4%(x.so:Int)=sn at ms ⊢
refine⟨_,rfl,iI ⟨.inr ⟨by decide,by decide⟩,iI ⟨.inr ⟨by decide,by decide⟩,iI ⟨⟨by decide,by decide,by decide⟩,iI ⟨(by show(0:Int)<10 ^ (30:Int).toNat;decide),?_⟩⟩⟩⟩⟩
try dsimp only
have mv:=uP (n*982451653*982451653) (10 ^ (30:Int).toNat) (by decide)
generalize n*982451653*982451653%10 ^ (30:Int).toNat=v at mv ⊢
refine⟨_,rfl,_,rfl,mi,_,rfl,DGet.k (k:=Sum.inr "last") mm3.hm,_,rfl,x.ls,_,rfl,DPut.k (k:=Sum.inl sn) mm3.hw (by rw[q6M];have:=j.wl;have:=j.k16;lia),?_⟩
rw[q99]
have mm4:=mm3.setW (putW W sn v)
have j3:J1 t H1 s' sh sr m q mi x la W G k:=j1
have k24:Keep [mi,x.lg,x.ls] H1 (upd H3 x.ls (.dK (dI (putW W sn v)))):=((k2.mono (by intro b hb;simp at hb ⊢;lia)).trans (Keep.same s3)).trans (Keep.upd mm3.hw (λ_ z=>by cases z) (by simp))
have st4:=j1.keep k24 (by intro b hb;simp at hb ⊢;lia)
generalize upd H3 x.ls (.dK (dI (putW W sn v)))=H4 at mm4 k24 st4 ⊢
have v1:v<10 ^ 30:=mv.2
refine⟨_,rfl,s'.s,s'.sd,_,rfl,st4.o,rfl,_,rfl,_,rfl,s',_,m,q,nl,m1,c',a',sn,v,sh,sr,(x.ie:Int),rfl,st4,j.j.ft,j.h64,j.sh4,ms.1,by have:=j.ssh;lia,inBi mv.1 (by lia),j.may ms.1 ms.2,le,rd,ly,λtp H5 htp k5 st5=>?_⟩
rw[qP]at st5 ⊢
have mm5:=mm4.keep k5 off
have cl:m.bo.getD (c'*x.P+a') .non=.non:=j.j.w.cr c' a' hc' ha' (by rw[w1.fic hc'];exact d9 _)
have so64:x.so≤64:=by have:=j.ssh;have:=j.sh4;lia
have kt5:∀b us,H b=some (.tup us)→H5 b=some (.tup us):=λb us e=>k5.tp _ _ (k24.tp _ _ (s1 _ _ e))
have kp5:=j.kp.put (H':=H5) (m1:=m1) (tp:=tp) (c':=c') (a':=a') (sn:=sn) (v:=v) j.j.ft lt cl bo1 (by rw[w1.bl,j.j.w.bl]) (by rw[w1.pg,j.j.w.pg]) (by rw[qP]) kt5 htp ms.1 ms.2 so64
have w2:=w1.put (st:=.ref tp) (n:=sn) ok1 j.j.ft.oq hc' g1 la1 ha'
have jn:=j.next go hc' (by rw[lyf,fl1]) ok1 w1 rc1 (j.j.ft.oq.put (by rw[qB];exact hc') (by rw[qP];exact ha') (w1.fic hc') ms.1 (by lia)) rfl rfl rfl w2 st5 mm5 kp5 (kY qC1 (dZ j.wl)) (by lia)
refine⟨_,rfl,.int _,rfl,.int _,_,rfl,iteF ?_⟩
refine⟨_,rfl,_,rfl,rfl,_,rfl,?_⟩
rw[show(!decide (V.int ((c'*x.P+a':Nat):Int)=V.int ((c'*x.P+a':Nat):Int)))=false by simp]
refine iteF ?_
have em:q.nx*128+sn=((x.st+1:Nat):Int)*128+sn:=by rw[j.nx,j.st];rfl
have nbo:=ok1.nbo
refine⟨_,rfl,_,rfl,_,rfl,mi,_,rfl,DGet.k (k:=Sum.inr "stamp") mm5.hm,_,_,rfl,rfl,.inr ⟨by decide,by decide⟩,_,rfl,iI ⟨_,rfl,s',_,_,_,_,_,_,tp,c'*x.P+a',_,v,rfl,jn.j.st,jn.j.ft,jn.j.w.lf,?_,?_,by rw[←em];exact htp,λH6 s6=>?_⟩⟩
·show _≤m1.bl*m1.pg-1;rw[w1.bl,w1.pg,←m8];rw[qB,qP]at lt;lia
·show(m1.bo.set (c'*x.P+a') (.ref tp)).getD (c'*x.P+a') .non=.ref tp;rw[q4D (by rw[w1.bl,w1.pg,←m8]at nbo;rw[qB,qP]at lt;lia),hU rfl]
refine kk _ _ _ _ H6 (jn.same s6) rfl rfl rfl rfl rfl rfl rfl ?_
exact((((Keep.same s1).trans (k24.mono (by intro b hb;simp at hb ⊢;lia))).trans (k5.mono (by intro b hb;simp at hb ⊢;lia))).trans (Keep.same s6)))
noncomputable def spPR(t:Adr):Sp:=λvs H Q _=>∃x r3 r4 r5 m q,∃s sh:Int,vs=[.ref x.s,.int s]∧StAt t H x (.int sh) r3 r4 r5 m q∧Fit m q∧(hdN q.V).length<64∧m.lf=none∧0≤s∧s≤sh-1∧(if hold q s=true then ∃p st mk vl,(s,p)∈q.V∧0≤p∧p≤m.bl*m.pg-1∧m.bo.getD p.toNat .non=.ref st∧H st=some (.tup [mk,vl])∧∀H',Same H H'→Q vl H' else ∀H',Same H H'→Q .non H')
theorem q4U(T:Txt K mg t)(S:Fns K t):S.iA.Ok0 P w mg base 5 (spPR t):=by(
refine S.iA.F.ok0 q4J λcdv A _ s H vs Q E hr h=>?_
obtain⟨x,r3,r4,r5,m,q,s,sh,rfl,hs,ft,h64,lf,s0,s1',kk⟩:=h
have hu:=vM hr
refine⟨_,(qC (qY (jD (pv 0) T.aB T.bH (yF T S).mono hr S.aM.b .nil qK (qA (pv 1) qG))) (qC (jA (qZ zL (pv 1) (j7 (pv 0) T.aB T.fW (zD T S).mono hr S.eL.b .nil qK) rfl) (qE (qS yN)) qR) (qE (qS (yL q85 (jD (qM (pv 0) rfl) T.aD T.lU (q2C T S).mono hr S.fX.b .nil qK (qA (qQ hu (qM (qM (pv 0) rfl) rfl) (pv 1) (λ_ _=>rfl)) qG)) qI (λ_ _=>rfl)))))),?_⟩
try dsimp-beta-proj-iota-zeta-eta only[wishK,cxK]
refine(iV rfl (iM hs.o rfl ⟨_,rfl,x,r3,r4,r5,m,q,.int s,sh,rfl,hs,.int _,?_⟩))
rw[hU (inBi s0 s1')]
refine⟨_,rfl,iV rfl (iM hs.o rfl ⟨x,.int sh,r3,r4,r5,m,q,rfl,hs,ft,h64,λl ns H1 hn s1 n1 h1=>?_⟩)⟩
have hs1:=hs.same s1
refine⟨l,_,rfl,.inl (SqL.of h1),rfl,q9C,_,rfl,?_⟩
have e:inV (.int s) (ns.map V.int)=hold q s:=by rw[q2E];exact hn.hold s
show if(!inV (.int s) (ns.map V.int))=true then _ else _
rw[e]
cases y:hold q s with
|false=>rw[y,hV (by decide)]at kk;exact iteT (kk H1 s1)
|true=>
 rw[y,hU rfl]at kk;obtain⟨p,st,mk,vl,hp,p0,p1,hb,hst,kf⟩:=kk;refine iteF ?_;refine(iV rfl (iF hs1.o T.aB T.aV rfl (iM hs1.ch.ins rfl (iV rfl (iF hs1.o T.aB T.aL rfl (iF hs1.bk.o T.aG T.aY rfl ⟨_,rfl,x.k.wv,.int p,rfl,?_,?_⟩))))))
 ·have:=DGet.k (k:=Sum.inl s) hs1.bk.w;rw[zN ft.oq.nd hp]at this;exact this
 refine⟨x.c,x.a,m,_,rfl,hs1.ch,ft.ok,lf,p0,p1,?_⟩;rw[hb];exact(iT (k:=1) (v:=vl) (SqT.of (s1 _ _ hst)) rfl (kf H1 s1)))
noncomputable def RE(H H':Hp):Prop:=∀b o,(∀ps,o≠ .tbl ps)→H b=some o→H' b=some o
theorem RE.sq{H Hi:Hp}{sa:Addr}{xs:List V}(r:RE H Hi)(h:SqL K H sa xs):SqL K Hi sa xs:=by(
rcases h with(h|⟨ob,h⟩)|h
·exact .inl (.inl (r _ _ (λ_ z=>by cases z) h))
·exact .inl (.inr ⟨ob,r _ _ (λ_ z=>by cases z) h⟩)
exact .inr h)
theorem qDI{xs:List V}{M:Nat}:(cutV xs (some 3) (some (3+(M:Int)))).length≤M:=by(
unfold cutV HT.sIx
rw[dC,nK]
dsimp only
rw[hV (by lia),hV (by lia)]
lia)
theorem Wc.new{B P ie:Nat}{la:Nat→Int}{lim:List (Key×V)}(p1:1≤P)(lb:∀b,la b= -1∨(0≤la b∧la b<(P:Int)))(ni:((List.range B).filter λb=>decide (la b≠-1)).length≤ie)(li:∀b:Nat,b<B→valV lim (Sum.inl (b:Int))=if la b= -1 then none else some (.int (la b))):
 Wc B P ie la (λ_=>false) 0 0 0 (CM.new (B:Int) (P:Int) 1000000 lim) (bk0 B P):=by(
have f0:∀b,fiW P la 0 0 b=0:=λb=>by unfold fiW;rw[hV (by lia)];split<;>rfl
refine⟨⟨p1,mO _,(λz=>by lia),lb,(λb z=>by cases z),?_,ni⟩,rfl,rfl,rfl,rfl,rfl,λb=>rep8,li,λb hb=>?_,λb hb=>?_,λb hb _ _=>?_,λb f _ _ _=>rep8⟩
·rw[show fiW P la 0 0=λ_=>0 from funext f0];induction List.range B with
 |nil=>rfl
 |cons x L ih=>rw[k7,rE,ih]
·show(List.replicate _ false).getD b false=_;rw[rep8];simp
·show(List.replicate B (0:Int)).getD b 0=_;rw[rep8,f0];rfl
show(List.replicate _ (0:Int)).getD b 0=_
rw[rep8]
split<;>rfl)
theorem qDJ{B P:Nat}{lim:List (Key×V)}:flN (CM.new (B:Int) (P:Int) 1000000 lim) (bk0 B P)=0:=by(
unfold flN jK
rw[pX.mpr λb _=>by show(!(List.replicate _ false).getD b false)=true;rw[rep8];rfl]
show(B:Int)-((List.range B).length:Int)=0
rw[gI]
lia)
noncomputable def mD0(B ie P:Nat)(lg:Addr):List (Key×V):=[(.inr "blocks",.int (B:Int)),(.inr "ill",.int (ie:Int)),(.inr "pages",.int (P:Int)),(.inr "block",.int 0),(.inr "at",.int 0),(.inr "stamp",.int 0),(.inr "failures",.int 0),(.inr "log",.ref lg)]
theorem qFN(T:Txt K mg t)(S:Fns K t)(B:BmIn base mg):S.law.Ok0 P w mg base 19 (q2K K [t.aA,t.aR]):=by(
refine S.law.F.ok0 uH λcdv A _ s H vs Q E hr h=>?_
obtain⟨a,ns,rfl,hS,hlen,hT0,k⟩:=h
have hT:H t.aA=some (.tbl #[]):=hT0 _ (by simp)
have hu:=vM hr
have s9:(99999:Nat)<sizeLine:=by decide
refine⟨_,(qC (q3J (qV (q6Q T S).mono hr rfl T.tM T.tP S.i7.b .nil qK (qA (qV (yE T S).mono hr rfl T.a9 T.bA S.bD.b .nil qK (qA (pv 0) (qA qI qG))) qG)) (qAE rfl (q02 (jQ (i:=1) uH.nd rfl (Or.inl rfl)) (q02 (jQ (i:=2) uH.nd rfl (Or.inl rfl)) (q02 (jQ (i:=3) uH.nd rfl (Or.inl rfl)) q8T))))) (qC (qX (i:=4) uH.nd rfl (Or.inl rfl) (qN yD (qN y9 (qN y9 (pv 1) qI) (pv 2)) (pv 3))) (qC (qX (i:=5) uH.nd rfl (Or.inl rfl) (qN jM qI (qN yI (qV (yE T S).mono hr rfl T.a9 T.bA S.bD.b .nil qK (qA (pv 0) (qA qI qG))) (qN y9 (pv 4) qI)))) (qC (qX (i:=6) uH.nd rfl (Or.inl rfl) (qN jM qI (qN yI (qN yX (qV (yE T S).mono hr rfl T.a9 T.bA S.bD.b .nil qK (qA (pv 0) (qA qI qG))) qI) qI))) (qC (qX (i:=7) uH.nd rfl (Or.inl rfl) (qCF (uK qL (pv 1) (uK qL (pv 2) (uK qL (pv 3) (uK qL qI (uK qL qI (uK qL qI (uK qL qI (uK qL (jT qG) qCE)))))))) rfl rfl (by simp) (by decide))) (qC (jW hu (pv 7) qL (qN vO (jT (qA (qDM qAH qI) qG)) (pv 1)) rfl) (qC (jW hu (pv 7) qL q23 rfl) (qC (jW hu (pv 7) qL q23 rfl) (qC (jW hu (pv 7) qL (qN yI (qV (yE T S).mono hr rfl T.a9 T.bA S.bD.b .nil qK (qA (pv 0) (qA qI qG))) qI) rfl) (qC (jW hu (pv 7) qL (jJ (q9I rfl) (by rfl) T.aAP (by kernel_rfl) (qA (pv 5) (qA (pv 6) qG))) rfl) (qC (qX (i:=8) uH.nd rfl (Or.inl rfl) (q3C T.aAH (q6J T S).mono hr rfl T.aAG S.xA .nil qK (qA (pv 1) (qA (pv 3) (qA qI (qA (qV (q7V T S).mono hr rfl T.t8 T.xG S.oY.b .nil qK (qA (qV (yE T S).mono hr rfl T.a9 T.bA S.bD.b .nil qK (qA (pv 0) (qA qI qG))) (qA (pv 7) qG))) qG)))))) (qC (jA (jH (jB (qV (q6R T S).mono hr rfl T.tN T.o7 S.iW.b .nil qK (qA (pv 8) (qA (pv 7) qG))))) (qE (qS uD)) qR) (qC (qX (i:=9) uH.nd rfl (Or.inl rfl) (q3C T.aAL (q4T T S).mono hr rfl T.aAF S.iB.b .nil qK (qA (pv 8) (qA (q3C T.x9 (q4Q T S).mono hr rfl T.aAC S.oC S.oF qK (qA (pv 1) (qA (pv 3) (qA (pv 6) (qA (pv 5) (qA (pv 2) qG)))))) (qA (qF4 T.xS rfl T.xT) qG))))) (qC (jA (PW.pt (zZ (jH (jB (jJ jX (by rfl) T.aN (by kernel_rfl) (qA (pv 9) (qA (yW rfl T.aAJ rfl (v:=.ref t.C_Even)) qG))))) (zZ (jH (jB (jJ jX (by rfl) T.aN (by kernel_rfl) (qA (pv 9) (qA (yW rfl T.x8 rfl (v:=.ref t.C_Store)) qG))))) (zK (jH (jB (jJ jX (by rfl) T.aN (by kernel_rfl) (qA (pv 9) (qA (yW rfl T.xM rfl (v:=.ref t.C_Plain)) qG))))))))) (qE (qS uD)) qR) (qC (vT mW rfl (uZ (qAU qC8 (pv 0) (q90 qI) (q90 (qN jM qI (pv 4))))) (jQ (i:=10) uH.nd rfl (Or.inl rfl)) (qE (jA (PW.pt (zZ (jH (jB (qV (q7Y T S B).mono hr rfl T.tX T.xK S.oS.b .nil qK (qA (pv 9) (qA (pv 7) (qA (qN yI (qN yD (pv 10) qI) qI) qG)))))) (zK (jH (jB (qV (q1F T S).mono hr rfl T.f6 T.fZ S.fK.b .nil qK (qA (pv 9) (qA (pv 7) qG)))))))) (qE (qS uD)) qR))) (qC (vT mW rfl (q0U rfl T.iY (qA (pv 6) qG)) (jQ (i:=11) uH.nd rfl (Or.inl rfl)) (qC (qX (i:=12) uH.nd rfl (Or.inl rfl) (jD (pv 9) T.aB T.xI (q4U T S).mono hr S.iA.b .nil qK (qA (pv 11) qG))) (qE (jA (q2H (q5A hu (pv 11) (qQ hu (pv 7) qL (λ_ _=>rfl)))) (qE (jA (qZ q20 (pv 12) yN (j8 _)) (qE (qS uD)) qR)) (qE (jA (PW.pt (zZ (jH (jB (qV (yC T S).mono hr rfl T.aS T.aX S.bI.b .nil qK (qA (pv 12) qG)))) (zK (qZ q1Z (pv 12) (qQ hu (qQ hu (pv 7) qL (λ_ _=>rfl)) (pv 11) (λ_ _=>rfl)) (j8 _))))) (qE (qS uD)) qR)))))) (qE (qS (vS (yM (q8B hr.units) (qM (pv 9) rfl) (jT qG) (j8 _)) (uO (qV (q1F T S).mono hr rfl T.f6 T.fZ S.fK.b .nil qK (qA (pv 9) (qA (pv 7) qG))))))))))))))))))))))),?_⟩
try dsimp-beta-proj-iota-zeta-eta only[wishK,cxK]
refine⟨_,rfl,a,ns,0,rfl,hS,by decide,_,rfl,λtp H1 B0 ie P0 s1 h1 B1 B2 i1 i2 p1 p2 cp=>?_⟩
refine⟨tp,_,rfl,SqT.of h1,rfl,_,_,rfl,_,_,rfl,_,_,rfl,rfl,?_⟩
refine⟨_,rfl,iI ⟨_,rfl,iI ⟨_,rfl,iI ⟨.inl ⟨by lia,by lia⟩,?_⟩⟩⟩⟩
try dsimp only
have eM:((B0:Int)-1-(ie:Int))*(P0:Int)=(((B0-1-ie)*P0:Nat):Int):=by rw[m8,show((B0-1-ie:Nat):Int)=(B0:Int)-1-(ie:Int) by lia]
rw[eM]
have hM16:(B0-1-ie)*P0≤4*4:=Nat.mul_le_mul (by lia) p2
obtain⟨M,eM'⟩:∃M,(B0-1-ie)*P0=M:=⟨_,rfl⟩
rw[eM']at cp hM16 ⊢
refine⟨_,rfl,a,ns,1,rfl,s1.seq hS,by decide,_,rfl,iI (iI ⟨(by show(0:Int)<(M:Int)-2;lia),iI ?_⟩)⟩
try dsimp only
have c1:=uP (yY ns 1) ((M:Int)-2) (by lia)
obtain⟨R,eR⟩:∃n:Nat,1+yY ns 1%((M:Int)-2)=(n:Int):=⟨(1+yY ns 1%((M:Int)-2)).toNat,by lia⟩
rw[eR]
have hR1:1≤R:=by lia
have hR2:R+2≤M:=by lia
refine⟨_,rfl,a,ns,1,rfl,s1.seq hS,by decide,_,_,rfl,rfl,⟨by decide,by decide⟩,iI ⟨(by show(0:Int)<64;decide),iI ?_⟩⟩
try dsimp only
have c2:=uP (yY ns 1 / 16) 64 (by decide)
obtain⟨S0,eS⟩:∃n:Nat,1+yY ns 1 / 16%64=(n:Int):=⟨(1+yY ns 1 / 16%64).toNat,by lia⟩
rw[eS]
have hS1:1≤S0:=by lia
have hS2:S0≤64:=by lia
clear c1 c2 eR eS
intro mi nmi
have s2:Same H1 (upd H1 mi (.dK [])):=Same.upd nmi
have e2:(upd H1 mi (.dK [])) mi=some (.dK []):=qJ
generalize upd H1 mi (.dK [])=H2 at s2 e2 ⊢
refine⟨_,rfl,_,rfl,_,rfl,sz0,λlg H3 n3 s3 h3=>⟨s3 _ _ e2,mD0 B0 ie P0 lg,rfl,by simp[mD0],?_⟩⟩
rw[show q2J [] (mD0 B0 ie P0 lg)=mD0 B0 ie P0 lg from rfl]
have ml:lg≠mi:=(qF e2 n3).symm
have d4:(upd H3 mi (.dK (mD0 B0 ie P0 lg))) mi=some (.dK (mD0 B0 ie P0 lg)):=qJ
have u4:∀b o,b≠mi→H3 b=some o→(upd H3 mi (.dK (mD0 B0 ie P0 lg))) b=some o:=λb o n e=>by rw[qD n];exact e
have g4:=u4 _ _ ml h3
have s04:Same H (upd H3 mi (.dK (mD0 B0 ie P0 lg))):=λb o e=>u4 b o (qF (s1 _ _ e) nmi) (s3 _ _ (s2 _ _ (s1 _ _ e)))
have nmi0:H mi=none:=s1.free nmi
have nlg0:H lg=none:=(s1.trans s2).free n3
generalize upd H3 mi (.dK (mD0 B0 ie P0 lg))=H4 at d4 g4 s04 ⊢
clear u4 h3 n3 s3 e2 s2 nmi h1 s1
refine⟨_,rfl,sz1,λwa A1 n1 s1 e1=>⟨_,rfl,wa,_,_,rfl,rfl,e1,by lia,by lia,λla A2 n2 s2 e2=>?_⟩⟩
rw[show((B0:Int)).toNat=B0 by lia]at e2
refine⟨_,rfl,mi,_,rfl,DPut.k (k:=Sum.inr "lasts") (s2 _ _ (s1 _ _ d4)) (by show 8<sizeLine;decide),?_⟩
have mla:la≠mi:=(qF (s1 _ _ d4) n2).symm
have lla:la≠lg:=(qF (s1 _ _ g4) n2).symm
have d5:(upd A2 mi (.dK (putK (mD0 B0 ie P0 lg) (Sum.inr "lasts") (.ref la)))) mi=some (.dK (mD0 B0 ie P0 lg++[(.inr "lasts",.ref la)])):=qJ
have u5:∀b o,b≠mi→A2 b=some o→(upd A2 mi (.dK (putK (mD0 B0 ie P0 lg) (Sum.inr "lasts") (.ref la)))) b=some o:=λb o n e=>by rw[qD n];exact e
have g5:=u5 _ _ ml (s2 _ _ (s1 _ _ g4))
have l5:=u5 _ _ mla e2
have s05:Same H (upd A2 mi (.dK (putK (mD0 B0 ie P0 lg) (Sum.inr "lasts") (.ref la)))):=λb o e=>u5 b o (qF e nmi0) (s2 _ _ (s1 _ _ (s04 _ _ e)))
have nla0:H la=none:=(s04.trans s1).free n2
generalize upd A2 mi (.dK (putK (mD0 B0 ie P0 lg) (Sum.inr "lasts") (.ref la)))=H5 at d5 g5 l5 s05 ⊢
clear u5 e2 s2 n2 e1 s1 n1 d4 g4 s04
refine λls nls=>?_
have t6:Same H5 (upd H5 ls (.dK [])):=Same.upd nls
have w6:(upd H5 ls (.dK [])) ls=some (.dK []):=qJ
generalize upd H5 ls (.dK [])=A6 at t6 w6 ⊢
refine⟨_,rfl,mi,_,rfl,DPut.k (k:=Sum.inr "last") (t6 _ _ d5) (by show 9<sizeLine;decide),?_⟩
have mls:ls≠mi:=(qF d5 nls).symm
have lls:ls≠lg:=(qF g5 nls).symm
have als:ls≠la:=(qF l5 nls).symm
have d6:(upd A6 mi (.dK (putK (mD0 B0 ie P0 lg++[(.inr "lasts",.ref la)]) (Sum.inr "last") (.ref ls)))) mi=some (.dK (mD0 B0 ie P0 lg++[(.inr "lasts",.ref la),(.inr "last",.ref ls)])):=qJ
have u6:∀b o,b≠mi→A6 b=some o→(upd A6 mi (.dK (putK (mD0 B0 ie P0 lg++[(.inr "lasts",.ref la)]) (Sum.inr "last") (.ref ls)))) b=some o:=λb o n e=>by rw[qD n];exact e
have g6:=u6 _ _ ml (t6 _ _ g5)
have l6:=u6 _ _ mla (t6 _ _ l5)
have w6':=u6 _ _ mls w6
have s06:Same H (upd A6 mi (.dK (putK (mD0 B0 ie P0 lg++[(.inr "lasts",.ref la)]) (Sum.inr "last") (.ref ls)))):=λb o e=>u6 b o (qF e nmi0) (t6 _ _ (s05 _ _ e))
have nls0:H ls=none:=s05.free nls
generalize upd A6 mi (.dK (putK (mD0 B0 ie P0 lg++[(.inr "lasts",.ref la)]) (Sum.inr "last") (.ref ls)))=H6 at d6 g6 l6 w6' s06 ⊢
clear u6 w6 t6 nls d5 g5 l5 s05
refine λgn ngn=>?_
have t7:Same H6 (upd H6 gn (.dK [])):=Same.upd ngn
have v7:(upd H6 gn (.dK [])) gn=some (.dK []):=qJ
generalize upd H6 gn (.dK [])=A7 at t7 v7 ⊢
refine⟨_,rfl,mi,_,rfl,DPut.k (k:=Sum.inr "gone") (t7 _ _ d6) (by show 10<sizeLine;decide),?_⟩
have mgn:gn≠mi:=(qF d6 ngn).symm
have lgn:gn≠lg:=(qF g6 ngn).symm
have agn:gn≠la:=(qF l6 ngn).symm
have sgn:gn≠ls:=(qF w6' ngn).symm
have d7:(upd A7 mi (.dK (putK (mD0 B0 ie P0 lg++[(.inr "lasts",.ref la),(.inr "last",.ref ls)]) (Sum.inr "gone") (.ref gn)))) mi=some (.dK (mD0 B0 ie P0 lg++[(.inr "lasts",.ref la),(.inr "last",.ref ls),(.inr "gone",.ref gn)])):=qJ
have u7:∀b o,b≠mi→A7 b=some o→(upd A7 mi (.dK (putK (mD0 B0 ie P0 lg++[(.inr "lasts",.ref la),(.inr "last",.ref ls)]) (Sum.inr "gone") (.ref gn)))) b=some o:=λb o n e=>by rw[qD n];exact e
have g7:=u7 _ _ ml (t7 _ _ g6)
have l7:=u7 _ _ mla (t7 _ _ l6)
have w7:=u7 _ _ mls (t7 _ _ w6')
have v7':=u7 _ _ mgn v7
have s07:Same H (upd A7 mi (.dK (putK (mD0 B0 ie P0 lg++[(.inr "lasts",.ref la),(.inr "last",.ref ls)]) (Sum.inr "gone") (.ref gn)))):=λb o e=>u7 b o (qF e nmi0) (t7 _ _ (s06 _ _ e))
have ngn0:H gn=none:=s06.free ngn
generalize upd A7 mi (.dK (putK (mD0 B0 ie P0 lg++[(.inr "lasts",.ref la),(.inr "last",.ref ls)]) (Sum.inr "gone") (.ref gn)))=H7 at d7 g7 l7 w7 v7' s07 ⊢
clear u7 v7 t7 ngn d6 g6 l6 w6' s06
have c3:=uP (yY ns 1) 2 (by decide)
refine⟨_,rfl,a,ns,1,rfl,s07.seq hS,by decide,_,_,rfl,rfl,(by show(0:Int)<2;decide),_,rfl,mi,_,rfl,DPut.k (k:=Sum.inr "half") d7 (by show 11<sizeLine;decide),?_⟩
try dsimp only
generalize yY ns 1%2=hf at c3 ⊢
have d8:(upd H7 mi (.dK (putK (mD0 B0 ie P0 lg++[(.inr "lasts",.ref la),(.inr "last",.ref ls),(.inr "gone",.ref gn)]) (Sum.inr "half") (.int hf)))) mi=some (.dK (mD0 B0 ie P0 lg++[(.inr "lasts",.ref la),(.inr "last",.ref ls),(.inr "gone",.ref gn),(.inr "half",.int hf)])):=qJ
have u8:∀b o,b≠mi→H7 b=some o→(upd H7 mi (.dK (putK (mD0 B0 ie P0 lg++[(.inr "lasts",.ref la),(.inr "last",.ref ls),(.inr "gone",.ref gn)]) (Sum.inr "half") (.int hf)))) b=some o:=λb o n e=>by rw[qD n];exact e
generalize upd H7 mi (.dK (putK (mD0 B0 ie P0 lg++[(.inr "lasts",.ref la),(.inr "last",.ref ls),(.inr "gone",.ref gn)]) (Sum.inr "half") (.int hf)))=H8 at d8 u8 ⊢
refine⟨_,rfl,_,rfl,_,_,rfl,_,rfl,mi,_,rfl,DPut.k (k:=Sum.inr "some") d8 (by show 12<sizeLine;decide),?_⟩
obtain⟨so,es,so1,so2,so3⟩:∃so:Nat,(if(S0:Int)<(R:Int)then(S0:Int)else(R:Int))=(so:Int)∧1≤so∧so≤S0∧so≤R:=by
 by_cases z:(S0:Int)<(R:Int)
 ·exact⟨S0,hU z,by lia,by lia,by lia⟩
 exact⟨R,hV z,by lia,by lia,by lia⟩
rw[es]
have mm9:Mi (upd H8 mi (.dK (putK (mD0 B0 ie P0 lg++[(.inr "lasts",.ref la),(.inr "last",.ref ls),(.inr "gone",.ref gn),(.inr "half",.int hf)]) (Sum.inr "some") (.int (so:Int))))) mi ⟨B0,ie,P0,0,0,0,0,lg,la,ls,gn,hf,so⟩ (List.replicate B0 (-1)) [] [] []:=by
 refine⟨qJ,?_,?_,?_,⟨[],?_,.nil⟩,?_⟩
 ·rw[qD mla,rC];exact u8 _ _ mla l7
 ·rw[qD mls];exact u8 _ _ mls w7
 ·rw[qD mgn];exact u8 _ _ mgn v7'
 ·rw[qD ml];exact u8 _ _ ml g7
 simp[mla.symm,mls.symm,mgn.symm,ml.symm,als.symm,agn.symm,lla,sgn.symm,lls,lgn]
have s09:Same H (upd H8 mi (.dK (putK (mD0 B0 ie P0 lg++[(.inr "lasts",.ref la),(.inr "last",.ref ls),(.inr "gone",.ref gn),(.inr "half",.int hf)]) (Sum.inr "some") (.int (so:Int))))):=λb o e=>by rw[qD (qF e nmi0)];exact u8 b o (qF e nmi0) (s07 _ _ e)
generalize upd H8 mi (.dK (putK (mD0 B0 ie P0 lg++[(.inr "lasts",.ref la),(.inr "last",.ref ls),(.inr "gone",.ref gn),(.inr "half",.int hf)]) (Sum.inr "some") (.int (so:Int))))=H9 at mm9 s09 ⊢
clear u8 d8 d7 g7 l7 w7 v7' s07 es mla lla mls lls als mgn lgn agn sgn ml
have fr0:∀z∈[mi,la,ls,gn,lg],H z=none:=by intro z hz;simp only[kG,mC,gS]at hz;rcases hz with rfl|rfl|rfl|rfl|rfl<;>assumption
refine⟨_,rfl,_,rfl,_,rfl,a,ns,2,rfl,s09.seq hS,by decide,_,rfl,yY ns 2,mi,_,_,[],[],[],rfl,mm9,B1,B2,p1,p2,i1,by lia,rfl,λil xs its la' H10 mm10 k10 nil hil pr ils=>?_⟩
obtain⟨lim,lim1,lim2⟩:=ils.li
have ilb:=ils.lb
have ict:=ils.ct
have iln:=ils.ln
have ill:=ils.ll
dsimp only at lim1 lim2 ilb ict iln ill k10
have s010:Same H H10:=λb o e=>k10.k b o (by simpa using qF e nla0) (s09 _ _ e)
refine qGR (mo:=1000000) (by lia) (by lia) (by lia) (by lia) (by decide) (by decide) (SqL.of hil) pr (by lia) lim1 ?_
refine λch ca H11 hc sC fC=>?_
have s011:=s010.trans sC
have mm11:=mm10.same sC
have nok:(CM.new (B0:Int) (P0:Int) 1000000 lim).Ok:=qF3 (by lia) (by lia) (by lia) (by lia) (q94 lim1 (λb v e=>by cases e))
have jw:Jw t H11 ch ca (CM.new (B0:Int) (P0:Int) 1000000 lim) mi ⟨B0,ie,P0,0,0,0,0,lg,la,ls,gn,hf,so⟩ la' [] [] (bk0 B0 P0):=by
 refine⟨hc,nok,mm11,Wc.new p1 ilb ict lim2,qDJ,λz hz w=>?_⟩;have n:=fC z w;obtain⟨rs,er,_⟩:=mm10.hr;simp only[kG,mC,gS]at hz;rcases hz with rfl|rfl|rfl|rfl|rfl
 ·rw[mm10.hm]at n;cases n
 ·rw[mm10.hl]at n;cases n
 ·rw[mm10.hw]at n;cases n
 ·rw[mm10.hg]at n;cases n
 rw[er]at n;cases n
refine⟨_,rfl,_,rfl,ch,ca,_,mi,_,la',[],_,rfl,jw,ill,B2,p2,rfl,c3.2,c3.1,λm' G fl H12 jw' rn k12=>⟨_,rfl,iteF ?_⟩⟩
have hc12:=jw'.ch
have s012:Same H H12:=Same.keepF s011 k12 (by
 intro b hb;rcases mS.mp hb with hb|hb
 ·simp only[kG,mC,gS]at hb;rcases hb with rfl|rfl|rfl<;>assumption
 exact s010.free (fC b (h9 _ hb)))
have fC0:∀b∈ca.li::foot ch ca,H b=none:=λb hb=>s010.free (fC b hb)
refine⟨_,rfl,_,rfl,_,rfl,_,rfl,_,rfl,_,rfl,?_⟩
dsimp only[tNil,cV,nR]
refine qGT (by lia) (by lia) (by lia) (by lia) (by lia) (by lia) (by lia) (by rw[eM,eM'];lia) (by lia) (by lia) (by decide) (by decide) ?_
intro tm td H13 s13 htm
refine λru rd nru nrd nn1=>?_
have s14:Same H13 (upd (upd H13 rd (.own ru)) ru (.ins t.C_Fewest rd [])):=q5Y nru nrd
generalize upd (upd H13 rd (.own ru)) ru (.ins t.C_Fewest rd [])=H14 at s14 ⊢
have s24:=s13.trans s14
have s014:=s012.trans s24
have hc14:=hc12.same s24
have htm14:=s14 _ _ htm
have tb14:TbF t H14:=⟨#[],s014 _ _ hT,.inl rfl⟩
refine λsA sd nA nsd nn=>?_
have sM:Same H14 (upd (upd H14 sd (.own sA)) sA (.ins t.C_Sure sd [])):=q5Y nA nsd
refine⟨sA,sd,tm,td,ch,ca,_,_,_,_,_,_,B0,P0,rfl,qJ,sM _ _ htm14,hc14.same sM,jw'.w.bl,jw'.w.pg,by lia,tb14.same sM,λkb pp H15 st15 hp15 npp fk off up=>⟨rfl,?_⟩⟩
have s15:Same H14 H15:=λb o e=>up b o (qF e nA) (sM b o e)
have s015:=s014.trans s15
have mm15:=(jw'.mm.same s24).same s15
have djx:∀z∈[mi,la,ls,gn,lg],z∉[sA,tm]++(ca.li::sf ⟨sA,sd,tm,td,ch,ca,kb,.ref ru,.ref pp⟩):=by
 intro z hz w;have w:z=sA∨z=tm∨z=ca.li∨z∈foot ch ca∨z∈bf kb:=by simpa[sf,or_assoc]using w
 have hz14:∃o,H14 z=some o∧∀C d f,o≠ .ins C d f:=by
  have m14:=jw'.mm.same s24;obtain⟨rs,er,_⟩:=m14.hr;simp only[kG,mC,gS]at hz;rcases hz with rfl|rfl|rfl|rfl|rfl
  ·exact⟨_,m14.hm,λ_ _ _ z=>by cases z⟩
  ·exact⟨_,m14.hl,λ_ _ _ z=>by cases z⟩
  ·exact⟨_,m14.hw,λ_ _ _ z=>by cases z⟩
  ·exact⟨_,m14.hg,λ_ _ _ z=>by cases z⟩
  exact⟨_,er,λ_ _ _ z=>by cases z⟩
 obtain⟨o,ho,no⟩:=hz14;rcases w with w|w|w|w|w
 ·rw[w,nA]at ho;cases ho
 ·rw[w,htm14]at ho;exact no _ _ _ (kH ho).symm
 ·exact jw'.dj z hz (by rw[w];simp)
 ·exact jw'.dj z hz (h9 _ w)
 have:=fk z w;rw[sM _ _ ho]at this;cases this
have frX:∀b∈[mi,ls,lg]++(t.aA::sf ⟨sA,sd,tm,td,ch,ca,kb,.ref ru,.ref pp⟩),H b=none∨∃ps,H b=some (.tbl ps):=by
 intro b hb;have hb:b∈[mi,ls,lg]∨b=t.aA∨b∈foot ch ca∨b∈bf kb:=by simpa[sf,or_assoc]using hb
 rcases hb with hb|hb|hb|hb
 ·refine .inl (fr0 b ?_);simp only[kG,mC,gS]at hb;rcases hb with rfl|rfl|rfl<;>simp
 ·exact .inr ⟨_,by rw[hb];exact hT⟩
 ·exact .inl (fC0 b (h9 _ hb))
 exact .inl (s014.free (sM.free (fk b hb)))
have ppn:pp∉[mi,ls,lg]++(t.aA::sf ⟨sA,sd,tm,td,ch,ca,kb,.ref ru,.ref pp⟩):=λw=>by
 rcases mS.mp w with w|w
 ·obtain⟨rs,er,_⟩:=(jw'.mm.same s24).hr;simp only[kG,mC,gS]at w;rcases w with w|w|w
  ·rw[w,sM _ _ (jw'.mm.same s24).hm]at npp;cases npp
  ·rw[w,sM _ _ (jw'.mm.same s24).hw]at npp;cases npp
  rw[w,sM _ _ er]at npp;cases npp
 exact off w
have j0:J2 t H15 ⟨sA,sd,tm,td,ch,ca,kb,.ref ru,.ref pp⟩ (S0:Int) (R:Int) m' (bk0 B0 P0) mi ⟨B0,ie,P0,0,0,0,fl,lg,la,ls,gn,hf,so⟩ la' [] G 0:=by refine⟨⟨st15,⟨jw'.ok,qFK (by lia) (by lia) (by lia),jw'.w.bl,jw'.w.pg⟩,mm15,jw'.w,jw'.fl,by lia,djx⟩,⟨List.nodup_nil,.nil,(λs hs=>by cases hs),(λs v hs=>by cases hs)⟩,ill,B2,p2,rfl,rfl,kB _,by lia,so1,by show(so:Int)≤(S0:Int);lia,by show(so:Int)≤(R:Int);lia,by lia⟩
clear st15 fk up tb14 hc14 htm14 s24 s14 s13 s012 k12 jw' hc12 fC fC0 hc sC s011 mm11 nok jw mm10 k10 s010 mm9 s09 pr ils lim1 lim2 mm15 djx sM nsd nn nA htm hil nil off s014 s15 npp fr0
refine⟨_,rfl,.ref sA,_,_,_,_,rfl,rfl,T.tT.ty T.aB j0.j.st.o,T.tE,_,rfl,iteF ?_⟩
refine⟨_,rfl,.ref sA,_,_,_,_,rfl,rfl,T.tT.ty T.aB j0.j.st.o,T.oO,_,rfl,iteF ?_⟩
refine⟨_,rfl,.ref sA,_,_,_,_,rfl,rfl,T.tT.ty T.aB j0.j.st.o,T.oM,_,rfl,iteF ?_⟩
have re15:RE H H15:=λb o _ e=>s015 _ _ e
refine⟨_,rfl,_,rfl,_,rfl,iI ⟨_,rfl,a,_,rfl,re15.sq hS,λp np=>?_⟩⟩
have si:Same H15 (upd H15 p (.lst (cutV (ns.map V.int) (some 3) (some (3+(M:Int)))))):=Same.upd np
have pi:(upd H15 p (.lst (cutV (ns.map V.int) (some 3) (some (3+(M:Int)))))) p=some (.lst (cutV (ns.map V.int) (some 3) (some (3+(M:Int))))):=qJ
generalize upd H15 p (.lst (cutV (ns.map V.int) (some 3) (some (3+(M:Int)))))=H16 at si pi ⊢
have j16:=j0.same si
have pF:p∉[mi,ls,lg]++(t.aA::sf ⟨sA,sd,tm,td,ch,ca,kb,.ref ru,.ref pp⟩):=λw=>by
 rcases mS.mp w with w|w
 ·obtain⟨rs,er,_⟩:=j0.j.mm.hr;simp only[kG,mC,gS]at w;rcases w with w|w|w
  ·rw[w,j0.j.mm.hm]at np;cases np
  ·rw[w,j0.j.mm.hw]at np;cases np
  rw[w,er]at np;cases np
 exact j0.j.st.off np w
refine⟨p,rfl,⟨_,SqL.of pi⟩,?_⟩
have lc:=qDI (xs:=ns.map V.int) (M:=M)
refine qAA (K:=K) (xs:=cutV (ns.map V.int) (some 3) (some (3+(M:Int)))) (λi σ' H'=>∃y10 m q y W,σ'=[some (.ref a),some (.int (B0:Int)),some (.int (ie:Int)),some (.int (P0:Int)),some (.int (M:Int)),some (.int (R:Int)),some (.int (S0:Int)),some (.ref mi),some (.ref ch),some (.ref sA),y10,none,none]∧J2 t H' ⟨sA,sd,tm,td,ch,ca,kb,.ref ru,.ref pp⟩ (S0:Int) (R:Int) m q mi y la' W G i∧y.B=B0∧y.P=P0∧y.ie=ie∧y.ls=ls∧y.lg=lg∧Keep ([mi,ls,lg]++(t.aA::sf ⟨sA,sd,tm,td,ch,ca,kb,.ref ru,.ref pp⟩)) H16 H') ⟨none,m',_,_,[],rfl,j16,rfl,rfl,rfl,rfl,rfl,Keep.refl⟩ (λi σ' H' hi hp=>?_) (λi v σ' H' D' nxt hv hp=>?_) (λσ' H' hp=>?_)
·obtain⟨y10,m,q,y,W,rfl,j,e1,e2,e3,e4,e5,kk⟩:=hp;exact SqL.of (kk.k _ _ pF pi)
·obtain⟨y10,m,q,y,W,rfl,j,e1,e2,e3,e4,e5,kk⟩:=hp;have hi:=(kD.mp hv).1;obtain⟨z,rfl⟩:=qDE hv;refine⟨_,rfl,_,rfl,_,rfl,iI ⟨.inr ⟨by decide,by decide⟩,iI ⟨(by show(0:Int)<2147483647;decide),?_⟩⟩⟩;refine⟨⟨sA,sd,tm,td,ch,ca,kb,.ref ru,.ref pp⟩,_,_,m,q,mi,y,la',W,G,i,_,rfl,j,by rw[e1,e2,e3,eM'];lia,by rw[e1,e2,e3,eM'];lia,λm2 q2 y2 W2 H2 j2 a1 a2 a3 a4 a5 a6 a7 k2=>⟨_,rfl,iteF ?_⟩⟩;rw[e4,e5]at k2;refine⟨_,rfl,_,rfl,⟨sA,sd,tm,td,ch,ca,kb,.ref ru,.ref pp⟩,_,_,m2,q2,mi,y2,la',W2,G,i+1,rfl,j2.j,λH3 s3=>⟨_,rfl,iteF ?_⟩⟩;exact nxt _ _ ⟨_,m2,q2,y2,W2,rfl,j2.same s3,a1.trans e1,a2.trans e2,a3.trans e3,a5.trans e4,a7.trans e5,(kk.trans k2).trans (Keep.same s3)⟩
obtain⟨y10,m,q,y,W,rfl,j,e1,e2,e3,e4,e5,kk⟩:=hp
have hpp:=kk.k _ _ ppn (si _ _ hp15)
refine⟨_,rfl,_,rfl,by lia,by lia,?_⟩
refine q1I (λi σ' H3=>∃y11 y12,σ'=[some (.ref a),some (.int (B0:Int)),some (.int (ie:Int)),some (.int (P0:Int)),some (.int (M:Int)),some (.int (R:Int)),some (.int (S0:Int)),some (.ref mi),some (.ref ch),some (.ref sA),y10,y11,y12]∧Same H' H3) ⟨_,_,rfl,Same.refl _⟩ (λi σ' H3 D' nxt hi hp=>?_) (λσ' H3 hp=>?_)
·obtain⟨y11,y12,rfl,sm⟩:=hp;have j3:=j.same sm;have hi:i<((S0:Int)).toNat:=hi;rw[cD];have dg:=DGet.k (k:=Sum.inl (i:Int)) j3.j.mm.hw;refine(iV rfl (iM j3.j.st.o rfl ⟨_,rfl,⟨sA,sd,tm,td,ch,ca,kb,.ref ru,.ref pp⟩,_,_,_,m,q,(i:Int),(S0:Int),rfl,j3.j.st,j3.j.ft,j3.h64,j3.j.w.lf,by lia,by lia,?_⟩));by_cases z:(i:Int)∈W.map (·.1)
 ·rw[hU (show hold q (i:Int)=true from hW (j3.kp.pm.mem_iff.mpr z))];obtain⟨v,hv⟩:=jZ.mp z;obtain⟨p',st,mk,b1,b2,b3,b4,b5⟩:=j3.kp.vl _ _ hv;refine⟨p',st,mk,_,b1,b2,b3,b4,b5,λH4 s4=>?_⟩;have j4:=j3.same s4;have dg:=DGet.k (k:=Sum.inl (i:Int)) j4.j.mm.hw;rw[zN j4.kp.nd hv]at dg;refine⟨_,rfl,_,rfl,mi,_,rfl,DGet.k (k:=Sum.inr "last") j4.j.mm.hm,y.ls,_,rfl,dg,_,rfl,iteF ?_⟩;refine⟨_,rfl,.int _,rfl,.int _,_,rfl,iteF ?_⟩;refine⟨_,rfl,_,rfl,mi,_,rfl,DGet.k (k:=Sum.inr "last") j4.j.mm.hm,_,rfl,y.ls,_,rfl,dg,rfl,_,rfl,?_⟩;rw[show(!decide (V.int v=V.int v))=false by simp];exact iteF (nxt _ _ ⟨_,_,rfl,sm.trans s4⟩)
 rw[hV (show ¬hold q (i:Int)=true from λw=>z (j3.kp.pm.mem_iff.mp (mK w)))];refine λH4 s4=>?_;have j4:=j3.same s4;have dg:=DGet.k (k:=Sum.inl (i:Int)) j4.j.mm.hw;rw[zO z]at dg;refine⟨_,rfl,_,rfl,mi,_,rfl,DGet.k (k:=Sum.inr "last") j4.j.mm.hm,y.ls,_,rfl,dg,_,rfl,iteT ?_⟩;exact⟨_,rfl,rfl,_,rfl,iteF (nxt _ _ ⟨_,_,rfl,sm.trans s4⟩)⟩
obtain⟨y11,y12,rfl,sm⟩:=hp
have j3:=j.same sm
refine(iV rfl (iF j3.j.st.o T.aB T.fR rfl ⟨sz0,λe0 H4 n4 s4 h4=>⟨pp,_,e0,rfl,rfl,SqL.of (s4 _ _ (sm _ _ hpp)),SqL.of h4,_,rfl,?_⟩⟩))
have j4:=j3.same s4
refine iteT ?_
exact⟨_,rfl,_,rfl,⟨sA,sd,tm,td,ch,ca,kb,.ref ru,.ref pp⟩,_,_,m,q,mi,y,la',W,G,_,rfl,j4.j,λH5 _=>k H5⟩)
theorem qFO{P:Program}{w:World}{K:W.Frag}{mg:Str→Option Value}{t:Adr}(T:Txt K mg t)(S:Fns K t)(B:BmIn base mg):S.law.Ok0 P w mg base 19 (q2K K [t.aA,t.aR]):=gR λn=>by
 have hs:hkB hkE:=by unfold hkE;exact Classical.epsilon_spec ⟨⟨P,w,K,mg,t⟩,S,base,T,B,n⟩
 obtain⟨S',b',T',B1,n'⟩:=hs;exact n' (qFN T' S' B1)
end
theorem qFP{l:W.OpenLaw}{w:World}{K:W.Frag}{h:Heap}{mg:Str→Option Value}{fa z0 z1 z2 z3 z4 z5 z6 z7 z8 z9 z10 z11 z12 z13 z14 z15 z16 z17 z18 z19 z20 z21 z22 z23 z24 z25 z26 z27 z28 z29 z30 z31 z32 z33 z34 z35 z36 z37 z38 z39 z40 z41 z42 z43 z44 z45 z46 z47 z48 z49 z50 z51 z52 z53 z54 z55 z56 z57 z58 z59 z60 z61 z62 z63 z64 z65 z66 z67 z68 z69 z70 z71 z72 z73 z74 z75 z76 z77:Addr}(X:K.In h)(G:h.Ns mainGlobals mg)(hfa:mg "law"=some (.ref fa))
 {z78 z79 z90 z91 z102 z103:Option Addr} {z80 z92 z104:Array (Option Value)} {z81 z82 z83 z84 z86 z93 z94 z95 z96 z97 z98 z105 z106 z107 z108 z109 z110:Value} {z99:Option Addr} {z100:Nat} {z101:Array (Option Value)} {e0_Chip_init:Tok} {z111:Option Addr} {z112:Nat} {z113:Array (Option Value)} {e0_Terms_init:Tok} {e1_Terms_init:Tok} {b8:Tok} {oZ:Tok} {iO:Tok}
 (z114:W.nsIn K mainGlobals "Book"=some (some (.ref z66)))
 (z115:Cls K z66)
 (z116:qO K z66 "blocks")
 (z117:qO K z66 "pages")
 (z118:qO K z66 "stamp")
 (z119:qO K z66 "where")
 (z120:qO K z66 "live")
 (z121:qO K z66 "filled")
 (z122:qO K z66 "born")
 (z123:Meth K z66 "mark" z12)
 (z124:Meth K z66 "note" z13)
 (z125:Meth K z66 "forget" z14)
 (z126:Meth K z66 "held" z15)
 (z127:Mk K z66 z11)
 (z128:W.nsIn K mainGlobals "Plain"=some (some (.ref z67)))
 (z129:W.nsIn K mainGlobals "Store"=some (some (.ref z68)))
 (z130:W.nsIn K mainGlobals "Even"=some (some (.ref z69)))
 (z131:W.nsIn K mainGlobals "Sure"=some (some (.ref z70)))
 (z132:Cls K z70)
 (z133:qO K z70 "chip")
 (z134:qO K z70 "terms")
 (z135:qO K z70 "book")
 (z136:qO K z70 "rule")
 (z137:qO K z70 "papers")
 (z138:Meth K z70 "failures" z31)
 (z139:Meth K z70 "worn" z32)
 (z140:Meth K z70 "reserve" z33)
 (z141:Meth K z70 "lay" z34)
 (z142:Meth K z70 "set_down_or_fail" z35)
 (z143:Meth K z70 "make_ready" z36)
 (z144:Meth K z70 "check_worn" z37)
 (z145:Meth K z70 "make_rooms" z30)
 (z146:Meth K z70 "good" z17)
 (z147:Meth K z70 "free" z18)
 (z148:Meth K z70 "part" z19)
 (z149:Meth K z70 "spot" z20)
 (z150:Meth K z70 "ready" z21)
 (z151:Meth K z70 "set_down" z22)
 (z152:Meth K z70 "write" z23)
 (z153:Meth K z70 "give_up" z24)
 (z154:Meth K z70 "read" z25)
 (z155:Meth K z70 "held" z26)
 (z156:Meth K z70 "check_sheet" z27)
 (z157:Meth K z70 "check_share" z28)
 (z158:Mk K z70 z29)
 (z159:W.nsIn K mainGlobals "Chip"=some (some (.ref z71)))
 (z160:Cls K z71)
 (z161:qO K z71 "blocks")
 (z162:qO K z71 "pages")
 (z163:qO K z71 "most")
 (z164:qO K z71 "limits")
 (z165:qO K z71 "borne")
 (z166:qO K z71 "clearings")
 (z167:qO K z71 "deed_counts")
 (z168:qO K z71 "broken")
 (z169:qO K z71 "deeds_left")
 (z170:qO K z71 "record")
 (z171:Meth K z71 "put" z40)
 (z172:Meth K z71 "wipe" z41)
 (z173:Meth K z71 "read" z42)
 (z174:Meth K z71 "is_dark" z43)
 (z175:Meth K z71 "cleared" z44)
 (z176:Meth K z71 "failed" z45)
 (z177:Meth K z71 "deeds" z46)
 (z178:Meth K z71 "check_page" z47)
 (z179:Meth K z71 "check_block" z48)
 (z180:Meth K z71 "check_power" z49)
 (z181:Meth K z71 "check_deed" z50)
 (z182:Meth K z71 "is_spent" z51)
 (z183:Meth K z71 "do_deed" z52)
 (z184:Mk K z71 z39)
 (z185:W.nsIn K mainGlobals "Fewest"=some (some (.ref z72)))
 (z186:W.makesIn K z72=true)
 (z187:W.findIn K (.ref z72) "__init__"=some (some (.builtin "object.__init__")))
 (z188:W.keepIn K (.ref z72)=true)
 (z189:W.nsIn K mainGlobals "Terms"=some (some (.ref z73)))
 (z190:Cls K z73)
 (z191:qO K z73 "blocks")
 (z192:qO K z73 "pages")
 (z193:qO K z73 "sheets")
 (z194:qO K z73 "share")
 (z195:qO K z73 "ill")
 (z196:qO K z73 "spread")
 (z197:Meth K z73 "closed" z54)
 (z198:Mk K z73 z53)
 (z199:W.nsIn K mainGlobals "WornError"=some (some (.ref z74)))
 (z200:W.nsIn K mainGlobals "BlockFailed"=some (some (.ref z75)))
 (z201:W.keepIn K (.ref z75)=true)
 (z202:XAt K z75)
 (z203:W.findIn K (.ref z75) "__init__"=some (some (.ref z4)))
 (z204:xinI K z75 z4=true)
 (z205:qO K z75 "block")
 (z206:BIni K z74)
 (z207:ClM K z67 "__init__" z16)
 (z208:W.exmOne K (.ref z75) (.ref z75)=some true)
 (z209:W.findIn K (.ref z70) "__class__"=some (some (.builtin "object.__class__")))
 (z210:W.specialIn K (.builtin "object.__class__") "__get__"=some (some (.builtin "getset_descriptor.__get__")))
 (z211:W.takesIn K (.builtin "object.__class__")=some true)
 (z212:W.mroIn K z70 (.type "object")=some true)
 (z213:W.kitOne K (.ref z70) (.ref z69)=some true)
 (z214:W.kitOne K (.ref z70) (.ref z68)=some true)
 (z215:W.kitOne K (.ref z70) (.ref z67)=some true)
 (z216:W.codeHdIn K z0 z1=true)
 (z217:GFn K "is_whole" z5)
 (z218:GFn K "is_within" z6)
 (z219:GFn K "is_shape" z7)
 (z220:GFn K "is_value" z8)
 (z221:GFn K "mark_of" z9)
 (z222:GFn K "bits_of" z10)
 (z223:GFn K "limits_of" z38)
 (z224:GFn K "_law_cell_at" z55)
 (z225:GFn K "_law_whole" z56)
 (z226:GFn K "_law_shape" z57)
 (z227:GFn K "_law_ills" z58)
 (z228:GFn K "_law_next" z59)
 (z229:GFn K "_law_wiped" z60)
 (z230:GFn K "_law_bits" z61)
 (z231:GFn K "_law_bears" z62)
 (z232:GFn K "_law_step" z63)
 (z233:GFn K "_law_counts" z64)
 (z234:W.nsIn K mainGlobals "MOST_TOLD"=some (some (.int 1000000 b8)))
 (z235:W.nsIn K mainGlobals "ROLL"=some (some (.int 64 oZ)))
 (z236:W.nsIn K mainGlobals "NAMES"=some (some (.int 128 iO)))
 (z237:W.nsIn K mainGlobals "bool"=some none)
 (z238:W.nsIn K mainGlobals "int"=some none)
 (z239:W.nsIn K mainGlobals "isinstance"=some none)
 (z240:W.nsIn K mainGlobals "len"=some none)
 (z241:W.nsIn K mainGlobals "list"=some none)
 (z242:W.nsIn K mainGlobals "min"=some none)
 (z243:W.nsIn K mainGlobals "range"=some none)
 (z244:W.nsIn K mainGlobals "sorted"=some none)
 (z245:W.nsIn K mainGlobals "tuple"=some none)
 (z246:FnX K "__init__" "BlockFailed.__init__" yP z4)
 (z247:FnX K "is_whole" "is_whole" q1J z5)
 (z248:FnX K "is_within" "is_within" q0A z6)
 (z249:FnX K "is_shape" "is_shape" q1K z7)
 (z250:FnX K "is_value" "is_value" q1L z8)
 (z251:FnX K "mark_of" "mark_of" q2M z9)
 (z252:FnX K "bits_of" "bits_of" q2N z10)
 (z253:FnX K "__init__" "Book.__init__" q0B z11)
 (z254:FnX K "mark" "Book.mark" q0C z12)
 (z255:FnX K "note" "Book.note" q0D z13)
 (z256:FnX K "forget" "Book.forget" vW z14)
 (z257:FnX K "held" "Book.held" q0E z15)
 (z258:FnX K "__init__" "Plain.__init__" zP z16)
 (z259:FnX K "good" "Plain.good" zQ z17)
 (z260:K.lookup z18=some ⟨z81,z78,.func (W.fnOf "free" "Plain.free" (yB jL) (jR jL) (qH jL) .none z82 z83 z84 z79 (.ref z0) z86),z80⟩)
 (z261:W.codeIn K (.ref z0) "Plain.free"=true)
 (z262:FnX K "part" "Plain.part" zR z19)
 (z263:FnX K "spot" "Plain.spot" zS z20)
 (z264:FnX K "ready" "Plain.ready" vX z21)
 (z265:FnX K "set_down" "Plain.set_down" uG z22)
 (z266:FnX K "write" "Plain.write" vY z23)
 (z267:FnX K "give_up" "Plain.give_up" uQ z24)
 (z268:FnX K "read" "Plain.read" zT z25)
 (z269:FnX K "held" "Plain.held" zU z26)
 (z270:FnX K "check_sheet" "Plain.check_sheet" yJ z27)
 (z271:FnX K "check_share" "Plain.check_share" yK z28)
 (z272:FnX K "__init__" "Store.__init__" zV z29)
 (z273:FnX K "make_rooms" "Store.make_rooms" yQ z30)
 (z274:FnX K "failures" "Sure.failures" uR z31)
 (z275:FnX K "worn" "Sure.worn" q0F z32)
 (z276:FnX K "reserve" "Sure.reserve" vB z33)
 (z277:FnX K "lay" "Sure.lay" q1M z34)
 (z278:FnX K "set_down_or_fail" "Sure.set_down_or_fail" y7 z35)
 (z279:FnX K "make_ready" "Sure.make_ready" yZ z36)
 (z280:FnX K "check_worn" "Sure.check_worn" u9 z37)
 (z281:FnX K "limits_of" "limits_of" q0G z38)
 (z282:K.lookup z39=some ⟨z93,z90,.func (W.fnOf "__init__" "Chip.__init__" (yB yU) (jR yU) (qH yU) (.ref z76) z94 z95 z96 z91 z97 z98),z92⟩)
 (z283:W.codeIn K z97 "Chip.__init__"=true)
 (z284:K.lookup z76=some ⟨.type "tuple",z99,.seq #[.int 1000000 e0_Chip_init,.none] z100,z101⟩)
 (z285:FnX K "put" "Chip.put" q1N z40)
 (z286:FnX K "wipe" "Chip.wipe" q0H z41)
 (z287:FnX K "read" "Chip.read" q0I z42)
 (z288:FnX K "is_dark" "Chip.is_dark" vC z43)
 (z289:FnX K "cleared" "Chip.cleared" vD z44)
 (z290:FnX K "failed" "Chip.failed" vZ z45)
 (z291:FnX K "deeds" "Chip.deeds" zW z46)
 (z292:FnX K "check_page" "Chip.check_page" uA z47)
 (z293:FnX K "check_block" "Chip.check_block" yR z48)
 (z294:FnX K "check_power" "Chip.check_power" yS z49)
 (z295:FnX K "check_deed" "Chip.check_deed" uB z50)
 (z296:FnX K "is_spent" "Chip.is_spent" uS z51)
 (z297:FnX K "do_deed" "Chip.do_deed" vE z52)
 (z298:K.lookup z53=some ⟨z105,z102,.func (W.fnOf "__init__" "Terms.__init__" (yB yH) (jR yH) (qH yH) (.ref z77) z106 z107 z108 z103 z109 z110),z104⟩)
 (z299:W.codeIn K z109 "Terms.__init__"=true)
 (z300:K.lookup z77=some ⟨.type "tuple",z111,.seq #[.int 0 e0_Terms_init,.int 1000000 e1_Terms_init] z112,z113⟩)
 (z301:FnX K "closed" "Terms.closed" vF z54)
 (z302:FnX K "_law_cell_at" "_law_cell_at" zA z55)
 (z303:FnX K "_law_whole" "_law_whole" q0J z56)
 (z304:FnX K "_law_shape" "_law_shape" q0K z57)
 (z305:FnX K "_law_ills" "_law_ills" q1O z58)
 (z306:FnX K "_law_next" "_law_next" q1P z59)
 (z307:FnX K "_law_wiped" "_law_wiped" q0L z60)
 (z308:FnX K "_law_bits" "_law_bits" q1Q z61)
 (z309:FnX K "_law_bears" "_law_bears" q0M z62)
 (z310:FnX K "_law_step" "_law_step" q1R z63)
 (z311:FnX K "_law_counts" "_law_counts" zX z64)
 (z312:W.nsIn K mainGlobals "law"=some (some (.ref z65)))
 (z313:FnX K "law" "law" qBY z65):
 ∃fd:FuncData,(∀(s:Shared) (v:Value),BindsTo s fd ⟨[v],[]⟩ [("_law_script",v)])∧∀base:Heap,K.In base→base.Ns mainGlobals mg→BmIn base mg→FnOk l.prog w K mg base (CX0) 19 fa fd ["_law_script"] (q2K K [z1,z3]):=by(
have e:=hfa.symm.trans (m9 X G z312)
cases e
let t:Adr:=⟨z4,z5,z6,z7,z8,z9,z10,z11,z12,z13,z14,z15,z16,z17,z18,z19,z20,z21,z22,z23,z24,z25,z26,z27,z28,z29,z30,z31,z32,z33,z34,z35,z36,z37,z38,z39,z40,z41,z42,z43,z44,z45,z46,z47,z48,z49,z50,z51,z52,z53,z54,z55,z56,z57,z58,z59,z60,z61,z62,z63,z64,fa,z66,z67,z68,z69,z70,z71,z72,z73,z74,z75,b8,oZ,iO,z0,z1,z2,z3⟩
have T:Txt K mg t:=⟨m9 X G z114,z115,z116,z117,z118,z119,z120,z121,z122,z123,z124,z125,z126,z127,m9 X G z128,m9 X G z129,m9 X G z130,m9 X G z131,z132,z133,z134,z135,z136,z137,z138,z139,z140,z141,z142,z143,z144,z145,z146,z147,z148,z149,z150,z151,z152,z153,z154,z155,z156,z157,z158,m9 X G z159,z160,z161,z162,z163,z164,z165,z166,z167,z168,z169,z170,z171,z172,z173,z174,z175,z176,z177,z178,z179,z180,z181,z182,z183,z184,m9 X G z185,⟨z186,z187,z188⟩,m9 X G z189,z190,z191,z192,z193,z194,z195,z196,z197,z198,m9 X G z199,m9 X G z200,z201,z202,z204,z205,z206,z207,z208,⟨z209,z210,z211,z212⟩,z213,z214,z215,z216,m9 X G z217.1,z217.2,m9 X G z218.1,z218.2,m9 X G z219.1,z219.2,m9 X G z220.1,z220.2,m9 X G z221.1,z221.2,m9 X G z222.1,z222.2,m9 X G z223.1,z223.2,m9 X G z224.1,z224.2,m9 X G z225.1,z225.2,m9 X G z226.1,z226.2,m9 X G z227.1,z227.2,m9 X G z228.1,z228.2,m9 X G z229.1,z229.2,m9 X G z230.1,z230.2,m9 X G z231.1,z231.2,m9 X G z232.1,z232.2,m9 X G z233.1,z233.2,m9 X G z234,m9 X G z235,m9 X G z236,dP X G z237,dP X G z238,dP X G z239,dP X G z240,dP X G z241,dP X G z242,dP X G z243,dP X G z244,dP X G z245⟩
let S:Fns K t:=⟨fn1 z246,fn1 z247,fn1 z248,fn1 z249,fn1 z250,fn1 z251,fn1 z252,fn1 z253,fn1 z254,fn1 z255,fn1 z256,fn1 z257,fn1 z258,fn1 z259,_,FunT.mk' (st:=jL) z260 z261,jO.all λus hl=>by rw[lnx hl];rfl,fn1 z262,fn1 z263,fn1 z264,fn1 z265,fn1 z266,fn1 z267,fn1 z268,fn1 z269,fn1 z270,fn1 z271,fn1 z272,fn1 z273,fn1 z274,fn1 z275,fn1 z276,fn1 z277,fn1 z278,fn1 z279,fn1 z280,fn1 z281,_,(.ref z76),FunD.mk' (st:=yU) z282 z283,λs us kin hl=>by rw[lnx (us:=us) (n:=5) (by simpa using hl)];exact g8 rfl (kin _ _ z284) rfl rfl rfl,[.none],λs us kin hl=>by rw[lnx (us:=us) (n:=4) (by simpa using hl)];exact g8 rfl (kin _ _ z284) rfl rfl rfl,(.cons rfl .nil),[.int 1000000 e0_Chip_init,.none],λs us kin hl=>by rw[lnx (us:=us) (n:=3) (by simpa using hl)];exact g8 rfl (kin _ _ z284) rfl rfl rfl,(.cons ⟨_,rfl⟩ (.cons rfl .nil)),fn1 z285,fn1 z286,fn1 z287,fn1 z288,fn1 z289,fn1 z290,fn1 z291,fn1 z292,fn1 z293,fn1 z294,fn1 z295,fn1 z296,fn1 z297,_,(.ref z77),FunD.mk' (st:=yH) z298 z299,λs us kin hl=>by rw[lnx (us:=us) (n:=7) (by simpa using hl)];exact g8 rfl (kin _ _ z300) rfl rfl rfl,[.int 1000000 e1_Terms_init],λs us kin hl=>by rw[lnx (us:=us) (n:=6) (by simpa using hl)];exact g8 rfl (kin _ _ z300) rfl rfl rfl,(.cons ⟨_,rfl⟩ .nil),[.int 0 e0_Terms_init,.int 1000000 e1_Terms_init],λs us kin hl=>by rw[lnx (us:=us) (n:=5) (by simpa using hl)];exact g8 rfl (kin _ _ z300) rfl rfl rfl,(.cons ⟨_,rfl⟩ (.cons ⟨_,rfl⟩ .nil)),fn1 z301,fn1 z302,fn1 z303,fn1 z304,fn1 z305,fn1 z306,fn1 z307,fn1 z308,fn1 z309,fn1 z310,fn1 z311,fn1 z313⟩
exact⟨_,FnX.bind1 (by intros;rfl) S.law.F,λbase _ _ bm=>qFO T S bm⟩)
theorem walk{l:W.OpenLaw}{q:Program}{loose:List Str}{XP:(Str→Option Value)→Heap→Prop}{YP:World→Heap→Prop}{d:DefRec}{K:Params→W.Frag}(hn:l.most=some 63)(hdf:d.params.defaults=[])
 (hY:∀(w:World) (h:Heap),YP w h→(K w.params).In h∧∀T∈([316,589]:List Addr),h.get? T=some (W.tabObj #[])) (hT:∀w:World,∀T∈([316,589]:List Addr),(K w.params).lookup T=none∧∃c,W.codeHdIn (K w.params) c T=true)
 (F:∀(w:World) (mg:Str→Option Value) (fa:Addr) (h:Heap),(K w.params).In h→h.Ns mainGlobals mg→mg d.name=some (.ref fa)→∃fd:FuncData,(∀(s:Shared) (u:Value),BindsTo s fd ⟨[u],[]⟩ [("_law_script",u)])∧∀base:Heap,(K w.params).In base→base.Ns mainGlobals mg→BmIn base mg→FnOk l.prog w (K w.params) mg base (CX0) 19 fa fd ["_law_script"] (q2K (K w.params) [316,589])):
 W.WalkO q loose XP YP l.row.toRowW d [] (λf vs=>PySem.call f vs):=L2.qBP (n:=63) (k:=19) (x:="_law_script") (CX:=λ_=>CX0) (sp:=λw=>q2K (K w.params) [316,589]) [316,589] hn (by decide) hdf ⟨rfl,by decide,by decide⟩ hY hT F (λ_ _ a ns hl hS hT=>⟨a,ns,rfl,hS,hl,hT,λ_=>rfl⟩) (λ_ _ _ _ _ z=>z)
end W1
namespace PySem.W.Fast
theorem tw16506133829245222264:True:=⟨⟩
theorem tw1557655255992355969:True:=⟨⟩
theorem tw2596686663690435201:True:=⟨⟩
theorem tw16056658985747214434:True:=⟨⟩
theorem tw10586145615852436610:True:=⟨⟩
theorem tw8642028103824751778:True:=⟨⟩
theorem tw4822389925259868834:True:=⟨⟩
theorem tw180559402684684067:True:=⟨⟩
theorem tw16957255170543232835:True:=⟨⟩
theorem tw10120411063184986340:True:=⟨⟩
theorem tw15629658847463105284:True:=⟨⟩
theorem tw15448664384793347044:True:=⟨⟩
theorem tw15233144533618122149:True:=⟨⟩
theorem tw31771640147358693:True:=⟨⟩
theorem tw6773385739157222790:True:=⟨⟩
theorem tw13824359506600686022:True:=⟨⟩
theorem tw8641443597583277351:True:=⟨⟩
theorem tw16144598629897023304:True:=⟨⟩
theorem tw13577985004073390313:True:=⟨⟩
theorem tw6326393996071777577:True:=⟨⟩
theorem tw58183638421541194:True:=⟨⟩
theorem tw16730238533842298538:True:=⟨⟩
theorem tw14466212311213511691:True:=⟨⟩
theorem tw3830105976353241485:True:=⟨⟩
theorem tw3787974163114188269:True:=⟨⟩
theorem tw1136832403134749102:True:=⟨⟩
theorem tw8370294354188233134:True:=⟨⟩
theorem tw14137407636498385902:True:=⟨⟩
theorem tw17082908282101357743:True:=⟨⟩
theorem tw14287823803643148847:True:=⟨⟩
theorem tw7247551760777917039:True:=⟨⟩
theorem tw12037315694875231951:True:=⟨⟩
theorem tw13374544666655633840:True:=⟨⟩
theorem tw16117213593915559568:True:=⟨⟩
theorem tw11916482527459655440:True:=⟨⟩
theorem tw8684752807347030161:True:=⟨⟩
theorem tw16869156306678893713:True:=⟨⟩
theorem tw12421255114960201139:True:=⟨⟩
theorem tw7976300219515928403:True:=⟨⟩
theorem tw10352189193713596500:True:=⟨⟩
theorem tw2347583745947506388:True:=⟨⟩
theorem tw16657703754106518581:True:=⟨⟩
theorem tw18409706379600634549:True:=⟨⟩
theorem tw10183844170551418454:True:=⟨⟩
theorem tw232022531079765814:True:=⟨⟩
theorem tw14082681009380436918:True:=⟨⟩
theorem tw1586320159225470040:True:=⟨⟩
theorem tw4196748410578840984:True:=⟨⟩
theorem tw231937267391453273:True:=⟨⟩
theorem tw6300553974093640057:True:=⟨⟩
theorem tw12008668777703104921:True:=⟨⟩
theorem tw4868202842684840921:True:=⟨⟩
theorem tw2134494442967018747:True:=⟨⟩
theorem tw2881980103888446043:True:=⟨⟩
theorem tw9143983705925731868:True:=⟨⟩
theorem tw10093155549174299420:True:=⟨⟩
theorem tw3111096096801800188:True:=⟨⟩
theorem tw3710143448347337724:True:=⟨⟩
theorem tw10713270091285220509:True:=⟨⟩
theorem tw6941714082073064829:True:=⟨⟩
theorem tw17951520698471994941:True:=⟨⟩
theorem tw4368177678587796318:True:=⟨⟩
theorem tw9309681498554492095:True:=⟨⟩
theorem tw5420019416654428799:True:=⟨⟩
theorem tw18266985278662715039:True:=⟨⟩
theorem tw4589716917490723631:True:=⟨⟩
theorem tw4778654564867501151:True:=⟨⟩
theorem tw12400076811785255891:True:=⟨⟩
theorem tw8471758605545593213:True:=⟨⟩
theorem tw7571078045883088300:True:=⟨⟩
theorem tw6585104344018962443:True:=⟨⟩
theorem tw2260501597471379999:True:=⟨⟩
theorem tw7596958726727727746:True:=⟨⟩
theorem tw15733347324644194323:True:=⟨⟩
theorem tw4571375117245424211:True:=⟨⟩
theorem tw9863412488865962708:True:=⟨⟩
theorem tw11487737990962303739:True:=⟨⟩
theorem tw12941110075294808505:True:=⟨⟩
theorem tw219563469423036848:True:=⟨⟩
theorem tw14239176697868933925:True:=⟨⟩
theorem tw12603849928946624626:True:=⟨⟩
theorem tw1319147687523706265:True:=⟨⟩
theorem tw17909600880692528027:True:=⟨⟩
theorem tw2514693848927621483:True:=⟨⟩
theorem tw1700181339601041843:True:=⟨⟩
theorem tw13175893154616788581:True:=⟨⟩
theorem tw13563134620878757896:True:=⟨⟩
theorem tw11510777449682643927:True:=⟨⟩
theorem tw16007515388020588099:True:=⟨⟩
theorem tw16128145363524466035:True:=⟨⟩
theorem tw3518195677848370181:True:=⟨⟩
theorem tw14728642097198330388:True:=⟨⟩
theorem tw5737535433416141278:True:=⟨⟩
theorem tw12289998807373160529:True:=⟨⟩
theorem tw16533009419206938419:True:=⟨⟩
theorem tw2555634921216804733:True:=⟨⟩
theorem tw7697395471569190469:True:=⟨⟩
theorem tw5664737026524828529:True:=⟨⟩
theorem tw1799931931381297401:True:=⟨⟩
theorem tw1610731561867325638:True:=⟨⟩
theorem tw4554040799061458562:True:=⟨⟩
theorem tw14694005010338572707:True:=⟨⟩
theorem tw5966170882413746149:True:=⟨⟩
theorem tw17001282114170431330:True:=⟨⟩
theorem tw11411438585667194210:True:=⟨⟩
theorem tw11297285990513956053:True:=⟨⟩
theorem tw13044768804059253020:True:=⟨⟩
theorem tw1033422687937337778:True:=⟨⟩
theorem tw5076306155629371694:True:=⟨⟩
theorem tw6979159637454871564:True:=⟨⟩
theorem tw4182435203601495656:True:=⟨⟩
theorem tw17400480181580035637:True:=⟨⟩
theorem tw7514064648757243871:True:=⟨⟩
theorem tw8630224747622212394:True:=⟨⟩
theorem tw18411586609651295350:True:=⟨⟩
theorem tw7958130464104124012:True:=⟨⟩
theorem tw3698900664992770235:True:=⟨⟩
theorem tw9551320481874090050:True:=⟨⟩
theorem tw2522435683201151813:True:=⟨⟩
theorem tw1009574853935088664:True:=⟨⟩
theorem tw16298878933276215065:True:=⟨⟩
theorem tw12868074567615683447:True:=⟨⟩
theorem tw17707025887771615240:True:=⟨⟩
theorem tw11802875759179274322:True:=⟨⟩
theorem tw7981890977871463191:True:=⟨⟩
theorem tw15028020237074001960:True:=⟨⟩
theorem tw4925286865925316444:True:=⟨⟩
theorem tw8353883345086334499:True:=⟨⟩
theorem tw6923723081416571237:True:=⟨⟩
theorem tw15451305820483980984:True:=⟨⟩
theorem tw14381387843539713279:True:=⟨⟩
theorem tw14854221223062106489:True:=⟨⟩
theorem tw16627595083320581650:True:=⟨⟩
theorem tw5923127407823390055:True:=⟨⟩
theorem tw15573358363735718516:True:=⟨⟩
theorem tw4042784096398871609:True:=⟨⟩
theorem tw9869189440271680726:True:=⟨⟩
theorem tw8954567618371443709:True:=⟨⟩
theorem tw11803038829068319005:True:=⟨⟩
theorem tw15767137725108114617:True:=⟨⟩
theorem tw14957746758255774625:True:=⟨⟩
theorem tw3925726898348205442:True:=⟨⟩
theorem tw16300844027977817729:True:=⟨⟩
theorem tw6140925543778328046:True:=⟨⟩
theorem tw17798844787671271118:True:=⟨⟩
theorem tw11124969655422884219:True:=⟨⟩
theorem tw14727984572958687121:True:=⟨⟩
theorem tw4105818271389432802:True:=⟨⟩
theorem tw11095614300076852293:True:=⟨⟩
theorem tw13367269459501285133:True:=⟨⟩
theorem tw4614400619432881423:True:=⟨⟩
theorem tw3124863148939881257:True:=⟨⟩
theorem tw14587738232625235249:True:=⟨⟩
theorem tw17790883704312187075:True:=⟨⟩
theorem tw5898543495354698901:True:=⟨⟩
theorem tw11889133529932320964:True:=⟨⟩
theorem tw17615486486162389360:True:=⟨⟩
theorem tw12304549658232712588:True:=⟨⟩
theorem tw11462569898070569402:True:=⟨⟩
theorem tw9127743405401410312:True:=⟨⟩
theorem tw4125832897342432106:True:=⟨⟩
theorem tw1189932706924750778:True:=⟨⟩
theorem tw10000874381736400688:True:=⟨⟩
theorem tw15477678529762086545:True:=⟨⟩
theorem tw18277051118266294713:True:=⟨⟩
theorem tw12299507809659716076:True:=⟨⟩
theorem tw2093407263701391154:True:=⟨⟩
theorem tw16935743461372566011:True:=⟨⟩
theorem tw2261419537963882303:True:=⟨⟩
theorem tw3848446838561757184:True:=⟨⟩
theorem tw15342207893748407144:True:=⟨⟩
theorem tw10127913582918171162:True:=⟨⟩
theorem tw10789904998215415068:True:=⟨⟩
theorem tw7073603939683172644:True:=⟨⟩
theorem tw9354001344603910165:True:=⟨⟩
theorem tw2158285090007572233:True:=⟨⟩
theorem tw7560808922132148199:True:=⟨⟩
theorem tw17636985914078123887:True:=⟨⟩
theorem tw274583568423768293:True:=⟨⟩
theorem tw17579801519062414288:True:=⟨⟩
theorem tw5779189860041000500:True:=⟨⟩
theorem tw9759296860986825549:True:=⟨⟩
theorem tw1879965931080739697:True:=⟨⟩
theorem tw3349758846541467978:True:=⟨⟩
theorem tw11464417070351883230:True:=⟨⟩
theorem tw18083804292456309523:True:=⟨⟩
theorem tw17734743554306745489:True:=⟨⟩
theorem tw10728030215863320206:True:=⟨⟩
theorem tw1199495382435617065:True:=⟨⟩
theorem tw1066709920020163484:True:=⟨⟩
theorem tw5664379726988622438:True:=⟨⟩
theorem tw9328449667058056922:True:=⟨⟩
theorem tw15077358075220865753:True:=⟨⟩
theorem tw9875356762266048051:True:=⟨⟩
theorem tw3281902963089756981:True:=⟨⟩
theorem tw4839877219395357229:True:=⟨⟩
theorem tw68151483974350875:True:=⟨⟩
theorem tw9687816513776284321:True:=⟨⟩
theorem tw2745368155073651989:True:=⟨⟩
theorem tw6960282423206203402:True:=⟨⟩
theorem tw17960083094500766797:True:=⟨⟩
theorem tw6929716600877402232:True:=⟨⟩
theorem tw12245870097529769915:True:=⟨⟩
theorem tw3391750673104997422:True:=⟨⟩
theorem tw13398608660611595503:True:=⟨⟩
theorem tw1155232512996642550:True:=⟨⟩
theorem tw7550380516835031969:True:=⟨⟩
theorem tw1515484290238838875:True:=⟨⟩
theorem tw8532698647033312573:True:=⟨⟩
theorem tw15370127954007200326:True:=⟨⟩
theorem tw2556056624250056699:True:=⟨⟩
theorem tw743002131044261235:True:=⟨⟩
theorem tw11098527830782951375:True:=⟨⟩
theorem tw41705037674981626:True:=⟨⟩
theorem tw5908194153045812946:True:=⟨⟩
theorem tw4964053629943240576:True:=⟨⟩
theorem tw10814083528709446785:True:=⟨⟩
theorem tw8898828098713136145:True:=⟨⟩
theorem tw7143269726264447090:True:=⟨⟩
theorem tw16043269182045716670:True:=⟨⟩
theorem tw5649359279291561798:True:=⟨⟩
theorem tw16995261714453576268:True:=⟨⟩
theorem tw4306142205270386545:True:=⟨⟩
theorem tw6059137931051103537:True:=⟨⟩
theorem tw13963027286271350379:True:=⟨⟩
theorem tw2761300753775696834:True:=⟨⟩
theorem tw4033867786154680312:True:=⟨⟩
theorem tw6133318785298545747:True:=⟨⟩
theorem tw17116755042793472487:True:=⟨⟩
theorem tw5958847130742903793:True:=⟨⟩
theorem tw4238719938071458160:True:=⟨⟩
theorem tw8734871494637314404:True:=⟨⟩
theorem tw6922260189369310538:True:=⟨⟩
theorem tw14067875279282396383:True:=⟨⟩
theorem tw9941025488992985349:True:=⟨⟩
theorem tw6163666412236409934:True:=⟨⟩
theorem tw6394593092720365343:True:=⟨⟩
theorem tw3141223379407914089:True:=⟨⟩
theorem tw18078759951720657736:True:=⟨⟩
theorem tw9927135815334574760:True:=⟨⟩
theorem tw7143330258804359816:True:=⟨⟩
theorem tw2410286504752619957:True:=⟨⟩
theorem tw7101833215674488030:True:=⟨⟩
theorem tw14319798902642532741:True:=⟨⟩
theorem tw9930196517555141297:True:=⟨⟩
theorem tw12741853829278510169:True:=⟨⟩
theorem tw7706834085911542358:True:=⟨⟩
theorem tw3223993946459765917:True:=⟨⟩
theorem tw17434611322821438503:True:=⟨⟩
theorem tw11589062954447602709:True:=⟨⟩
theorem tw10746817261917576031:True:=⟨⟩
theorem tw8234972766719376238:True:=⟨⟩
theorem tw9454630284105651359:True:=⟨⟩
theorem tw377547686018937670:True:=⟨⟩
theorem tw14540485694378056144:True:=⟨⟩
theorem tw7689251703759226102:True:=⟨⟩
theorem tw2057219269624570903:True:=⟨⟩
theorem tw14066271069437781885:True:=⟨⟩
theorem tw1486234865703826653:True:=⟨⟩
theorem tw1424804567667559967:True:=⟨⟩
theorem tw11568644194774691957:True:=⟨⟩
theorem tw2210154211723179266:True:=⟨⟩
theorem tw14303917560509734426:True:=⟨⟩
theorem tw1429294271101289137:True:=⟨⟩
theorem tw17797230371134347146:True:=⟨⟩
theorem tw4458063452889760206:True:=⟨⟩
theorem tw5292848199140024686:True:=⟨⟩
theorem tw2559766702625745278:True:=⟨⟩
theorem tw8233998068450121501:True:=⟨⟩
theorem tw5892343471057132471:True:=⟨⟩
theorem tw2339304470829483608:True:=⟨⟩
theorem tw6430238592713888122:True:=⟨⟩
theorem tw14703510688845325300:True:=⟨⟩
theorem tw8067905047388178664:True:=⟨⟩
theorem tw6386138163937362198:True:=⟨⟩
theorem tw17033513716365149058:True:=⟨⟩
theorem tw16561639346464560350:True:=⟨⟩
theorem tw5243132868495952620:True:=⟨⟩
theorem tw4393478325405052824:True:=⟨⟩
theorem tw17442149538829167116:True:=⟨⟩
theorem tw12610788497369748094:True:=⟨⟩
theorem tw9125856787725196488:True:=⟨⟩
theorem tw3239257647295558419:True:=⟨⟩
theorem tw12801846893566546567:True:=⟨⟩
theorem tw6296252918949091341:True:=⟨⟩
theorem tw15572695803056562085:True:=⟨⟩
theorem tw6481070962890512055:True:=⟨⟩
theorem tw11920523401549868345:True:=⟨⟩
theorem tw16656680674371216672:True:=⟨⟩
theorem tw16155716993895374188:True:=⟨⟩
theorem tw3704136553051834684:True:=⟨⟩
theorem tw10985280125125611355:True:=⟨⟩
theorem tw6826852907204110471:True:=⟨⟩
theorem tw4035673080316044995:True:=⟨⟩
theorem tw3424495757858198606:True:=⟨⟩
theorem tw10865817319324091002:True:=⟨⟩
theorem tw9495019424438351334:True:=⟨⟩
theorem tw15968375916901404327:True:=⟨⟩
theorem tw15228449420605322403:True:=⟨⟩
theorem tw11803582968321423741:True:=⟨⟩
theorem tw4698645353449320056:True:=⟨⟩
theorem tw18333760311266629776:True:=⟨⟩
theorem tw14488923830640676398:True:=⟨⟩
theorem tw13990806210298336042:True:=⟨⟩
theorem tw12571287981660240648:True:=⟨⟩
theorem tw14634185995750159212:True:=⟨⟩
theorem tw17770770482663696664:True:=⟨⟩
theorem tw17516502697452976952:True:=⟨⟩
theorem tw2865871407586501167:True:=⟨⟩
theorem tw7457262075241606549:True:=⟨⟩
theorem tw602806135716984592:True:=⟨⟩
theorem tw12489779029181763485:True:=⟨⟩
theorem tw10858300842764525503:True:=⟨⟩
theorem tw7991630683413238891:True:=⟨⟩
theorem tw5618633419522241615:True:=⟨⟩
theorem tw17871381958170675325:True:=⟨⟩
theorem tw17432908545857832317:True:=⟨⟩
theorem tw9719283853377888454:True:=⟨⟩
theorem tw2697847878477281617:True:=⟨⟩
theorem tw12508493317251131953:True:=⟨⟩
theorem tw16643976666416531704:True:=⟨⟩
theorem tw3875837741486289282:True:=⟨⟩
theorem tw2637504976508284832:True:=⟨⟩
theorem tw17292411672950336424:True:=⟨⟩
theorem tw15127149294475224712:True:=⟨⟩
theorem tw13727317838647858302:True:=⟨⟩
theorem tw3136059621412537036:True:=⟨⟩
theorem tw4042857937229772532:True:=⟨⟩
theorem tw14999758595850405314:True:=⟨⟩
theorem tw9835851098877412569:True:=⟨⟩
theorem tw7493397024362444513:True:=⟨⟩
theorem tw6259101279998249857:True:=⟨⟩
theorem tw17560712100779733353:True:=⟨⟩
theorem tw18199302229406416640:True:=⟨⟩
theorem tw9790484289161456945:True:=⟨⟩
theorem tw4340148298015762575:True:=⟨⟩
theorem tw9597900561090951238:True:=⟨⟩
theorem tw4696066989369769161:True:=⟨⟩
theorem tw193102706924109516:True:=⟨⟩
theorem tw16242035888391238029:True:=⟨⟩
theorem tw10215822306100168297:True:=⟨⟩
theorem tw2714300297441125143:True:=⟨⟩
theorem tw15558996721504657626:True:=⟨⟩
theorem tw13659274019143150616:True:=⟨⟩
theorem tw7276286241901543979:True:=⟨⟩
theorem tw2093169423147803694:True:=⟨⟩
theorem tw16389886710999533934:True:=⟨⟩
theorem tw14709946146240373440:True:=⟨⟩
theorem tw11758743026429425115:True:=⟨⟩
theorem tw16263007032719516083:True:=⟨⟩
theorem tw17484208465888420103:True:=⟨⟩
theorem tw7766527262808541699:True:=⟨⟩
theorem tw6442580108520740427:True:=⟨⟩
theorem tw18306135947474074726:True:=⟨⟩
theorem tw7134436389216463487:True:=⟨⟩
theorem tw14804607532918481063:True:=⟨⟩
theorem tw6569975502914293220:True:=⟨⟩
theorem tw15069333394395636526:True:=⟨⟩
theorem tw2954222783412779250:True:=⟨⟩
theorem tw8314412293955742727:True:=⟨⟩
theorem tw2384547391212903310:True:=⟨⟩
theorem tw7273870521468642810:True:=⟨⟩
theorem tw6949829825369524016:True:=⟨⟩
theorem tw17312711392919281568:True:=⟨⟩
theorem tw1718066019824332345:True:=⟨⟩
theorem tw14653025454412526514:True:=⟨⟩
theorem tw1298531389707645939:True:=⟨⟩
theorem tw13993063299202635729:True:=⟨⟩
theorem tw7370877444696499529:True:=⟨⟩
theorem tw1512593248385905342:True:=⟨⟩
theorem tw332111540036650637:True:=⟨⟩
theorem tw135835393903871495:True:=⟨⟩
theorem tw12373777360236052751:True:=⟨⟩
theorem tw8854717976714142136:True:=⟨⟩
theorem tw12158932635791399668:True:=⟨⟩
theorem tw14799647697068631563:True:=⟨⟩
theorem tw8800234889093376042:True:=⟨⟩
theorem tw6589567714993905448:True:=⟨⟩
theorem tw5828670844302145556:True:=⟨⟩
theorem tw9407611503336311655:True:=⟨⟩
theorem tw9473024736126172268:True:=⟨⟩
theorem tw7880268408134074002:True:=⟨⟩
theorem tw5358066277352194452:True:=⟨⟩
theorem tw4161990365847101954:True:=⟨⟩
theorem tw15679581519748334853:True:=⟨⟩
theorem tw8242776755910365238:True:=⟨⟩
theorem tw301720308187920743:True:=⟨⟩
theorem tw11584986200326240329:True:=⟨⟩
theorem tw9582181219899861242:True:=⟨⟩
theorem tw947331147122198086:True:=⟨⟩
theorem tw4924064595088750673:True:=⟨⟩
theorem tw9766011382694220384:True:=⟨⟩
theorem tw922955702093322617:True:=⟨⟩
theorem tw7382627107943680231:True:=⟨⟩
theorem tw16779533740118673289:True:=⟨⟩
theorem tw15149110594614351078:True:=⟨⟩
theorem tw14015812897836993031:True:=⟨⟩
theorem tw12726826767883514342:True:=⟨⟩
theorem tw16165304702102079731:True:=⟨⟩
theorem tw2042953374002469378:True:=⟨⟩
theorem tw16852755347652914350:True:=⟨⟩
theorem tw12409125990803121440:True:=⟨⟩
theorem tw3108770666154916545:True:=⟨⟩
theorem tw15573002304305785777:True:=⟨⟩
theorem tw7213074728687165716:True:=⟨⟩
theorem tw17232500563793588011:True:=⟨⟩
theorem tw7576315340668517620:True:=⟨⟩
theorem tw17537691510958235784:True:=⟨⟩
theorem tw5567135308458161623:True:=⟨⟩
theorem tw11457636271041796521:True:=⟨⟩
theorem tw9782889724141628959:True:=⟨⟩
theorem tw4746038089216159295:True:=⟨⟩
theorem tw12969660654023526902:True:=⟨⟩
theorem tw17055386086173906014:True:=⟨⟩
theorem tw1066803012568774700:True:=⟨⟩
theorem tw17587347722806772711:True:=⟨⟩
theorem tw10074691763512466810:True:=⟨⟩
theorem tw12543486856102139760:True:=⟨⟩
theorem tw7034455706767499156:True:=⟨⟩
theorem tw1852785067775439215:True:=⟨⟩
theorem tw6131559116082423191:True:=⟨⟩
theorem tw230458403131233246:True:=⟨⟩
theorem tw15863378861860485276:True:=⟨⟩
theorem tw12766112767722994672:True:=⟨⟩
theorem tw9164479920399529036:True:=⟨⟩
theorem tw8757390897766476535:True:=⟨⟩
theorem tw16659224998060149498:True:=⟨⟩
theorem tw14757837844840624633:True:=⟨⟩
theorem tw284129649938916992:True:=⟨⟩
theorem tw17833436078200349892:True:=⟨⟩
theorem tw17657135873728768611:True:=⟨⟩
theorem tw12836635684192876428:True:=⟨⟩
theorem tw13361952055905499438:True:=⟨⟩
theorem tw7094884375723386198:True:=⟨⟩
theorem tw14942437683573175576:True:=⟨⟩
theorem tw4931495914645845155:True:=⟨⟩
theorem tw8658394081148971000:True:=⟨⟩
theorem tw8160578209644092464:True:=⟨⟩
theorem tw4022025386027014370:True:=⟨⟩
theorem tw14111041766396954323:True:=⟨⟩
theorem tw10855214244514003750:True:=⟨⟩
theorem tw2659802088797396207:True:=⟨⟩
theorem tw5478284126043045498:True:=⟨⟩
theorem tw7480187176690278597:True:=⟨⟩
theorem tw1106222471197525368:True:=⟨⟩
theorem tw9077443903764682874:True:=⟨⟩
theorem tw17672060591610303475:True:=⟨⟩
theorem tw3661017971037768432:True:=⟨⟩
theorem tw5747247330278915427:True:=⟨⟩
theorem tw14690656504393348254:True:=⟨⟩
theorem tw12247077811967702821:True:=⟨⟩
theorem tw15137519397978239932:True:=⟨⟩
theorem tw498442063851584692:True:=⟨⟩
theorem tw3321540128414902863:True:=⟨⟩
theorem tw1141635702988936376:True:=⟨⟩
theorem tw13157046244939469419:True:=⟨⟩
theorem tw9292717956574241576:True:=⟨⟩
theorem tw12107083421154820773:True:=⟨⟩
theorem tw938936334258627857:True:=⟨⟩
theorem tw8010295664187530826:True:=⟨⟩
theorem tw5022069848120729188:True:=⟨⟩
theorem tw4324186273572096844:True:=⟨⟩
theorem tw4171239897989441651:True:=⟨⟩
theorem tw3594222933532053645:True:=⟨⟩
theorem tw17414407927791151173:True:=⟨⟩
theorem tw15503519620284520421:True:=⟨⟩
theorem tw14002771573434550619:True:=⟨⟩
theorem tw10971024601386794583:True:=⟨⟩
theorem tw2654890312121846222:True:=⟨⟩
theorem tw1978293682067580144:True:=⟨⟩
theorem tw1960678370847983100:True:=⟨⟩
theorem tw15170357120791353272:True:=⟨⟩
theorem tw10690656510538964329:True:=⟨⟩
theorem tw10090574980043001319:True:=⟨⟩
theorem tw9947906979699498795:True:=⟨⟩
theorem tw9438723807329270465:True:=⟨⟩
theorem tw7501152861837509199:True:=⟨⟩
theorem tw6933310819363734105:True:=⟨⟩
theorem tw6564251742425826089:True:=⟨⟩
theorem tw6364616413713880670:True:=⟨⟩
theorem tw5951140772809330537:True:=⟨⟩
theorem tw5950833085301693784:True:=⟨⟩
theorem tw5009972871975017794:True:=⟨⟩
theorem tw4668632958029287808:True:=⟨⟩
theorem tw4458235500293458695:True:=⟨⟩
theorem tw4190043025951417352:True:=⟨⟩
theorem tw3893541545655399292:True:=⟨⟩
theorem tw3722872005519904631:True:=⟨⟩
theorem tw3620657555800870880:True:=⟨⟩
theorem tw3422553834847630689:True:=⟨⟩
theorem tw17976311605639074270:True:=⟨⟩
theorem tw17285350742926111023:True:=⟨⟩
theorem tw16249508596843754220:True:=⟨⟩
theorem tw14899139936298933001:True:=⟨⟩
theorem tw14612492601906866124:True:=⟨⟩
theorem tw14574493382250889889:True:=⟨⟩
theorem tw14394452629124297514:True:=⟨⟩
theorem tw12195458952641281579:True:=⟨⟩
theorem tw11974762241942158434:True:=⟨⟩
theorem tw11203261033393609798:True:=⟨⟩
theorem tw10321084346804334926:True:=⟨⟩
theorem tw190983701917410576:True:=⟨⟩
theorem tw18027078718475668017:True:=⟨⟩
theorem tw8128184885807429151:True:=⟨⟩
theorem tw3993978746278062235:True:=⟨⟩
theorem tw14703221382048174999:True:=⟨⟩
theorem tw4189771741482762541:True:=⟨⟩
theorem tw5713483645944863685:True:=⟨⟩
theorem tw12182432211853482588:True:=⟨⟩
theorem tw11154072031688044163:True:=⟨⟩
theorem tw4510027265281759192:True:=⟨⟩
theorem tw3157259260447776294:True:=⟨⟩
theorem tw14717654790455778530:True:=⟨⟩
theorem tw4740924992893755331:True:=⟨⟩
theorem tw1986821614223672799:True:=⟨⟩
theorem tw6110560448153110958:True:=⟨⟩
theorem tw8913072979588658221:True:=⟨⟩
theorem tw9943876664841007027:True:=⟨⟩
theorem tw9378489894567756175:True:=⟨⟩
theorem tw8278510838494434153:True:=⟨⟩
theorem tw7353093077527345342:True:=⟨⟩
theorem tw725419667837156111:True:=⟨⟩
theorem tw7057352251499823859:True:=⟨⟩
theorem tw5654206160307980842:True:=⟨⟩
theorem tw5479995111634338617:True:=⟨⟩
theorem tw262763915005349475:True:=⟨⟩
theorem tw17482584242203205210:True:=⟨⟩
theorem tw13352991252620820472:True:=⟨⟩
theorem tw13311201577303900600:True:=⟨⟩
theorem tw12614734806067231272:True:=⟨⟩
theorem tw1257562240358247817:True:=⟨⟩
theorem tw11571434654139309895:True:=⟨⟩
theorem tw11541259114930453097:True:=⟨⟩
theorem tw1131728464621677187:True:=⟨⟩
theorem tw11005742126379425697:True:=⟨⟩
theorem tw10870903204180214489:True:=⟨⟩
theorem tw10519277270453256410:True:=⟨⟩
theorem tw2006348577667733979:True:=⟨⟩
theorem tw9221631813873015203:True:=⟨⟩
theorem tw9131495218482804203:True:=⟨⟩
theorem tw8142162203817961875:True:=⟨⟩
theorem tw812882803299757556:True:=⟨⟩
theorem tw807987704448280549:True:=⟨⟩
theorem tw685100364155555722:True:=⟨⟩
theorem tw30947041775523598:True:=⟨⟩
theorem tw15852986693668249716:True:=⟨⟩
theorem tw14505084060431836726:True:=⟨⟩
theorem tw13006810338783017719:True:=⟨⟩
theorem tw12637836719301058072:True:=⟨⟩
theorem tw10535298324066139798:True:=⟨⟩
theorem tw1257610535752592080:True:=⟨⟩
theorem tw8495241480579846160:True:=⟨⟩
theorem tw505342772708451832:True:=⟨⟩
theorem tw13219991237110033029:True:=⟨⟩
theorem tw14556179361877758093:True:=⟨⟩
theorem tw7385299872309147441:True:=⟨⟩
theorem tw5613372728972754543:True:=⟨⟩
theorem tw13143280965116097805:True:=⟨⟩
theorem tw265542931754531166:True:=⟨⟩
theorem tw15694302366385475193:True:=⟨⟩
theorem tw2057878671790312433:True:=⟨⟩
theorem tw17326142970378135477:True:=⟨⟩
theorem tw16151501393189036714:True:=⟨⟩
theorem tw13586733861272644465:True:=⟨⟩
theorem tw8322309891175462547:True:=⟨⟩
theorem tw9522747812926474979:True:=⟨⟩
theorem tw8528130952699964251:True:=⟨⟩
theorem tw751250324337510273:True:=⟨⟩
theorem tw1718684722513636458:True:=⟨⟩
theorem tw16745299221844963325:True:=⟨⟩
theorem tw15185091886507072243:True:=⟨⟩
theorem tw1460227242934854111:True:=⟨⟩
theorem tw14274309172825392512:True:=⟨⟩
theorem tw14095384978192324429:True:=⟨⟩
theorem tw8237162099890305187:True:=⟨⟩
theorem tw6589702154122468258:True:=⟨⟩
theorem tw5529473478058445352:True:=⟨⟩
theorem tw5339366106661245492:True:=⟨⟩
theorem tw4667980675908866324:True:=⟨⟩
theorem tw4536269835516619051:True:=⟨⟩
theorem tw4044567190616483407:True:=⟨⟩
theorem tw17860427599876832088:True:=⟨⟩
theorem tw17726696664198519852:True:=⟨⟩
theorem tw15755481716645892465:True:=⟨⟩
theorem tw13366933158819792963:True:=⟨⟩
theorem tw12242651837678575880:True:=⟨⟩
theorem tw11132738578469861345:True:=⟨⟩
theorem tw10530560494200855780:True:=⟨⟩
theorem tw5350251521099331175:True:=⟨⟩
theorem tw8040739885675726784:True:=⟨⟩
theorem tw5212311952746067345:True:=⟨⟩
theorem tw17298794614533552625:True:=⟨⟩
theorem tw1110953181325783548:True:=⟨⟩
theorem tw9258532982576088748:True:=⟨⟩
theorem tw6451486178160319395:True:=⟨⟩
theorem tw8347279885668652421:True:=⟨⟩
theorem tw9682624057853036484:True:=⟨⟩
theorem tw9821606748343815698:True:=⟨⟩
theorem tw7948939022518939326:True:=⟨⟩
theorem tw6145763448123680084:True:=⟨⟩
theorem tw13594275495290597148:True:=⟨⟩
theorem tw2025177416271745511:True:=⟨⟩
theorem tw10804418011599322472:True:=⟨⟩
theorem tw8790353381388907360:True:=⟨⟩
theorem tw8623685866004849970:True:=⟨⟩
theorem tw8225067700769104923:True:=⟨⟩
theorem tw7916941449569586399:True:=⟨⟩
theorem tw7905738159087918492:True:=⟨⟩
theorem tw7427823844695674851:True:=⟨⟩
theorem tw7033423509302801632:True:=⟨⟩
theorem tw6735159037795569960:True:=⟨⟩
theorem tw597388485960332262:True:=⟨⟩
theorem tw5689409483590715486:True:=⟨⟩
theorem tw5622323067916422421:True:=⟨⟩
theorem tw5186849255734825329:True:=⟨⟩
theorem tw4221573043444960850:True:=⟨⟩
theorem tw3816135926541905194:True:=⟨⟩
theorem tw3244365958239616257:True:=⟨⟩
theorem tw3217088353169387660:True:=⟨⟩
theorem tw2862341751010456264:True:=⟨⟩
theorem tw2412796361929660023:True:=⟨⟩
theorem tw2263551917452662865:True:=⟨⟩
theorem tw1980634969312817029:True:=⟨⟩
theorem tw17244425925250217951:True:=⟨⟩
theorem tw16276426236226528634:True:=⟨⟩
theorem tw15522119500299638967:True:=⟨⟩
theorem tw15195038600875704602:True:=⟨⟩
theorem tw14765926957383402143:True:=⟨⟩
theorem tw13838084475306734912:True:=⟨⟩
theorem tw12540258958809995247:True:=⟨⟩
theorem tw5877971562495679380:True:=⟨⟩
theorem tw17731417019924362620:True:=⟨⟩
theorem tw16769311579623160863:True:=⟨⟩
theorem tw11128612386492487957:True:=⟨⟩
theorem tw17786589306710236179:True:=⟨⟩
theorem tw8569001057615769229:True:=⟨⟩
theorem tw8002652510168030342:True:=⟨⟩
theorem tw7835685577501904870:True:=⟨⟩
theorem tw5993408666324197328:True:=⟨⟩
theorem tw5445103820105924952:True:=⟨⟩
theorem tw4183132880260885010:True:=⟨⟩
theorem tw4081714402377286358:True:=⟨⟩
theorem tw1864270405311678060:True:=⟨⟩
theorem tw18245463809621628466:True:=⟨⟩
theorem tw17855565239632227207:True:=⟨⟩
theorem tw17729971497690462449:True:=⟨⟩
theorem tw17629565781837454572:True:=⟨⟩
theorem tw14937986115279837387:True:=⟨⟩
theorem tw14591772690686733700:True:=⟨⟩
theorem tw13538158438725474973:True:=⟨⟩
theorem tw13125277714423053578:True:=⟨⟩
theorem tw13058428925837922318:True:=⟨⟩
theorem tw12766130343698324377:True:=⟨⟩
theorem tw10545186133657111733:True:=⟨⟩
theorem tw13351591928244237760:True:=⟨⟩
theorem tw9572190010712889540:True:=⟨⟩
theorem tw742390584314110903:True:=⟨⟩
theorem tw5967221501473765447:True:=⟨⟩
theorem tw5730203004053390269:True:=⟨⟩
theorem tw4746999444238413283:True:=⟨⟩
theorem tw17742578670159339664:True:=⟨⟩
theorem tw14605409751620511796:True:=⟨⟩
theorem tw10336277684294771192:True:=⟨⟩
end PySem.W.Fast
open PySem PySem.W PyProof.Rows
set_option maxRecDepth 100000 in
theorem PySem.Challenge.cw_wornpages_k51_a_put_that_fails_holds : PySem.Challenge.rw_wornpages_k51_a_put_that_fails.Holds := by
 (
w_on;o_law;k_head;(case hw=>w_witness2)
k_fill
refine W1.walk (l:=PySem.Challenge.rw_wornpages_k51_a_put_that_fails) rfl rfl (λw h Y=>⟨W.km_in_of Y,λT hT=>W.km_tabs_of Y T (by simp at hT ⊢;first|exact hT|exact hT.symm)⟩) (?T) ?F
case T=>
 intro w T hT;have hT:T=316∨T=589:=by simpa using hT
 rcases hT with rfl|rfl
 ·exact⟨by kernel_rfl,318,by kernel_rfl⟩
 exact⟨by kernel_rfl,593,by kernel_rfl⟩
case F=>
 intro w mg fa h KX G hmg;refine' W1.qFP (z1:=316) (z0:=318) (z3:=589) (z2:=593) KX G hmg ?_ ?_ ?_ ?_ ?_ ?_ ?_ ?_ ?_ ?_ ?_ ?_ ?_ ?_ ?_ ?_ ?_ ?_ ?_ ?_ ?_ ?_ ?_ ?_ ?_ ?_ ?_ ?_ ?_ ?_ ?_ ?_ ?_ ?_ ?_ ?_ ?_ ?_ ?_ ?_ ?_ ?_ ?_ ?_ ?_ ?_ ?_ ?_ ?_ ?_ ?_ ?_ ?_ ?_ ?_ ?_ ?_ ?_ ?_ ?_ ?_ ?_ ?_ ?_ ?_ ?_ ?_ ?_ ?_ ?_ ?_ ?_ ?_ ?_ ?_ ?_ ?_ ?_ ?_ ?_ ?_ ?_ ?_ ?_ ?_ ?_ ?_ ?_ ?_ ?_ ?_ ?_ ?_ ?_ ?_ ?_ ?_ ?_ ?_ ?_ ?_ ?_ ?_ ?_ ?_ ?_ ?_ ?_ ?_ ?_ ?_ ?_ ?_ ?_ ?_ ?_ ?_ ?_ ?_ ?_ ?_ ?_ ?_ ?_ ?_ ?_ ?_ ?_ ?_ ?_ ?_ ?_ ?_ ?_ ?_ ?_ ?_ ?_ ?_ ?_ ?_ ?_ ?_ ?_ ?_ ?_ ?_ ?_ ?_ ?_ ?_ ?_ ?_ ?_ ?_ ?_ ?_ ?_ ?_ ?_ ?_ ?_ ?_ ?_ ?_ ?_ ?_ ?_ ?_ ?_ ?_ ?_ ?_ ?_ ?_ ?_ ?_ ?_ ?_ ?_ ?_ ?_ ?_ ?_ ?_ ?_ ?_ ?_ ?_ ?_ ?_ ?_ ?_ ?_ ?_ ?_ ?_ ?_ ?_ ?_
 any_goals first|k_is|(refine' L2.FnX.of ?fa ?fb;(case fa=>k_is);(case fb=>k_is))|((first|apply And.intro|apply L2.Meth.mk|apply L2.Mk.mk|apply L2.Cls.mk|apply L2.XAt.mk|apply L2.BIni.mk|apply L2.ClM.mk|apply L2.XRd.mk)<;>first|k_is|kernel_rfl)|(show W.findIn _ _ _=_;k_is)
 all_goals first|k_exc|kts_exm|kit_is|kernel_rfl|decide)
