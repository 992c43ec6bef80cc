import PyProof.Rows.All
import Wide.All
import OpenK.AllK
import Wide.FinOn
import Lean
import PyProof.EqAt
import PyProof.EqKinds
import PyProof.TupleCall
import PyProof.StationsW
import PyProof.NsDelKeeps
import PyProof.PassesOwn
import PyProof.ZipIter
import PyProof.NeKinds
import PyProof.CompFree
import KE.KDictList
import PyProof.ConsumeWalk
import PyProof.WalkInts
import PyProof.WalksMore
import PyProof.SumAny
import PyProof.Rows.MinMaxN
import PyProof.Rows.SortWalk
import PyProof.ListRange
import KE.KTupSum
import PyProof.EnumFor
import PyProof.EnumMake
import PyProof.EnumStmt
import OpenK.KMake
import PyProof.DictWalks
import PyProof.FitsBits
import PyProof.CompUse
import KE.KSortTup
import PyProof.MinMaxWalk
import PyProof.SeqI3
import PyProof.DictItems
import KE.KItemsList
import KE.KEqDict
import KE.KDictSum
import PyProof.DictValues
import KE.KLam
import KE.KNestM
import PyProof.ExcClass3
import PyProof.Rows.SetFrom
import KE.KRangeStep
import PySem.Challenge.RW_wornpages_k71_moves_by_rules
set_option Elab.async false
set_option linter.all false
set_option maxRecDepth 100000
set_option maxHeartbeats 0
noncomputable abbrev hC:=@List.length_map
noncomputable abbrev hE:=@List.getElem?_eq_getElem
noncomputable abbrev hG:=@List.getElem?_eq_some_iff
noncomputable abbrev hI:=@decide_eq_true
noncomputable abbrev hU:=@List.getD_eq_getElem?_getD
noncomputable abbrev hV:=@decide_eq_false
noncomputable abbrev hX:=@if_neg
noncomputable abbrev hZ:=@PySem.Heap.get?_push_of_some
noncomputable abbrev kC:=@List.mem_singleton
noncomputable abbrev kD:=@PySem.wpAny_bind
noncomputable abbrev kE:=@List.mem_cons_of_mem
noncomputable abbrev kF:=@Option.some.inj
noncomputable abbrev kG:=@if_pos
noncomputable abbrev kI:=@List.mem_cons
noncomputable abbrev kJ:=@Bool.false_ne_true
noncomputable abbrev kM:=@Nat.le_refl
noncomputable abbrev kN:=@List.getElem?_map
noncomputable abbrev kO:=@PySem.Heap.lt_size
noncomputable abbrev kP:=@of_decide_eq_true
noncomputable abbrev kQ:=@List.size_toArray
noncomputable abbrev kU:=@List.map_append
noncomputable abbrev kW:=@decide_eq_true_eq
noncomputable abbrev kX:=@List.mem_map
noncomputable abbrev kY:=@List.length_filter_le
noncomputable abbrev kZ:=@PySem.wpAny_pure
noncomputable abbrev k8:=@List.length_append
noncomputable abbrev mB:=@List.take_append_getElem
noncomputable abbrev mC:=@Nat.lt_of_lt_of_le
noncomputable abbrev mD:=@Nat.le_trans
noncomputable abbrev mE:=@PySem.Heap.get?_update_other
noncomputable abbrev mF:=@Option.map_eq_some_iff
noncomputable abbrev mG:=@List.mem_of_getElem?
noncomputable abbrev mH:=@Int.toNat_natCast
noncomputable abbrev mI:=@PySem.Heap.get?_push_size
noncomputable abbrev mJ:=@List.map_cons
noncomputable abbrev mK:=@List.mem_range
noncomputable abbrev mL:=@List.mem_cons_self
noncomputable abbrev mM:=@Nat.ne_of_lt
noncomputable abbrev mN:=@Nat.zero_le
noncomputable abbrev mO:=@List.mem_append_right
noncomputable abbrev mP:=@List.length_cons
noncomputable abbrev mQ:=@List.nodup_cons
noncomputable abbrev mR:=@List.length_range
noncomputable abbrev mS:=@List.length_replicate
noncomputable abbrev mT:=@Bool.and_eq_true
noncomputable abbrev mU:=@List.getElem_mem
noncomputable abbrev mV:=@List.length_set
noncomputable abbrev mW:=@Array.length_toList
noncomputable abbrev mY:=@List.filter_cons
noncomputable abbrev mZ:=@List.take_length
noncomputable abbrev m7:=@PySem.boot_len
noncomputable abbrev m8:=@PySem.W.mg_of
noncomputable abbrev m9:=@List.mem_filter
noncomputable abbrev gA:=@List.length_take
noncomputable abbrev gB:=@List.append_nil
noncomputable abbrev gC:=@List.pairwise_map
noncomputable abbrev gD:=@PySem.sizeLine_eq
noncomputable abbrev gE:=@List.getElem?_replicate
noncomputable abbrev gF:=@List.mem_append
noncomputable abbrev gG:=@List.not_mem_nil
noncomputable abbrev gI:=@List.filter_append
noncomputable abbrev gJ:=@PySem.mem_of_lookup
noncomputable abbrev gK:=@List.getElem_of_mem
noncomputable abbrev gL:=@PySem.wpAny_truthy_bool
noncomputable abbrev gM:=@Nat.mul_le_mul_right
noncomputable abbrev gO:=@List.mem_of_find?_eq_some
noncomputable abbrev gQ:=@PySem.W.kia_one
noncomputable abbrev gR:=@PySem.PassesOwn.never
noncomputable abbrev gU:=@PySem.wpAny_holding
noncomputable abbrev gW:=@List.all_eq_true
noncomputable abbrev gX:=@Nat.lt_irrefl
noncomputable abbrev gY:=@List.sum_cons
noncomputable abbrev g7:=@Nat.ne_of_gt
noncomputable abbrev g8:=@List.find?_some
noncomputable abbrev g9:=@PySem.W.mg_none_of
noncomputable abbrev dA:=@PySem.wpAny_Call_Name_kw
noncomputable abbrev dB:=@congrArg
noncomputable abbrev dC:=@Nat.le_succ
noncomputable abbrev dD:=@Int.le_refl
noncomputable abbrev dE:=@List.any_eq_true
noncomputable abbrev dF:=@decide_eq_decide
noncomputable abbrev dO:=@List.find?_cons
noncomputable abbrev dW:=@Bool.not_eq_true'
noncomputable abbrev dY:=@PySem.wpAny_mono
noncomputable abbrev d9:=@PySem.BindsTo.of_defaults
noncomputable abbrev rC:=@PySem.F.plain_min_loop
noncomputable abbrev rH:=@List.getElem?_eq_none
noncomputable abbrev rM:=@PySem.wpAny_passesOwn
noncomputable abbrev rO:=@List.getElem?_set_ne
noncomputable abbrev rY:=@List.find?_eq_none
noncomputable abbrev wE:=@PyProof.Rows.listUpdate_at
noncomputable abbrev wH:=@List.getElem?_append_right
noncomputable abbrev wY:=@List.getElem?_set_self
noncomputable abbrev cH:=@PySem.Heap.get?_update_self
noncomputable abbrev cT:=@PySem.Heap.get?_none_of_le
noncomputable abbrev pC:=@Array.getD_eq_getD_getElem?
noncomputable abbrev pM:=@List.head?_filter
set_option genSizeOf false
namespace L2
open PySem PySem.Spec PyProof.Rows
noncomputable abbrev Key:=Sum Int Str
noncomputable def q8E:Key→Value→Bool
 | .inl k,v=>Value.isInt k v
 | .inr x,v=>Value.isStrOf x v
noncomputable def keyH(w:World):Key→Int
 | .inl k=>hashInt k
 | .inr x=>hashStr w x
theorem yJ:∀{k:Key} {v:Value},q8E k v=true→(∃i t,k=Sum.inl i∧v=Value.int i t)∨(∃x t,k=Sum.inr x∧v=Value.str x t)
 | .inl i,v,h=>by
  obtain⟨t,e⟩:=Value.isInt_shape (k:=i) (v:=v) h
  exact .inl ⟨i,t,rfl,e⟩
 | .inr x,v,h=>by
  obtain⟨t,e⟩:=Value.isStrOf_shape (x:=x) (v:=v) h
  exact .inr ⟨x,t,rfl,e⟩
theorem qDQ(i:Int)(t:Tok):q8E (.inl i) (.int i t)=true:=by simp[q8E,Value.isInt]
theorem qDR(x:Str)(t:Tok):q8E (.inr x) (.str x t)=true:=by simp[q8E,Value.isStrOf]
theorem qID(a b:Int):decide ((Sum.inl a:Key)=Sum.inl b)=(a==b):=by
 by_cases e:a=b
 ·subst e;simp
 ·have h:¬(Sum.inl a:Key)=Sum.inl b:=λq=>e (Sum.inl.inj q)
  rw[hV h]
  exact(beq_eq_false_iff_ne.mpr e).symm
theorem qIE(a b:Str):decide ((Sum.inr a:Key)=Sum.inr b)=decide (a=b):=by
 by_cases e:a=b
 ·subst e;simp
 ·have h:¬(Sum.inr a:Key)=Sum.inr b:=λq=>e (Sum.inr.inj q)
  rw[hV h,hV e]
theorem qIF(a:Int)(b:Str):decide ((Sum.inl a:Key)=Sum.inr b)=false:=hV (λq=>nomatch q)
theorem qIG(a:Str)(b:Int):decide ((Sum.inr a:Key)=Sum.inl b)=false:=hV (λq=>nomatch q)
noncomputable def jZ(prog:Program)(w:World):PySem.KeyKind prog w Key where
 is:=q8E
 hash:=keyH w
 inj:=λv a b ha hb=>by
  rcases yJ ha with⟨i,t,rfl,rfl⟩|⟨x,t,rfl,rfl⟩
  ·rcases yJ hb with⟨j,u,rfl,e⟩|⟨y,u,rfl,e⟩
   ·injection e with e1 _;rw[e1]
   ·exact nomatch e
  ·rcases yJ hb with⟨j,u,rfl,e⟩|⟨y,u,rfl,e⟩
   ·exact nomatch e
   ·injection e with e1 _;rw[e1]
 byValue:=λk v h=>by
  rcases yJ h with⟨i,t,rfl,rfl⟩|⟨x,t,rfl,rfl⟩<;>rfl
 pyHash:=λhv h=>by
  rcases yJ hv with⟨i,t,rfl,rfl⟩|⟨x,t,rfl,rfl⟩
  ·exact wpAny_pyHash_int h
  ·exact wpAny_pyHash_str h
 eqBool:=λhu hv h=>by
  rcases yJ hu with⟨i,t,rfl,rfl⟩|⟨x,t,rfl,rfl⟩
  ·rcases yJ hv with⟨j,u,rfl,rfl⟩|⟨y,u,rfl,rfl⟩
   ·rw[qID]at h;exact wpAny_eqBool_int h
   ·rw[qIF]at h;exact SeqAt.EqAt.int_str i t y u _ _ _ _ h
  ·rcases yJ hv with⟨j,u,rfl,rfl⟩|⟨y,u,rfl,rfl⟩
   ·rw[qIG]at h;exact SeqAt.EqAt.str_int x t j u _ _ _ _ h
   ·rw[qIE]at h;exact wpAny_eqBool_str h
 «strs»:=λk x t v h=>by
  rcases yJ h with⟨i,u,rfl,e⟩|⟨y,u,rfl,e⟩
  ·exact nomatch e
  ·injection e with e1 _
   subst e1
   cases v<;>rfl
theorem qAC(prog:Program)(w:World)(i:Int)(t:Tok):(jZ prog w).is (.inl i) (.int i t)=true:=qDQ i t
theorem qAD(prog:Program)(w:World)(x:Str)(t:Tok):(jZ prog w).is (.inr x) (.str x t)=true:=qDR x t
inductive V where
 |non|bl (b:Bool)|int (i:Int)|str (x:Str)|byt (b:Array UInt8)|flt (b:UInt64)|ref (a:Addr)|ty (n:String)
 deriving DecidableEq
noncomputable def RelV:V→Value→Prop
 | .non,u=>u=Value.none
 | .bl b,u=>u=Value.bool b
 | .int i,u=>∃t,u=Value.int i t
 | .str x,u=>∃t,u=Value.str x t
 | .byt b,u=>∃t,u=Value.bytes b t
 | .flt b,u=>∃t,u=Value.float b t
 | .ref a,u=>u=Value.ref a
 | .ty n,u=>u=Value.type n
noncomputable abbrev Vals:List V→List Value→Prop:=Paired RelV
theorem Vals.length{xs:List V}{us:List Value}(r:Vals xs us):xs.length=us.length:=Paired.length r
theorem Vals.get:∀{xs:List V} {us:List Value} {i:Nat} {x:V},Vals xs us→xs[i]?=some x→∃u,us[i]?=some u∧RelV x u
 |_,_,_,_,.nil,e=>by simp at e
 |_,_,0,_,.cons r _,e=>by simp at e;subst e;exact⟨_,rfl,r⟩
 |_,_,i+1,x,.cons _ t,e=>by
  obtain⟨u,h1,h2⟩:=Vals.get (i:=i) (x:=x) t (by simpa using e)
  exact⟨u,by simpa using h1,h2⟩
theorem Vals.set{x:V}{u:Value}(r:RelV x u):∀{xs:List V} {us:List Value} (i:Nat),Vals xs us→Vals (xs.set i x) (us.set i u)
 |_,_,_,.nil=>.nil
 |_,_,0,.cons _ t=>.cons r t
 |_,_,i+1,.cons q t=>.cons q (Vals.set r i t)
theorem Vals.append:∀{xs ys:List V} {us ws:List Value},Vals xs us→Vals ys ws→Vals (xs++ys) (us++ws)
 |_,_,_,_,.nil,s=>s
 |_,_,_,_,.cons r t,s=>.cons r (Vals.append t s)
theorem Vals.take:∀{xs:List V} {us:List Value} (n:Nat),Vals xs us→Vals (xs.take n) (us.take n)
 |_,_,0,_=>.nil
 |_,_,_ +1,.nil=>.nil
 |_,_,n+1,.cons r t=>.cons r (Vals.take n t)
theorem Vals.drop:∀{xs:List V} {us:List Value} (n:Nat),Vals xs us→Vals (xs.drop n) (us.drop n)
 |_,_,0,r=>r
 |_,_,_ +1,.nil=>.nil
 |_,_,n+1,.cons _ t=>Vals.drop n t
noncomputable def RelO:Option V→Option Value→Prop
 |some v,some u=>RelV v u
 |none,none=>True
 |_,_=>False
noncomputable def KV{κ:Type}:List (κ×V)→List (κ×Value)→Prop:=Paired λ(p:κ×V) (q:κ×Value)=>p.1=q.1∧RelV p.2 q.2
noncomputable def kV:Key→V
 | .inl i=>.int i
 | .inr x=>.str x
inductive HO where
 |lst (xs:List V)
 |tup (xs:List V)
 |dK (kvs:List (Key×V))|dT (kvs:List (List Key×V))
 |set (S:Int→Bool) (n:Nat)
 |ins (C dx:Addr) (fs:List (Str×V))
 |own (x:Addr)
 |xd (fs:List (Str×V))
 |met (f x:Addr)
 |rng (lo hi:Int)
 |frz (o:Obj) (u:HO)
 |tbl (ps:Array Value)
 |ext (φ:Heap→Prop)
noncomputable abbrev Hp:=Addr→Option HO
noncomputable def upd(H:Hp)(a:Addr)(o:HO):Hp:=λb=>if b=a then some o else H b
theorem qH{H:Hp}{a:Addr}{o:HO}:upd H a o a=some o:=by unfold upd;rw[kG rfl]
theorem qD{H:Hp}{a b:Addr}{o:HO}(h:b≠a):upd H a o b=H b:=by unfold upd;rw[hX h]
theorem uI{H:Hp}{a:Addr}{o u:HO}:upd (upd H a o) a u=upd H a u:=by
 funext b;unfold upd;split<;>rfl
theorem jV{H:Hp}{a b:Addr}{o u:HO}(h:H a=some o)(h':H b=some u)(d:o≠u):a≠b:=by
 intro e;subst e;rw[h]at h';exact d (kF h')
theorem qI{H:Hp}{a b:Addr}{o:HO}(h:H a=some o)(h':H b=none):a≠b:=by
 intro e;subst e;rw[h]at h';cases h'
section
variable(P:Program)(w:World)
noncomputable def jN(H:Hp)(h:Heap)(a:Addr):HO→Prop
 | .lst xs=>xs.length≤sizeLine∧∃(its:List Value) (n:Nat),Vals xs its∧h.get? a=some { cls:=.type "list",data:=.seq its.toArray n }
 | .tup xs=>xs.length≤sizeLine∧∃its:List Value,Vals xs its∧IsTup h a its.toArray
 | .dK kvs=>kvs.length≤sizeLine∧(a==sysModules)=false∧∃vs,KV kvs vs∧h.DictOf (jZ P w) a vs
 | .dT kvs=>kvs.length≤sizeLine∧(a==sysModules)=false∧∃xs:List (List Key×Addr×Value),
   Paired (λ(p:List Key×V) (q:List Key×Addr×Value)=>p.1=q.1∧H q.2.1=some (.tup (p.1.map kV))∧RelV p.2 q.2.2) kvs xs∧
   ∃o es ep,h.get? a=some o∧o.ExactDict∧o.data=.dict es ep∧es.toList=xs.map (entryOfKey (tupleKind (jZ P w)))∧(xs.map (·.1)).Nodup
 | .set S n=>h.SetOf (intKind P w) a S n
 | .ins C dx fs=>H dx=some (.own a)∧fs.length≤1000∧dx≠a∧h.get? a=some (PySem.W.instObj C dx)∧
   ∃mA,h.Ns1 dx mA∧(∀f,RelO (fs.lookup f) (mA f))∧PySem.Within mA (fs.map (·.1))
 | .own _=>∃o,h.get? a=some o
 | .xd fs=>∃mA,h.Ns1 a mA∧∀f,RelO (fs.lookup f) (mA f)
 | .rng lo hi=>∃t u v,h.get? a=some { cls:=.type "range",data:=.fields #[.int lo t,.int hi u,.int 1 v] }
 | .frz o u=>h.get? a=some o∧jN H h a u
 | .tbl ps=>h.get? a=some { cls:=.none,data:=.fields ps }
 | .met f x=>h.get? a=some (PySem.W.methodObj (.ref f) (.ref x))
 | .ext φ=>φ h∧(∃o,h.get? a=some o)∧∀h1 h2:Heap,φ h1→(∀o,h1.get? a=some o→h2.get? a=some o)→φ h2
noncomputable def HOk(H:Hp)(h:Heap):Prop:=∀a o,H a=some o→jN P w H h a o
end
section
variable{P:Program}{w:World}{H H':Hp}{h h':Heap}{a:Addr}{o:HO}
theorem jN.lt(x:jN P w H h a o):a<h.objs.size:=by
 cases o with
 |lst xs=>obtain⟨_,_,_,_,e⟩:=x;exact kO e
 |tup xs=>obtain⟨_,_,_,p⟩:=x;exact p.lt
 |dK kvs=>obtain⟨_,_,_,_,o,_,_,e,_⟩:=x;exact kO e
 |dT kvs=>obtain⟨_,_,_,_,o,_,_,e,_⟩:=x;exact kO e
 |set S n=>obtain⟨o,_,_,_,e,_⟩:=x;exact kO e
 |ins C dx fs=>obtain⟨_,_,_,e,_⟩:=x;exact kO e
 |own y=>obtain⟨_,e⟩:=x;exact kO e
 |xd fs=>obtain⟨_,⟨_,_,_,e,_⟩,_⟩:=x;exact kO e
 |rng lo hi=>obtain⟨_,_,_,e⟩:=x;exact kO e
 |frz ob u=>obtain⟨e,_⟩:=x;exact kO e
 |tbl ps=>exact kO (show h.get? a=some _ from x)
 |met f y=>exact kO (show h.get? a=some _ from x)
 |ext φ=>obtain⟨_,⟨_,e⟩,_⟩:=x;exact kO e
theorem Paired.mapP{α β:Type}{F G:α→β→Prop}:∀{l₁:List α} {l₂:List β},Paired F l₁ l₂→(∀a b,F a b→G a b)→Paired G l₁ l₂
 |_,_,.nil,_=>.nil
 |_,_,.cons r t,f=>.cons (f _ _ r) (Paired.mapP t f)
theorem jN.stay(x:jN P w H h a o)(k:∀b u,(b=a∨H b=some (.own a))→h.get? b=some u→h'.get? b=some u)
 (ho:∀b,H b=some (.own a)→H' b=some (.own a)) (ht:∀b xs,H b=some (.tup xs)→H' b=some (.tup xs)):jN P w H' h' a o:=by
 induction o with
 |lst xs=>obtain⟨z,its,n,r,e⟩:=x;exact⟨z,its,n,r,k _ _ (.inl rfl) e⟩
 |tup xs=>obtain⟨z,its,r,ob,e,c⟩:=x;exact⟨z,its,r,ob,k _ _ (.inl rfl) e,c⟩
 |dK kvs=>obtain⟨z,y,vs,r,ob,es,ep,e,c⟩:=x;exact⟨z,y,vs,r,ob,es,ep,k _ _ (.inl rfl) e,c⟩
 |dT kvs=>
  obtain⟨z,y,xs,r,ob,es,ep,e,c⟩:=x
  exact⟨z,y,xs,Paired.mapP r λp q z=>⟨z.1,ht _ _ z.2.1,z.2.2⟩,ob,es,ep,k _ _ (.inl rfl) e,c⟩
 |set S n=>obtain⟨ob,es,ep,t,e,c⟩:=x;exact⟨ob,es,ep,t,k _ _ (.inl rfl) e,c⟩
 |ins C dx fs=>
  obtain⟨d,z,ne,e,mA,⟨od,es,ep,e2,c⟩,r⟩:=x
  exact⟨ho _ d,z,ne,k _ _ (.inl rfl) e,mA,⟨od,es,ep,k _ _ (.inr d) e2,c⟩,r⟩
 |own y=>obtain⟨ob,e⟩:=x;exact⟨ob,k _ _ (.inl rfl) e⟩
 |xd fs=>obtain⟨mA,⟨od,es,ep,e,c⟩,r⟩:=x;exact⟨mA,⟨od,es,ep,k _ _ (.inl rfl) e,c⟩,r⟩
 |rng lo hi=>obtain⟨t,u,v,e⟩:=x;exact⟨t,u,v,k _ _ (.inl rfl) e⟩
 |frz ob u ih=>obtain⟨e,q⟩:=x;exact⟨k _ _ (.inl rfl) e,ih q⟩
 |tbl ps=>
  have e:h.get? a=some { cls:=.none,data:=.fields ps }:=x
  show h'.get? a=some { cls:=.none,data:=.fields ps }
  exact k a _ (.inl rfl) e
 |met f y=>
  have e:h.get? a=some (PySem.W.methodObj (.ref f) (.ref y)):=x
  show h'.get? a=some (PySem.W.methodObj (.ref f) (.ref y))
  exact k a _ (.inl rfl) e
 |ext φ=>obtain⟨p,⟨o,e⟩,st⟩:=x;exact⟨st _ _ p λo q=>k _ _ (.inl rfl) q,⟨o,k _ _ (.inl rfl) e⟩,st⟩
theorem HOk.lt(x:HOk P w H h)(e:H a=some o):a<h.objs.size:=(x a o e).lt
theorem HOk.fresh(x:HOk P w H h)(e:h.objs.size≤a):H a=none:=by
 cases q:H a with
 |none=>rfl
 |some u=>exact absurd (mC (x.lt q) e) (gX _)
theorem HOk.kept(x:HOk P w H h)(k:∀b u,h.get? b=some u→h'.get? b=some u):HOk P w H h':=λa o e=>
 (x a o e).stay (λb u _ q=>k b u q) (λ_ q=>q) λ_ _ q=>q
theorem HOk.laid(x:HOk P w H h)(k:∀b u,h.get? b=some u→h'.get? b=some u)(hp:h.objs.size≤a)(new:jN P w (upd H a o) h' a o):HOk P w (upd H a o) h':=λb u e=>by
 have hn:=x.fresh hp
 by_cases hb:b=a
 ·subst hb;rw[qH]at e;cases e;exact new
 ·rw[qD hb]at e
  exact(x b u e).stay (λc v _ q=>k c v q) (λc q=>by rw[qD (qI q hn)];exact q) λc xs q=>by rw[qD (qI q hn)];exact q
end
noncomputable def Rd(H:Hp)(a:Addr)(u:HO):Prop:=H a=some u∨∃o,H a=some (.frz o u)
theorem Rd.ok{P:Program}{w:World}{H:Hp}{h:Heap}{a:Addr}{u:HO}(r:Rd H a u)(x:HOk P w H h):jN P w H h a u:=by
 rcases r with r|⟨o,r⟩
 ·exact x a u r
 ·obtain⟨_,q⟩:=x a _ r
  exact q
noncomputable def Mut:Option HO→Prop
 |some (.lst _)=>True
 |some (.dK _)=>True
 |some (.dT _)=>True
 |some (.set _ _)=>True
 |some (.ins _ _ _)=>True
 |some (.ext _)=>True
 |_=>False
section
variable{P:Program}{w:World}{H:Hp}{h h':Heap}{x e:Addr}{o':HO}
theorem HOk.write(ok:HOk P w H h)(mu:Mut (H x))(he:e=x∨H e=some (.own x))(k:∀b u,b≠e→h.get? b=some u→h'.get? b=some u)(heo:∃u,h'.get? e=some u)
 (new:jN P w (upd H x o') h' x o'):HOk P w (upd H x o') h':=λb u q=>by
 have nown:∀c y,H c=some (.own y)→c≠x:=λc y r z=>by subst z;rw[r]at mu;exact mu
 have ntup:∀c xs,H c=some (.tup xs)→c≠x:=λc xs r z=>by subst z;rw[r]at mu;exact mu
 by_cases hb:b=x
 ·subst hb;rw[qH]at q;cases q;exact new
 ·rw[qD hb]at q
  by_cases hbe:b=e
  ·have q':H b=some (.own x):=by
    rcases he with z|z
    ·exact absurd (hbe.trans z) hb
    ·rw[hbe];exact z
   rw[q]at q';cases q'
   obtain⟨v,hv⟩:=heo
   exact⟨v,by rw[hbe];exact hv⟩
  ·refine(ok b u q).stay (λc v hc r=>k c v ?_ r) (λc r=>by rw[qD (nown c b r)];exact r) λc xs r=>by rw[qD (ntup c xs r)];exact r
   rcases hc with rfl|hc
   ·exact hbe
   ·rintro rfl
    rcases he with z|z
    ·exact nown c b hc z
    ·rw[hc]at z;cases z;exact hb rfl
end
structure Un(fs ex:List Addr)(H H':Hp)(h h':Heap):Prop where
 keep:∀b o,h.get? b=some o→H b=none→b∉fs→b∉ex→h'.get? b=some o
 slot:∀b o,h.get? b=some o→H b=none→b∈fs→b∉ex→∃sl,h'.get? b=some { o with slots:=sl }
 free:∀b o,h.get? b=some o→H b=none→b∉ex→H' b=none
 there:∀b o,h.get? b=some o→b∉ex→∃o',h'.get? b=some o'
 tups:∀b xs,H b=some (.tup xs)→H' b=some (.tup xs)
 frzs:∀b o u,H b=some (.frz o u)→H' b=some (.frz o u)
 tbls:∀b ps,H b=some (.tbl ps)→∃more,H' b=some (.tbl (ps++more))
section
variable{fs fs' ex ex':List Addr}{H H1 H2:Hp}{h h1 h2 h':Heap}{a x e:Addr}{o:HO}
theorem Un.any(u:Un fs ex H H1 h h1){b:Addr}{ob:Obj}(q:h.get? b=some ob)(n:H b=none)(hx:b∉ex):∃sl,h1.get? b=some { ob with slots:=sl }:=by
 by_cases hb:b∈fs
 ·exact u.slot b ob q n hb hx
 ·exact⟨ob.slots,u.keep b ob q n hb hx⟩
theorem Un.trans(a:Un fs ex H H1 h h1)(b:Un fs ex H1 H2 h1 h2):Un fs ex H H2 h h2 where
 keep:=λc ob q n hc hx=>b.keep c ob (a.keep c ob q n hc hx) (a.free c ob q n hx) hc hx
 slot:=λc ob q n hc hx=>by
  obtain⟨sl,e1⟩:=a.slot c ob q n hc hx
  obtain⟨sl',e2⟩:=b.slot c _ e1 (a.free c ob q n hx) hc hx
  exact⟨sl',e2⟩
 free:=λc ob q n hx=>by
  obtain⟨o',e1⟩:=a.there c ob q hx
  exact b.free c o' e1 (a.free c ob q n hx) hx
 there:=λc ob q hx=>by
  obtain⟨o',e1⟩:=a.there c ob q hx
  exact b.there c o' e1 hx
 tups:=λc xs q=>b.tups c xs (a.tups c xs q)
 frzs:=λc ob xs q=>b.frzs c ob xs (a.frzs c ob xs q)
 tbls:=λc ps q=>by
  obtain⟨m1,e1⟩:=a.tbls c ps q
  obtain⟨m2,e2⟩:=b.tbls c _ e1
  exact⟨m1++m2,by rw[e2,Array.append_assoc]⟩
theorem Un.kept(k:∀b u,h.get? b=some u→h'.get? b=some u):Un fs ex H H h h':=
 ⟨λb ob q _ _ _=>k b ob q,λb ob q _ _ _=>⟨ob.slots,k b ob q⟩,λ_ _ _ n _=>n,λb ob q _=>⟨ob,k b ob q⟩,λ_ _ q=>q,λ_ _ _ q=>q,λ_ ps q=>⟨#[],by rw[q];simp⟩⟩
theorem Un.refl:Un fs ex H H h h:=Un.kept λ_ _ q=>q
theorem Un.laid(k:∀b u,h.get? b=some u→h'.get? b=some u)(hp:h.objs.size≤a)(hn:H a=none):Un fs ex H (upd H a o) h h' where
 keep:=λb u q _ _ _=>k b u q
 slot:=λb u q _ _ _=>⟨u.slots,k b u q⟩
 free:=λb u q n _=>by rw[qD (mM (mC (kO q) hp))];exact n
 there:=λb u q _=>⟨u,k b u q⟩
 tups:=λb xs q=>by rw[qD (qI q hn)];exact q
 frzs:=λb u xs q=>by rw[qD (qI q hn)];exact q
 tbls:=λb ps q=>⟨#[],by rw[qD (qI q hn),q];simp⟩
theorem Un.write(mu:Mut (H x))(he:e=x∨H e=some (.own x))(k:∀b u,b≠e→h.get? b=some u→h'.get? b=some u)(heo:∃u,h'.get? e=some u):Un fs ex H (upd H x o) h h':=by
 have hx:∀b,H b=none→b≠x:=λb n z=>by subst z;rw[n]at mu;exact mu
 have hb:∀b,H b=none→b≠e:=λb n z=>by
  subst z
  rcases he with r|r
  ·exact hx b n r
  ·rw[n]at r;cases r
 have hm:∀b u,H b=some u→¬Mut (some u)→b≠x:=λb u q nm z=>by subst z;rw[q]at mu;exact nm mu
 refine⟨λb u q n _ _=>k b u (hb b n) q,λb u q n _ _=>⟨u.slots,k b u (hb b n) q⟩,λb u q n _=>by rw[qD (hx b n)];exact n,λb u q _=>?_,
  λb xs q=>by rw[qD (hm b _ q λz=>z)];exact q,λb u xs q=>by rw[qD (hm b _ q λz=>z)];exact q,λb ps q=>⟨#[],by rw[qD (hm b _ q λz=>z),q];simp⟩⟩
 by_cases hbe:b=e
 ·subst hbe;exact heo
 ·exact⟨u,k b u hbe q⟩
end
noncomputable def trk(h:Heap)(H:Hp):List Addr:=(List.range h.objs.size).filter λa=>(H a).isSome
noncomputable def hidT(h:Heap)(H:Hp):Heap:=PySem.W.hideAll h (trk h H)
theorem q8F(h:Heap)(H:Hp):(hidT h H).objs.size=h.objs.size:=PySem.W.hideAll_size _ _
theorem q64{h:Heap}{H:Hp}{b:Addr}{o:Obj}(e:h.get? b=some o)(n:H b=none):(hidT h H).get? b=some o:=
 PySem.W.hideAll_get _ e λhm=>by
  have q:(H b).isSome=true:=(m9.mp hm).2
  rw[n]at q;simp at q
theorem qCM{h:Heap}{H:Hp}{b:Addr}{o:Obj}(e:(hidT h H).get? b=some o):h.get? b=some o∧H b=none:=by
 have e':h.get? b=some o:=PySem.W.of_hideAll (trk h H) e
 refine⟨e',?_⟩
 cases q:H b with
 |none=>rfl
 |some x=>
  have hm:b∈trk h H:=m9.mpr ⟨mK.mpr (kO e'),by simp[q]⟩
  have z:(hidT h H).get? b=none:=PySem.W.hideAll_none (trk h H) hm
  rw[z]at e;cases e
structure Mod(K:PySem.W.Frag)(mg:Str→Option Value)(base:Heap):Prop where
 kin:K.In base
 glob:base.Ns mainGlobals mg
 blt:∃mb,base.Ns builtinsNs mb∧∀x:Str,x≠"__name__"→mb x=bootBuiltins x
 nolimit:base.NoLimit
structure Cx where
 prog:Program
 w:World
 K:PySem.W.Frag
 mg:Str→Option Value
 base:Heap
 A:Around
 N:List Str
 s₀:Shared
 H₀:Hp
 env:Env
 outer:List Env
 stack:List Env
 ex:List Addr
 fn:Str→Bool
 calm:Bool
 pn:List (Addr×Obj)
 xe:Value→Shared→Prop
noncomputable def frs(l:List Env):List Addr:=l.filterMap (·.frame)
noncomputable abbrev Cx.fs(X:Cx):List Addr:=frs X.outer
noncomputable def Vis(sc:Scope)(x:Str):Prop:=sc.names.lookup x=some .local∨sc.names.lookup x=some .cell∨sc.names.lookup x=some .free
noncomputable def Loc(sc:Scope)(x:Str):Prop:=sc.names.lookup x=some .local∨sc.names.lookup x=some .cell
noncomputable def Look(env:Env)(h:Heap)(m:Str→Option Value)(x:Str)(u:Value):Prop:=
 (env.kindOf x=some .local∧m x=some u)∨((env.kindOf x=some .cell∨env.kindOf x=some .free)∧∃c,env.cells.lookup x=some c∧h.IsCell c (some u))
structure Cx.Ok(X:Cx):Prop where
 mod:Mod X.K X.mg X.base
 kind:X.env.scope.kind=.function
 glob:X.env.globals=mainGlobals
 blt:X.env.builtins=builtinsNs
 above:X.s₀.heap.objs.size≤X.env.locals
 inj:∀x y c,X.env.cells.lookup x=some c→X.env.cells.lookup y=some c→x=y
 has:∀x,(X.env.kindOf x=some .cell∨X.env.kindOf x=some .free)→∃c,X.env.cells.lookup x=some c
 cab:∀x c,X.fn x=true→X.env.cells.lookup x=some c→X.s₀.heap.objs.size≤c
 hd:X.calm=true→X.A.handled=none
 frames:X.A.frames=some X.stack
 stk:X.stack=X.outer∨(X.stack=X.env::X.outer∧X.env.frame=some X.env.locals)
 exf:∀b∈X.ex,b≠X.env.locals∧∀x c,X.env.cells.lookup x=some c→c≠b
 bs:∀b o,X.base.get? b=some o→X.s₀.heap.get? b=some o∧X.H₀ b=none
 bsz:X.base.objs.size≤X.s₀.heap.objs.size
 noex:∀b o,X.base.get? b=some o→b∉X.ex
 exfs:∀b∈X.ex,b∉X.fs
 funs:X.s₀.heap.FunFrames X.base X.outer
 frf:∀b∈X.fs,X.H₀ b=none
structure Inv(X:Cx)(pins:List (Addr×Obj))(σ:List (Option V))(H:Hp)(s:Shared):Prop where
 ok:X.Ok
 os:s.os=X.s₀.os
 bare:AllBare s.gens
 base:Un X.fs X.ex X.H₀ H X.s₀.heap s.heap
 loc:∃m,s.heap.Ns X.env.locals m∧∀(i:Nat) (x:Str) (v:V),X.N[i]?=some x→σ[i]?=some (some v)→Vis X.env.scope x→∃u,RelV v u∧Look X.env s.heap m x u
 cell:∀x c,X.env.cells.lookup x=some c→∃v,s.heap.IsCell c v
 free:H X.env.locals=none
 freeC:∀x c,X.env.cells.lookup x=some c→H c=none
 pin:∀p∈X.pn++pins,s.heap.get? p.1=some p.2∧H p.1=none∧p.1≠X.env.locals∧p.1∉X.fs∧∀v,p.2.data≠ .cell v
 hok:HOk X.prog X.w H s.heap
 len:σ.length=X.N.length
section
variable{X:Cx}{pins:List (Addr×Obj)}{σ:List (Option V)}{H H':Hp}{s:Shared}{h':Heap}
theorem Cx.Ok.nofr(ok:X.Ok){b:Addr}{o:Obj}(e:X.base.get? b=some o):b∉X.fs:=λhb=>by
 have:=(ok.funs.mem hb).1
 rw[e]at this;cases this
theorem Inv.bs(I:Inv X pins σ H s):∀b o,X.base.get? b=some o→s.heap.get? b=some o∧H b=none:=λb o e=>
 ⟨I.base.keep b o (I.ok.bs b o e).1 (I.ok.bs b o e).2 (I.ok.nofr e) (I.ok.noex b o e),I.base.free b o (I.ok.bs b o e).1 (I.ok.bs b o e).2 (I.ok.noex b o e)⟩
theorem Inv.bk(I:Inv X pins σ H s):∀b o,X.base.get? b=some o→s.heap.get? b=some o:=λb o e=>(I.bs b o e).1
theorem Inv.mod(I:Inv X pins σ H s):Mod X.K X.mg X.base:=I.ok.mod
theorem Inv.kIn(I:Inv X pins σ H s):X.K.In s.heap:=I.ok.mod.kin.keeps I.bk
theorem Inv.fr(I:Inv X pins σ H s):∃m,Fr X.base X.env.locals s.heap m:=
 let⟨m,hn,_⟩:=I.loc
 ⟨m,hn,I.bk,mD I.ok.bsz I.ok.above⟩
theorem Inv.lt(I:Inv X pins σ H s):X.env.locals<s.heap.objs.size:=let⟨_,hn,_⟩:=I.loc;hn.lt
theorem Inv.sz(I:Inv X pins σ H s):X.s₀.heap.objs.size≤s.heap.objs.size:=mD I.ok.above (Nat.le_of_lt I.lt)
theorem Inv.nofs(I:Inv X pins σ H s){a:Addr}(h:s.heap.objs.size≤a):a∉X.fs:=λhb=>by
 obtain⟨_,o,ho,_⟩:=I.ok.funs.mem hb
 exact absurd (mC (kO ho) (mD I.sz h)) (gX _)
theorem Inv.cne(I:Inv X pins σ H s):∀x c,X.env.cells.lookup x=some c→c≠X.env.locals:=λx c e z=>by
 obtain⟨v,o,ho,hd⟩:=I.cell x c e
 obtain⟨m,⟨o',es,ep,ho',hd',_⟩,_⟩:=I.loc
 rw[z,ho']at ho;cases ho;rw[hd']at hd;cases hd
theorem Inv.funs(I:Inv X pins σ H s):s.heap.FunFrames X.base X.outer:=by
 have all:∀(l:List Env),(∀b∈frs l,b∈X.fs)→X.s₀.heap.FunFrames X.base l→s.heap.FunFrames X.base l:=by
  intro l
  induction l with
  |nil=>intro _ _;trivial
  |cons env r ih=>
   intro hs hl
   obtain⟨hk,⟨L,o,hf,hn,ho,hd⟩,hr⟩:=hl
   have hL:L∈X.fs:=hs L (by unfold frs;rw[List.filterMap_cons,hf];exact mL)
   obtain⟨sl,e⟩:=I.base.slot L o ho (I.ok.frf L hL) hL λz=>I.ok.exfs L z hL
   exact⟨hk,⟨L,_,hf,hn,e,hd⟩,ih (λb hb=>hs b (by unfold frs;rw[List.filterMap_cons,hf];exact kE _ hb)) hr⟩
 exact all X.outer (λ_ hb=>hb) I.ok.funs
theorem Inv.stack(I:Inv X pins σ H s):s.heap.FunFrames X.base X.stack:=by
 rcases I.ok.stk with e|⟨e,hf⟩
 ·rw[e];exact I.funs
 ·rw[e]
  obtain⟨m,hn,_⟩:=I.loc
  refine .cons (by rw[I.ok.kind];decide) hf hn ?_ I.funs
  exact cT (mD I.ok.bsz I.ok.above)
theorem Inv.stkSub(I:Inv X pins σ H s):∀b∈frs X.stack,b∈X.env.locals::X.fs:=λb hb=>by
 rcases I.ok.stk with e|⟨e,hf⟩
 ·rw[e]at hb;exact kE _ hb
 ·rw[e]at hb
  unfold frs at hb
  rw[List.filterMap_cons,hf]at hb
  exact hb
theorem Inv.stkFree(I:Inv X pins σ H s):∀b∈frs X.stack,H b=none:=λb hb=>by
 rcases kI.mp (I.stkSub b hb)with e|hb
 ·rw[e];exact I.free
 ·obtain⟨_,o,ho,_⟩:=I.ok.funs.mem hb
  exact I.base.free b o ho (I.ok.frf b hb) λz=>I.ok.exfs b z hb
theorem Inv.step{g':Array GenState}{t':Nat}{d':Drawn}{ch:List Addr}(I:Inv X pins σ H s)
 (hch:∀b∈ch,(b∈X.ex∨X.s₀.heap.objs.size≤b)∧b≠X.env.locals∧(∀x c,X.env.cells.lookup x=some c→c≠b)∧∀p∈X.pn++pins,p.1≠b)
 (keep:∀b o,b≠X.env.locals→b∉X.fs→b∉ch→s.heap.get? b=some o→H b=none→h'.get? b=some o)
 (slot:∀b o,b≠X.env.locals→b∈X.fs→b∉ch→s.heap.get? b=some o→H b=none→∃sl,h'.get? b=some { o with slots:=sl }) (free:∀b o,b∉ch→s.heap.get? b=some o→H b=none→H' b=none)
 (there:∀b o,b∉ch→s.heap.get? b=some o→∃o',h'.get? b=some o')
 (tups:∀b xs,H b=some (.tup xs)→H' b=some (.tup xs)) (frzs:∀b o u,H b=some (.frz o u)→H' b=some (.frz o u)) (tbls:∀b ps,H b=some (.tbl ps)→∃more,H' b=some (.tbl (ps++more)))
 (ns:∀m,s.heap.Ns X.env.locals m→h'.Ns X.env.locals m) (hok:HOk X.prog X.w H' h') (hg:AllBare g'):
 Inv X pins σ H' { s with heap:=h',gens:=g',drawn:=d',toks:=t' }:=by
 have neL:∀b o,X.s₀.heap.get? b=some o→b≠X.env.locals:=λb o e=>mM (mC (kO e) I.ok.above)
 have neC:∀b o,X.s₀.heap.get? b=some o→b∉X.ex→b∉ch:=λb o e hx hb=>by
  rcases(hch b hb).1 with z|z
  ·exact hx z
  ·exact absurd (mC (kO e) z) (gX _)
 have cellK:∀x c,X.env.cells.lookup x=some c→∀v,s.heap.IsCell c v→h'.IsCell c v:=λx c e v ⟨o,ho,hd⟩=>by
  have nch:c∉ch:=λz=>(hch c z).2.2.1 x c e rfl
  by_cases hc:c∈X.fs
  ·obtain⟨sl,q⟩:=slot c o (I.cne x c e) hc nch ho (I.freeC x c e)
   exact⟨_,q,hd⟩
  ·exact⟨o,keep c o (I.cne x c e) hc nch ho (I.freeC x c e),hd⟩
 refine⟨I.ok,I.os,hg,⟨λb o e n hb hx=>?_,λb o e n hb hx=>?_,λb o e n hx=>?_,λb o e hx=>?_,λb xs e=>tups b xs (I.base.tups b xs e),λb o xs e=>frzs b o xs (I.base.frzs b o xs e),λb ps e=>?_⟩,?_,λx c e=>?_,?_,λx c e=>?_,λp hp=>?_,hok,I.len⟩
 ·exact keep b o (neL b o e) hb (neC b o e hx) (I.base.keep b o e n hb hx) (I.base.free b o e n hx)
 ·obtain⟨sl,e1⟩:=I.base.slot b o e n hb hx
  obtain⟨sl',e2⟩:=slot b _ (neL b o e) hb (neC b o e hx) e1 (I.base.free b o e n hx)
  exact⟨sl',e2⟩
 ·obtain⟨o',e1⟩:=I.base.there b o e hx
  exact free b o' (neC b o e hx) e1 (I.base.free b o e n hx)
 ·obtain⟨o',e1⟩:=I.base.there b o e hx
  exact there b o' (neC b o e hx) e1
 ·obtain⟨m1,e1⟩:=I.base.tbls b ps e
  obtain⟨m2,e2⟩:=tbls b _ e1
  exact⟨m1++m2,by rw[e2,Array.append_assoc]⟩
 ·obtain⟨m,hn,hl⟩:=I.loc
  refine⟨m,ns m hn,λi x v e1 e2 e3=>?_⟩
  obtain⟨u,r,l⟩:=hl i x v e1 e2 e3
  refine⟨u,r,?_⟩
  rcases l with l|⟨k,c,e,z⟩
  ·exact .inl l
  ·exact .inr ⟨k,c,e,cellK x c e _ z⟩
 ·obtain⟨v,z⟩:=I.cell x c e
  exact⟨v,cellK x c e v z⟩
 ·obtain⟨m,⟨o,_,_,ho,_⟩,_⟩:=I.loc
  exact free _ o (λz=>(hch _ z).2.1 rfl) ho I.free
 ·obtain⟨v,o,ho,hd⟩:=I.cell x c e
  exact free c o (λz=>(hch c z).2.2.1 x c e rfl) ho (I.freeC x c e)
 ·obtain⟨e,n,ne,nf,d⟩:=I.pin p hp
  have nch:p.1∉ch:=λz=>(hch p.1 z).2.2.2 p hp rfl
  exact⟨keep p.1 p.2 ne nf nch e n,free p.1 p.2 nch e n,ne,nf,d⟩
theorem Inv.un{t':Nat}(I:Inv X pins σ H s)(u:Un X.fs [] H H' s.heap h')(hok:HOk X.prog X.w H' h'):Inv X pins σ H' { s with heap:=h',toks:=t' }:=by
 obtain⟨m,⟨o,es,ep,ho,r⟩,_⟩:=id I.loc
 obtain⟨sl,hL⟩:=u.any ho I.free (by simp)
 exact I.step (g':=s.gens) (d':=s.drawn) (ch:=[]) (λ_ z=>nomatch z) (λb o _ hb _ e n=>u.keep b o e n hb (by simp)) (λb o _ hb _ e n=>u.slot b o e n hb (by simp)) (λb o _ e n=>u.free b o e n (by simp)) (λb o _ e=>u.there b o e (by simp)) u.tups u.frzs u.tbls (λm' hm=>by
  obtain⟨o',es',ep',ho',r'⟩:=hm
  rw[ho]at ho';cases ho'
  exact⟨_,es',ep',hL,r'⟩) hok I.bare
theorem Inv.call{g':Array GenState}{t':Nat}{d':Drawn}{ch:List Addr}(I:Inv X pins σ H s)(u:Un (frs X.stack) ch H H' s.heap h')(hok:HOk X.prog X.w H' h')(hg:AllBare g')
 (hch:∀b∈ch,(b∈X.ex∨X.s₀.heap.objs.size≤b)∧b≠X.env.locals∧(∀x c,X.env.cells.lookup x=some c→c≠b)∧∀p∈X.pn++pins,p.1≠b):
 Inv X pins σ H' { s with heap:=h',gens:=g',drawn:=d',toks:=t' }:=by
 obtain⟨m,⟨o,es,ep,ho,r⟩,_⟩:=id I.loc
 obtain⟨sl,hL⟩:=u.any ho I.free λz=>(hch _ z).2.1 rfl
 exact I.step (ch:=ch) hch (λb o hL hb hc e n=>u.keep b o e n (λz=>(kI.mp (I.stkSub b z)).elim hL hb) hc) (λb o _ _ hc e n=>u.any e n hc) (λb o hc e n=>u.free b o e n hc) (λb o hc e=>u.there b o e hc) u.tups u.frzs u.tbls (λm' hm=>by
  obtain⟨o',es',ep',ho',r'⟩:=hm
  rw[ho]at ho';cases ho'
  exact⟨_,es',ep',hL,r'⟩) hok hg
theorem Inv.turned{t':Nat}{it:Addr}(I:Inv X pins σ H s)(k:∀b o,b≠it→s.heap.get? b=some o→h'.get? b=some o)(hn:H it=none)(hL:it≠X.env.locals)
 (h1:it∈X.ex∨X.s₀.heap.objs.size≤it) (h2:∀x c,X.env.cells.lookup x=some c→c≠it) (h3:∀p∈X.pn++pins,p.1≠it):Inv X pins σ H { s with heap:=h',toks:=t' }:=by
 have nit:∀b u,H b=some u→b≠it:=λb u e z=>by rw[z,hn]at e;cases e
 refine I.step (g':=s.gens) (d':=s.drawn) (ch:=[it]) (λb hb=>?_) (λb o _ _ hc e _=>k b o (λz=>hc (by simp[z])) e) (λb o _ _ hc e _=>⟨o.slots,k b o (λz=>hc (by simp[z])) e⟩) (λ_ _ _ _ n=>n)
  (λb o hc e=>⟨o,k b o (λz=>hc (by simp[z])) e⟩) (λ_ _ e=>e) (λ_ _ _ e=>e) (λb ps e=>⟨#[],by rw[e];simp⟩) (λm hm=>?_) (λb u e=>?_) I.bare
 ·have e:b=it:=by simpa using hb
  subst e
  exact⟨h1,hL,h2,h3⟩
 ·obtain⟨o,es,ep,ho,r⟩:=hm
  exact⟨o,es,ep,k _ o (Ne.symm hL) ho,r⟩
 ·refine(I.hok b u e).stay (λc v hc q=>k c v ?_ q) (λ_ q=>q) λ_ _ q=>q
  rcases hc with z|z
  ·rw[z];exact nit b u e
  ·exact nit c _ z
theorem Inv.tok(I:Inv X pins σ H s)(t:Nat):Inv X pins σ H { s with toks:=t }:=I.un (h':=s.heap) (t':=t) Un.refl I.hok
theorem Inv.kept{t':Nat}(I:Inv X pins σ H s)(k:∀b u,s.heap.get? b=some u→h'.get? b=some u):Inv X pins σ H { s with heap:=h',toks:=t' }:=I.un (Un.kept k) (I.hok.kept k)
theorem Inv.laid{a:Addr}{o:HO}{t':Nat}(I:Inv X pins σ H s)(k:∀b u,s.heap.get? b=some u→h'.get? b=some u)(hp:s.heap.objs.size≤a)(new:jN X.prog X.w (upd H a o) h' a o):
 Inv X pins σ (upd H a o) { s with heap:=h',toks:=t' }:=I.un (Un.laid k hp (I.hok.fresh hp)) (I.hok.laid k hp new)
theorem Inv.write{x e:Addr}{o:HO}{t':Nat}(I:Inv X pins σ H s)(mu:Mut (H x))(he:e=x∨H e=some (.own x))(k:∀b u,b≠e→s.heap.get? b=some u→h'.get? b=some u)(heo:∃u,h'.get? e=some u)
 (new:jN X.prog X.w (upd H x o) h' x o):Inv X pins σ (upd H x o) { s with heap:=h',toks:=t' }:=I.un (Un.write mu he k heo) (I.hok.write mu he k heo new)
theorem Inv.weak{σ':List (Option V)}(I:Inv X pins σ H s)(hl:σ'.length=σ.length)(w:∀(i:Nat) v,σ'[i]?=some (some v)→σ[i]?=some (some v)):Inv X pins σ' H s:=
 ⟨I.ok,I.os,I.bare,I.base,let⟨m,hn,hl'⟩:=I.loc;⟨m,hn,λi x v e1 e2 e3=>hl' i x v e1 (w i v e2) e3⟩,I.cell,I.free,I.freeC,I.pin,I.hok,hl.trans I.len⟩
theorem Inv.pins_of{pins':List (Addr×Obj)}(I:Inv X pins σ H s)(h:∀p∈pins',s.heap.get? p.1=some p.2∧H p.1=none∧p.1≠X.env.locals∧p.1∉X.fs∧∀v,p.2.data≠ .cell v):Inv X pins' σ H s:=
 ⟨I.ok,I.os,I.bare,I.base,I.loc,I.cell,I.free,I.freeC,λp hp=>(gF.mp hp).elim (λz=>I.pin p (List.mem_append_left _ z)) (h p),I.hok,I.len⟩
theorem qAE{N:List Str}(hN:N.Nodup){i j:Nat}{x:Str}(a:N[i]?=some x)(b:N[j]?=some x):i=j:=by
 obtain⟨h1,e1⟩:=hG.mp a
 obtain⟨h2,e2⟩:=hG.mp b
 exact(List.getElem_inj hN).mp (e1.trans e2.symm)
theorem q8G{M:Model}{A:Around}{E:Value→Shared→Prop}{i:Nat}{x:Str}{v:V}{u:Value}{Q:Unit→Shared→Prop}(I:Inv X pins σ H s)(hN:X.N.Nodup)(hi:X.N[i]?=some x)(hx:Loc X.env.scope x)(r:RelV v u)
 (h:∀s',Inv X pins (σ.set i (some v)) H s'→(∃a,Heap.SameBut a s.heap s'.heap∧(a=X.env.locals∨X.env.cells.lookup x=some a))→Q () s') (hf:X.fn x=true∨X.env.scope.names.lookup x=some .local:=by first|exact .inl rfl|exact .inr rfl|assumption):wpAny M A (storeName X.env x u) Q E s:=by
 obtain⟨m,hn,hl⟩:=id I.loc
 have hcls:(X.env.scope.kind== .class||(X.env.scope.kind== .module&&X.env.locals !=X.env.globals))=false:=by rw[I.ok.kind];rfl
 have hiσ:i<σ.length:=by rw[I.len];exact(hG.mp hi).1
 have cne:=I.cne
 have tracked:∀{a:Addr} {h':Heap},(∃o,s.heap.get? a=some o∧H a=none)→Heap.SameBut a s.heap h'→HOk X.prog X.w H h':=fun {a h'} ha hs b ob e=>by
  obtain⟨_,_,hfree⟩:=ha
  refine(I.hok b ob e).stay (λc w' hc q=>(hs.2 c ?_).trans q) (λ_ q=>q) λ_ _ q=>q
  rintro rfl
  rcases hc with rfl|hc
  ·rw[hfree]at e;cases e
  ·rw[hfree]at hc;cases hc
 rcases hx with hk|hk
 ·refine wpAny_storeName_local hk hn (λh' hn' hs=>?_) hcls
  obtain⟨oL,_,_,hoL,_⟩:=id hn
  refine h _ ⟨I.ok,I.os,I.bare,⟨λb o e n hb hx=>?_,λb o e n hb hx=>?_,I.base.free,λb o e hx=>?_,I.base.tups,I.base.frzs,I.base.tbls⟩,⟨_,hn',λj y v' e1 e2 e3=>?_⟩,λy c e=>?_,I.free,I.freeC,λp hp=>?_,tracked ⟨oL,hoL,I.free⟩ hs,by simpa using I.len⟩ ⟨_,hs,.inl rfl⟩
  ·exact(hs.2 b (mM (mC (kO e) I.ok.above))).trans (I.base.keep b o e n hb hx)
  ·obtain⟨sl,e1⟩:=I.base.slot b o e n hb hx
   exact⟨sl,(hs.2 b (mM (mC (kO e) I.ok.above))).trans e1⟩
  ·obtain⟨o',e1⟩:=I.base.there b o e hx
   exact⟨o',(hs.2 b (mM (mC (kO e) I.ok.above))).trans e1⟩
  ·by_cases hj:j=i
   ·subst hj
    rw[hi]at e1;cases e1
    rw[wY hiσ]at e2
    cases e2
    exact⟨u,r,.inl ⟨hk,by simp⟩⟩
   ·rw[rO (Ne.symm hj)]at e2
    obtain⟨u',r',q⟩:=hl j y v' e1 e2 e3
    refine⟨u',r',?_⟩
    rcases q with⟨k,e⟩|⟨k,c,e,z⟩
    ·refine .inl ⟨k,?_⟩
     have:y≠x:=λe=>hj (qAE hN e1 (e▸hi))
     simp[this,e]
    ·exact .inr ⟨k,c,e,z.sameBut hs (cne y c e)⟩
  ·obtain⟨w',z⟩:=I.cell y c e
   exact⟨w',z.sameBut hs (cne y c e)⟩
  ·obtain⟨e,n,ne,nf,d⟩:=I.pin p hp
   exact⟨(hs.2 p.1 ne).trans e,n,ne,nf,d⟩
 ·have hfn:X.fn x=true:=by
   rcases hf with z|z
   ·exact z
   ·rw[z]at hk;cases hk
  obtain⟨c,hc⟩:=I.ok.has x (.inl hk)
  obtain⟨w',z⟩:=I.cell x c hc
  refine wpAny_storeName_cell I.ok.kind hk hc z (λh' hc' hs=>?_)
  obtain⟨oc,hoc,hocd⟩:=id z
  refine h { s with heap:=h' } ⟨I.ok,I.os,I.bare,⟨λb o e n hb hx=>?_,λb o e n hb hx=>?_,I.base.free,λb o e hx=>?_,I.base.tups,I.base.frzs,I.base.tbls⟩,⟨m,hn.sameBut hs (Ne.symm (cne x c hc)),λj y v' e1 e2 e3=>?_⟩,λy c' e=>?_,I.free,I.freeC,λp hp=>?_,tracked ⟨oc,hoc,I.freeC x c hc⟩ hs,by simpa using I.len⟩ ⟨c,hs,.inr hc⟩
  ·exact(hs.2 b (mM (mC (kO e) (I.ok.cab x c hfn hc)))).trans (I.base.keep b o e n hb hx)
  ·obtain⟨sl,e1⟩:=I.base.slot b o e n hb hx
   exact⟨sl,(hs.2 b (mM (mC (kO e) (I.ok.cab x c hfn hc)))).trans e1⟩
  ·obtain⟨o',e1⟩:=I.base.there b o e hx
   exact⟨o',(hs.2 b (mM (mC (kO e) (I.ok.cab x c hfn hc)))).trans e1⟩
  ·by_cases hj:j=i
   ·subst hj
    rw[hi]at e1;cases e1
    rw[wY hiσ]at e2
    cases e2
    exact⟨u,r,.inr ⟨.inl hk,c,hc,hc'⟩⟩
   ·rw[rO (Ne.symm hj)]at e2
    obtain⟨u',r',q⟩:=hl j y v' e1 e2 e3
    refine⟨u',r',?_⟩
    rcases q with q|⟨k,c',e,z'⟩
    ·exact .inl q
    ·refine .inr ⟨k,c',e,z'.sameBut hs ?_⟩
     rintro rfl
     exact hj (qAE hN e1 (I.ok.inj _ _ _ e hc▸hi))
  ·by_cases hcc:c'=c
   ·subst hcc;exact⟨_,hc'⟩
   ·obtain⟨w2,z2⟩:=I.cell y c' e
    exact⟨w2,z2.sameBut hs hcc⟩
  ·obtain⟨e,n,ne,nf,d⟩:=I.pin p hp
   refine⟨(hs.2 p.1 ?_).trans e,n,ne,nf,d⟩
   intro q
   rw[q,hoc]at e
   have q':oc=p.2:=kF e
   exact d w' (by rw[←q'];exact hocd)
theorem q65{M:Model}{A:Around}{E:Value→Shared→Prop}{i:Nat}{x:Str}{v:V}{u:Value}{Q:Unit→Shared→Prop}(I:Inv X pins σ H s)(hN:X.N.Nodup)(hi:X.N[i]?=some x)(hx:Loc X.env.scope x)(r:RelV v u)
 (h:∀s',Inv X pins (σ.set i (some v)) H s'→Q () s') (hf:X.fn x=true∨X.env.scope.names.lookup x=some .local:=by first|exact .inl rfl|exact .inr rfl|assumption):wpAny M A (storeName X.env x u) Q E s:=
 q8G I hN hi hx r (λs' I' _=>h s' I') hf
theorem Inv.call'{s':Shared}{ch:List Addr}(I:Inv X pins σ H s)(ho:s'.os=s.os)(u:Un (frs X.stack) ch H H' s.heap s'.heap)(hok:HOk X.prog X.w H' s'.heap)(hg:AllBare s'.gens)
 (hch:∀b∈ch,(b∈X.ex∨X.s₀.heap.objs.size≤b)∧b≠X.env.locals∧(∀x c,X.env.cells.lookup x=some c→c≠b)∧∀p∈X.pn++pins,p.1≠b):Inv X pins σ H' s':=by
 obtain⟨h',g',d',t',o'⟩:=s'
 have e:o'=s.os:=ho
 subst e
 exact I.call (g':=g') (t':=t') (d':=d') u hok hg hch
end
noncomputable abbrev XK:=Value→Option Addr→Hp→Prop
noncomputable abbrev St:=List (Option V)
noncomputable abbrev VK:=V→Hp→Prop
noncomputable abbrev TE:=St→Hp→VK→Prop
noncomputable abbrev TT:=St→Hp→(Bool→Hp→Prop)→Prop
noncomputable abbrev TA:=St→Hp→(List V→Hp→Prop)→Prop
structure Ends where
 nx:St→Hp→Prop
 rt:VK
 bk:St→Hp→Prop:=λ_ _=>False
 ct:St→Hp→Prop:=λ_ _=>False
noncomputable abbrev TS:=Ends→St→Hp→Prop
noncomputable def EP(X:Cx)(pins:List (Addr×Obj))(σ:St)(Q:VK)(u:Value)(s':Shared):Prop:=∃v H',Inv X pins σ H' s'∧RelV v u∧Q v H'
noncomputable def TP(X:Cx)(pins:List (Addr×Obj))(σ:St)(Q:Bool→Hp→Prop)(b:Bool)(s':Shared):Prop:=∃H',Inv X pins σ H' s'∧Q b H'
noncomputable def AP(X:Cx)(pins:List (Addr×Obj))(σ:St)(Q:List V→Hp→Prop)(us:List Value)(s':Shared):Prop:=∃vs H',Inv X pins σ H' s'∧Vals vs us∧Q vs H'
noncomputable def SP(X:Cx)(pins:List (Addr×Obj))(D:Ends)(f:Flow)(s':Shared):Prop:=
 match f with
 | .next=>∃σ' H',Inv X pins σ' H' s'∧D.nx σ' H'
 | .brk=>∃σ' H',Inv X pins σ' H' s'∧D.bk σ' H'
 | .cont=>∃σ' H',Inv X pins σ' H' s'∧D.ct σ' H'
 | .ret u=>∃v σ' H',Inv X pins σ' H' s'∧RelV v u∧D.rt v H'
noncomputable def PE(X:Cx)(e:Expr)(t:TE):Prop:=
 ∀(pins:List (Addr×Obj)) (s:Shared) (σ:St) (H:Hp) (Q:VK),Inv X pins σ H s→t σ H Q→wpAny (model X.prog X.w) X.A (eval e X.env) (EP X pins σ Q) X.xe s
noncomputable def PT(X:Cx)(e:Expr)(t:TT):Prop:=
 ∀(pins:List (Addr×Obj)) (s:Shared) (σ:St) (H:Hp) (Q:Bool→Hp→Prop),Inv X pins σ H s→t σ H Q→wpAny (model X.prog X.w) X.A (isTrue e X.env (eval e X.env)) (TP X pins σ Q) X.xe s
noncomputable def PW(X:Cx)(e:Expr)(t:TT):Prop:=
 ∀(whole:Sem Value) (pins:List (Addr×Obj)) (s:Shared) (σ:St) (H:Hp) (Q:Bool→Hp→Prop),Inv X pins σ H s→t σ H Q→wpAny (model X.prog X.w) X.A (isTrue e X.env whole) (TP X pins σ Q) X.xe s
theorem PW.pt{X:Cx}{e:Expr}{t:TT}(h:PW X e t):PT X e t:=h _
noncomputable def PA(X:Cx)(es:List Expr)(t:TA):Prop:=
 ∀(pos:Pos) (pins:List (Addr×Obj)) (s:Shared) (σ:St) (H:Hp) (Q:List V→Hp→Prop),Inv X pins σ H s→t σ H Q→wpAny (model X.prog X.w) X.A (spliced (backTo pos (starEach es X.env))) (AP X pins σ Q) X.xe s
noncomputable def PS(X:Cx)(st:Stmt)(t:TS):Prop:=
 ∀(pins:List (Addr×Obj)) (s:Shared) (σ:St) (H:Hp) (D:Ends),Inv X pins σ H s→t D σ H→wpAny (model X.prog X.w) X.A (exec st X.env) (SP X pins D) X.xe s
noncomputable def PSs(X:Cx)(st:List Stmt)(t:TS):Prop:=
 ∀(pins:List (Addr×Obj)) (s:Shared) (σ:St) (H:Hp) (D:Ends),Inv X pins σ H s→t D σ H→wpAny (model X.prog X.w) X.A (execs st X.env) (SP X pins D) X.xe s
theorem thn{α:Type}{t:Sem α}{Q Q':α→Shared→Prop}{M:Model}{A:Around}{E:Value→Shared→Prop}{s:Shared}(h:wpAny M A t Q E s)(hQ:∀a s,Q a s→Q' a s):wpAny M A t Q' E s:=dY h hQ λ_ _ x=>x
section
variable{X:Cx}
noncomputable def tVar(i:Nat):TE:=λσ H Q=>∃v,σ[i]?=some (some v)∧Q v H
noncomputable def tC(v:V):TE:=λ_ H Q=>Q v H
theorem qIH{i:Nat}{x:Str}{pos:Pos}(hN:X.N[i]?=some x)(hv:Vis X.env.scope x)(hd:(x==("__debug__":Str))=false:=by decide)(hcd:(x==("__classdict__":Str))=false:=by decide):PE X (.Name x pos) (tVar i):=by
 intro pins s σ H Q I h
 obtain⟨v,e,h⟩:=h
 obtain⟨m,hn,hl⟩:=I.loc
 obtain⟨u,r,l⟩:=hl i x v hN e hv
 have fin:EP X pins σ Q u s:=⟨v,H,I,r,h⟩
 rcases l with⟨hk,hm⟩|⟨hk,c,hc,hcell⟩
 ·exact wpAny_Name (wpAny_loadName_local I.ok.kind hk hn hm fin) hd
 ·rcases hk with hk|hk
  ·exact wpAny_Name (wpAny_loadName_cell I.ok.kind hk hc hcell fin) hd
  ·exact wpAny_Name (wpAny_loadName_free I.ok.kind hk hc hcell fin hcd) hd
theorem qG{i j pos}:PE X (.Constant (.int i) j pos) (tC (.int i)):=λ_ _ _ H _ I h=>wpAny_Constant_int ⟨.int i,H,I.tok _,⟨_,rfl⟩,h⟩
theorem q3B{b j pos}:PE X (.Constant (.bool b) j pos) (tC (.bl b)):=λ_ _ _ H _ I h=>Constant_bool ⟨.bl b,H,I,rfl,h⟩
theorem vS{j pos}:PE X (.Constant .none j pos) (tC .non):=λ_ _ _ H _ I h=>Constant_none ⟨.non,H,I,rfl,h⟩
theorem jO{x j pos}:PE X (.Constant (.str x) j pos) (tC (.str x)):=λ_ _ _ H _ I h=>Calls.Constant_str ⟨.str x,H,I.tok _,⟨_,rfl⟩,h⟩
noncomputable def Gl(X:Cx)(x:Str):Prop:=X.env.kindOf x=some .globalImplicit
theorem q46{E:Value→Shared→Prop}{pins:List (Addr×Obj)}{s:Shared}{σ:St}{H:Hp}{x:Str}{u:Value}{pos:Pos}{Q:Value→Shared→Prop}(I:Inv X pins σ H s)(hg:Gl X x)(hm:X.mg x=some u)(h:Q u s)
 (hd:(x==("__debug__":Str))=false:=by decide):wpAny (model X.prog X.w) X.A (eval (.Name x pos) X.env) Q E s:=
 Calls.Name_function_global I.ok.kind hg (Calls.loadGlobal_global (by rw[I.ok.glob];exact I.mod.glob.keeps I.bk) hm h) hd
theorem q22{E:Value→Shared→Prop}{pins:List (Addr×Obj)}{s:Shared}{σ:St}{H:Hp}{x:Str}{u:Value}{pos:Pos}{Q:Value→Shared→Prop}(I:Inv X pins σ H s)(hg:Gl X x)(hm:X.mg x=none)(hv:bootBuiltins x=some u)(h:Q u s)
 (hn:x≠"__name__":=by decide) (hd:(x==("__debug__":Str))=false:=by decide):wpAny (model X.prog X.w) X.A (eval (.Name x pos) X.env) Q E s:=by
 obtain⟨mb,h1,h2⟩:=I.mod.blt
 exact Calls.Name_function_global I.ok.kind hg (Calls.loadGlobal_builtin (by rw[I.ok.glob];exact I.mod.glob.keeps I.bk) hm (by rw[I.ok.blt];exact h1.keeps I.bk) ((h2 x hn).trans hv) h) hd
theorem q1B{x:Str}{v:V}{u:Value}{pos:Pos}(hg:Gl X x)(hm:X.mg x=some u)(r:RelV v u)(hd:(x==("__debug__":Str))=false:=by decide):PE X (.Name x pos) (tC v):=
 λ_ _ _ H _ I h=>q46 I hg hm ⟨v,H,I,r,h⟩ hd
theorem q1C{x:Str}{v:V}{u:Value}{pos:Pos}(hg:Gl X x)(hm:X.mg x=none)(hv:bootBuiltins x=some u)(r:RelV v u)(hn:x≠"__name__":=by decide)(hd:(x==("__debug__":Str))=false:=by decide):PE X (.Name x pos) (tC v):=
 λ_ _ _ H _ I h=>q22 I hg hm hv ⟨v,H,I,r,h⟩ hn hd
variable{a b:Expr}{ta tb:TE}{pos:Pos}
noncomputable def PC(X:Cx)(op:CmpOp)(a b:Expr)(t:TE):Prop:=
 ∀(pins:List (Addr×Obj)) (s:Shared) (σ:St) (H:Hp) (Q:VK),Inv X pins σ H s→t σ H Q→
  wpAny (model X.prog X.w) X.A (eval a X.env) (λv s₁=>wpAny (model X.prog X.w) X.A (eval b X.env) (λu s₂=>wpAny (model X.prog X.w) X.A (compareOp op v u) (EP X pins σ Q) X.xe s₂) X.xe s₁) X.xe s
noncomputable def tB(t:TE):TT:=λσ H Q=>t σ H λx H1=>∃c,x=.bl c∧Q c H1
theorem qII{op:CmpOp}{t:TE}(h:PC X op a b t)(h1:behindInMarks op b=false:=by first|exact nobehind _ (by decide) (by decide)|rfl):PE X (.Compare a [op] [b] pos) t:=λpins s σ H Q I hw=>wpAny_Compare1 (h pins s σ H Q I hw) h1
theorem qIJ{op:CmpOp}{t:TE}(h:PC X op a b t)(h1:behindInMarks op b=false:=by first|exact nobehind _ (by decide) (by decide)|rfl):PT X (.Compare a [op] [b] pos) (tB t):=by
 intro pins s σ H Q I hw
 refine wpAny_isTrue_Compare1 (thn (h pins s σ H _ I hw) λv s1 h1=>thn h1 λu s2 h2=>thn h2 λc s3 hZ=>?_) h1
 obtain⟨x,H1,I1,r1,q1⟩:=hZ
 obtain⟨d,rfl,q⟩:=q1
 cases r1
 exact gL ⟨H1,I1,q⟩
theorem jW{e:Expr}{t:TE}(h:PE X e t)(he:∀whole,isTrue e X.env whole=(do let v←whole;standAt e.pos;holding [v] (truthy v)):=by intro _;rfl):PT X e (tB t):=by
 intro pins s σ H Q I hw
 refine isTrue_plain (thn (h pins s σ H _ I hw) λv s1 hZ=>?_) (he _)
 obtain⟨x,H1,I1,r1,q1⟩:=hZ
 obtain⟨d,rfl,q⟩:=q1
 cases r1
 exact gL ⟨H1,I1,q⟩
variable{tA tB':TT}{rest:List Expr}
noncomputable def tAnd(t u:TT):TT:=λσ H Q=>t σ H λc H1=>if c=true then u σ H1 Q else Q false H1
noncomputable def tOr(t u:TT):TT:=λσ H Q=>t σ H λc H1=>if c=true then Q true H1 else u σ H1 Q
noncomputable def tNot(t:TT):TT:=λσ H Q=>t σ H λc H1=>Q (!c) H1
theorem q93(ha:PT X a tA):PW X (.BoolOp .And [a] pos) tA:=by
 intro wh pins s σ H Q I h
 refine isTrue_and (thn (ha pins s σ H Q I h) λc s1 e=>?_)
 cases c with
 |true=>exact isTrue_and_nil e
 |false=>exact e
theorem qBU(ha:PT X a tA):PW X (.BoolOp .Or [a] pos) tA:=by
 intro wh pins s σ H Q I h
 refine isTrue_or (thn (ha pins s σ H Q I h) λc s1 e=>?_)
 cases c with
 |false=>exact isTrue_or_nil e
 |true=>exact e
theorem qBV(ha:PT X a tA)(hb:PW X (.BoolOp .And (b::rest) pos) tB'):PW X (.BoolOp .And (a::b::rest) pos) (tAnd tA tB'):=by
 intro wh pins s σ H Q I h
 refine isTrue_and (thn (ha pins s σ H _ I h) λc s1 hZ=>?_)
 obtain⟨H1,I1,q1⟩:=hZ
 cases c with
 |true=>exact hb wh pins s1 σ H1 Q I1 q1
 |false=>exact⟨H1,I1,q1⟩
theorem qAF(ha:PT X a tA)(hb:PW X (.BoolOp .Or (b::rest) pos) tB'):PW X (.BoolOp .Or (a::b::rest) pos) (tOr tA tB'):=by
 intro wh pins s σ H Q I h
 refine isTrue_or (thn (ha pins s σ H _ I h) λc s1 hZ=>?_)
 obtain⟨H1,I1,q1⟩:=hZ
 cases c with
 |true=>exact⟨H1,I1,q1⟩
 |false=>exact hb wh pins s1 σ H1 Q I1 q1
theorem yL(ha:PT X a tA):PT X (.UnaryOp .Not a pos) (tNot tA):=by
 intro pins s σ H Q I h
 exact isTrue_not (ha pins s σ H (λc H1=>Q (!c) H1) I h)
noncomputable def qKC(ta tb:TE):TE:=λσ H Q=>ta σ H λx H1=>∃c,x=.bl c∧if c=true then tb σ H1 Q else Q (.bl false) H1
noncomputable def tOrV(ta tb:TE):TE:=λσ H Q=>ta σ H λx H1=>∃c,x=.bl c∧if c=true then Q (.bl true) H1 else tb σ H1 Q
noncomputable def qKD(ta:TE):TE:=λσ H Q=>ta σ H λx H1=>∃c,x=.bl c∧Q (.bl (!c)) H1
theorem q1D{op}{t:TE}(h:PE X a t):PE X (.BoolOp op [a] pos) t:=λpins s σ H Q I hw=>BoolOp_one (h pins s σ H Q I hw)
theorem q3G(ha:PE X a ta)(hb:PE X (.BoolOp .And (b::rest) pos) tb):PE X (.BoolOp .And (a::b::rest) pos) (qKC ta tb):=by
 intro pins s σ H Q I h
 refine BoolOp_and (thn (ha pins s σ H _ I h) λv s1 hZ=>?_)
 obtain⟨x,H1,I1,r1,q1⟩:=hZ
 obtain⟨c,rfl,q1⟩:=q1
 cases r1
 refine gL ?_
 cases c with
 |true=>exact hb pins s1 σ H1 Q I1 q1
 |false=>exact⟨.bl false,H1,I1,rfl,q1⟩
theorem qHZ(ha:PE X a ta)(hb:PE X (.BoolOp .Or (b::rest) pos) tb):PE X (.BoolOp .Or (a::b::rest) pos) (tOrV ta tb):=by
 intro pins s σ H Q I h
 refine BoolOp_or (thn (ha pins s σ H _ I h) λv s1 hZ=>?_)
 obtain⟨x,H1,I1,r1,q1⟩:=hZ
 obtain⟨c,rfl,q1⟩:=q1
 cases r1
 refine gL ?_
 cases c with
 |false=>exact hb pins s1 σ H1 Q I1 q1
 |true=>exact⟨.bl true,H1,I1,rfl,q1⟩
theorem qBW(ha:PE X a ta):PE X (.UnaryOp .Not a pos) (qKD ta):=by
 intro pins s σ H Q I h
 refine UnaryOp_ (thn (ha pins s σ H _ I h) λv s1 hZ=>?_)
 obtain⟨x,H1,I1,r1,q1⟩:=hZ
 obtain⟨c,rfl,q1⟩:=q1
 cases r1
 exact not_of (gL ⟨.bl (!c),H1,I1,rfl,q1⟩)
noncomputable def tIf(t:TT)(ta tb:TE):TE:=λσ H Q=>t σ H λc H1=>if c=true then ta σ H1 Q else tb σ H1 Q
theorem qEQ{c:Expr}(hc:PT X c tA)(ha:PE X a ta)(hb:PE X b tb):PE X (.IfExp c a b pos) (tIf tA ta tb):=by
 intro pins s σ H Q I h
 refine wpAny_IfExp (thn (hc pins s σ H _ I h) λd s1 hZ=>?_)
 obtain⟨H1,I1,q1⟩:=hZ
 cases d with
 |true=>exact ha pins s1 σ H1 Q I1 q1
 |false=>exact hb pins s1 σ H1 Q I1 q1
end
noncomputable def SqL(K:PySem.W.Frag)(H:Hp)(a:Addr)(xs:List V):Prop:=
 Rd H a (.lst xs)∨
  ∃(o:Obj) (its:Array Value) (n:Nat),K.lookup a=some o∧o.cls=.type "list"∧o.dict=none∧o.data=.seq its n∧its.size≤sizeLine∧Vals xs its.toList
noncomputable def SqT(K:PySem.W.Frag)(H:Hp)(a:Addr)(xs:List V):Prop:=
 Rd H a (.tup xs)∨
  ∃(o:Obj) (its:Array Value) (n:Nat),K.lookup a=some o∧o.cls=.type "tuple"∧o.data=.seq its n∧its.size≤sizeLine∧Vals xs its.toList
noncomputable def absV:Value→Option V
 | .none=>some .non
 | .bool b=>some (.bl b)
 | .int i _=>some (.int i)
 | .str x _=>some (.str x)
 | .bytes b _=>some (.byt b)
 | .float b _=>some (.flt b)
 | .ref a=>some (.ref a)
 | .type n=>some (.ty n)
 |_=>none
theorem RelV.abs{x:V}{u:Value}(r:RelV x u):absV u=some x:=by
 cases x with
 |non=>cases r;rfl
 |bl _=>cases r;rfl
 |int _=>obtain⟨t,rfl⟩:=r;rfl
 |str _=>obtain⟨t,rfl⟩:=r;rfl
 |byt _=>obtain⟨t,rfl⟩:=r;rfl
 |flt _=>obtain⟨t,rfl⟩:=r;rfl
 |ref _=>cases r;rfl
 |ty _=>cases r;rfl
theorem RelV.inj{x y:V}{u:Value}(r:RelV x u)(q:RelV y u):x=y:=kF (r.abs.symm.trans q.abs)
theorem Vals.inj{xs ys:List V}{us:List Value}(h:Vals xs us):Vals ys us→xs=ys:=by
 induction h generalizing ys with
 |nil=>exact λg=>by cases g;rfl
 |cons r t ih=>
  intro g
  cases g with
  |cons r' t'=>rw[r.inj r',ih t']
section
variable{X:Cx}{pins:List (Addr×Obj)}{σ:St}{H:Hp}{s:Shared}{a:Addr}{xs ys:List V}
theorem SqL.of{K:PySem.W.Frag}(h:H a=some (.lst xs)):SqL K H a xs:=.inl (.inl h)
theorem SqT.of{K:PySem.W.Frag}(h:H a=some (.tup xs)):SqT K H a xs:=.inl (.inl h)
theorem Inv.list(I:Inv X pins σ H s)(h:SqL X.K H a xs):∃its:List Value,Vals xs its∧PlainL s.heap a its.toArray∧xs.length≤sizeLine:=by
 rcases h with h|⟨o,its,n,hk,hc,hd,hs,hz,r⟩
 ·obtain⟨z,its,n,r,e⟩:=h.ok I.hok
  exact⟨its,r,⟨_,n,e,rfl,rfl,rfl⟩,z⟩
 ·refine⟨its.toList,r,⟨o,n,I.kIn a o hk,hc,hd,by simpa using hs⟩,?_⟩
  have e:=r.length
  simp only[mW]at e
  omega
theorem Inv.tuple(I:Inv X pins σ H s)(h:SqT X.K H a xs):∃its:List Value,Vals xs its∧IsTup s.heap a its.toArray∧xs.length≤sizeLine:=by
 rcases h with h|⟨o,its,n,hk,hc,hs,hz,r⟩
 ·obtain⟨z,its,r,p⟩:=h.ok I.hok
  exact⟨its,r,p,z⟩
 ·refine⟨its.toList,r,⟨o,I.kIn a o hk,hc,n,by simpa using hs⟩,?_⟩
  have e:=r.length
  simp only[mW]at e
  omega
theorem Inv.list_inj(I:Inv X pins σ H s)(h:SqL X.K H a xs)(h':SqL X.K H a ys):xs=ys:=by
 obtain⟨its,r,⟨o,n,e,_,_,d⟩,_⟩:=I.list h
 obtain⟨its',r',⟨o',n',e',_,_,d'⟩,_⟩:=I.list h'
 rw[e]at e';cases e'
 rw[d]at d'
 injection d' with d1 _
 have:its=its':=by simpa using dB Array.toList d1
 subst this
 exact r.inj r'
end
noncomputable abbrev Cx.wish(X:Cx)(E:Value→Shared→Prop):Cx:={ X with xe:=E }
noncomputable abbrev Cx.nox(X:Cx):Cx:=X.wish λ_ _=>False
theorem Cx.Ok.wish{X:Cx}(ok:X.Ok)(E:Value→Shared→Prop):(X.wish E).Ok:=
 ⟨ok.mod,ok.kind,ok.glob,ok.blt,ok.above,ok.inj,ok.has,ok.cab,ok.hd,ok.frames,ok.stk,ok.exf,ok.bs,ok.bsz,ok.noex,ok.exfs,ok.funs,ok.frf⟩
theorem Cx.Ok.unwish{X:Cx}{E:Value→Shared→Prop}(ok:(X.wish E).Ok):X.Ok:=
 ⟨ok.mod,ok.kind,ok.glob,ok.blt,ok.above,ok.inj,ok.has,ok.cab,ok.hd,ok.frames,ok.stk,ok.exf,ok.bs,ok.bsz,ok.noex,ok.exfs,ok.funs,ok.frf⟩
section
variable{X:Cx}{pins:List (Addr×Obj)}{σ:St}{H:Hp}{s:Shared}{E:Value→Shared→Prop}
theorem Inv.wish(I:Inv X pins σ H s)(E:Value→Shared→Prop):Inv (X.wish E) pins σ H s:=⟨I.ok.wish E,I.os,I.bare,I.base,I.loc,I.cell,I.free,I.freeC,I.pin,I.hok,I.len⟩
theorem Inv.unwish(I:Inv (X.wish E) pins σ H s):Inv X pins σ H s:=⟨I.ok.unwish,I.os,I.bare,I.base,I.loc,I.cell,I.free,I.freeC,I.pin,I.hok,I.len⟩
theorem SP.unwish{D:Ends}{f:Flow}{s':Shared}(h:SP (X.wish E) pins D f s'):SP X pins D f s':=by
 cases f with
 |next=>obtain⟨σ',H',I,q⟩:=h;exact⟨σ',H',I.unwish,q⟩
 |brk=>obtain⟨σ',H',I,q⟩:=h;exact⟨σ',H',I.unwish,q⟩
 |cont=>obtain⟨σ',H',I,q⟩:=h;exact⟨σ',H',I.unwish,q⟩
 |ret u=>obtain⟨v,σ',H',I,r,q⟩:=h;exact⟨v,σ',H',I.unwish,r,q⟩
theorem PSs.nox{st:List Stmt}{t:TS}(h:PSs X.nox st t):PSs X st t:=λpins s σ H D I hw=>
 dY (h pins s σ H D (I.wish _) hw) (λ_ _ q=>q.unwish) λ_ _ z=>False.elim z
end
section
variable{X:Cx}{st:Stmt}{rest:List Stmt}{t u:TS}{e:Expr}{te:TE}{pos:Pos}
noncomputable def qKE:TS:=λD σ H=>D.nx σ H
noncomputable def tSeq(t u:TS):TS:=λD σ H=>t { D with nx:=u D } σ H
theorem qQ:PSs X [] qKE:=λ_ _ σ H _ I h=>PySem.wpAny_execs_nil ⟨σ,H,I,h⟩
theorem qB(h1:PS X st t)(h2:PSs X rest u):PSs X (st::rest) (tSeq t u):=by
 intro pins s σ H D I h
 refine wpAny_execs_cons (thn (h1 pins s σ H { D with nx:=u D } I h) λf s1 q=>?_)
 cases f with
 |next=>
  obtain⟨σ',H',I',q⟩:=q
  exact h2 pins s1 σ' H' D I' q
 |ret v=>exact q
 |brk=>exact q
 |cont=>exact q
theorem qE(h1:PS X st t):PSs X [st] t:=by
 intro pins s σ H D I h
 refine wpAny_execs_cons (thn (h1 pins s σ H D I h) λf s1 q=>?_)
 cases f with
 |next=>exact PySem.wpAny_execs_nil q
 |ret v=>exact q
 |brk=>exact q
 |cont=>exact q
theorem Inv.quiet{pins:List (Addr×Obj)}{σ:St}{H:Hp}{s:Shared}(I:Inv X pins σ H s):interactive X.env=false:=by simp[interactive,I.ok.kind]
noncomputable def qKF(te:TE):TS:=λD σ H=>te σ H λ_ H1=>D.nx σ H1
theorem jA(he:PE X e te)(hs:swapsWith e none pos.line X.env=pure false:=by rfl):PS X (.Expr e pos) (qKF te):=by
 intro pins s σ H D I h
 exact wpAny_Expr_any (thn (he pins s σ H _ I h) λv s1 ⟨x,H1,I1,r1,q1⟩=>⟨σ,H1,I1,q1⟩) I.quiet hs
noncomputable def tRet(te:TE):TS:=λD σ H=>te σ H D.rt
theorem qL(he:PE X e te):PS X (.Return (some e) pos) (tRet te):=by
 intro pins s σ H D I h
 exact wpAny_Return_some (thn (he pins s σ H _ I h) λv s1 ⟨x,H1,I1,r1,q1⟩=>⟨x,σ,H1,I1,r1,q1⟩)
noncomputable def tIfS(c:TT)(t u:TS):TS:=λD σ H=>c σ H λb H1=>if b=true then t D σ H1 else u D σ H1
theorem jB{c:Expr}{a b:List Stmt}{tc:TT}(hc:PT X c tc)(ha:PSs X a t)(hb:PSs X b u):PS X (.If c a b pos) (tIfS tc t u):=by
 intro pins s σ H D I h
 refine wpAny_If (thn (hc pins s σ H _ I h) λd s1 hZ=>?_)
 obtain⟨H1,I1,q1⟩:=hZ
 cases d with
 |true=>exact ha pins s1 σ H1 D I1 q1
 |false=>exact hb pins s1 σ H1 D I1 q1
noncomputable def qIK:TS:=λ_ _ _=>False
theorem qZ:PS X st qIK:=λ_ _ _ _ _ _ h=>h.elim
end
noncomputable abbrev TG:=V→St→Hp→(St→Hp→Prop)→Prop
noncomputable abbrev TGs:=List V→St→Hp→(St→Hp→Prop)→Prop
noncomputable def PG(X:Cx)(target:Expr)(t:TG):Prop:=
 ∀(pins:List (Addr×Obj)) (s:Shared) (σ:St) (H:Hp) (v:V) (u:Value) (Q:St→Hp→Prop),Inv X pins σ H s→RelV v u→t v σ H Q→
  wpAny (model X.prog X.w) X.A (assign target X.env u) (λ_ s'=>∃σ' H',Inv X pins σ' H' s'∧Q σ' H') X.xe s
noncomputable def PGs(X:Cx)(ts:List Expr)(t:TGs):Prop:=
 ∀(pins:List (Addr×Obj)) (s:Shared) (σ:St) (H:Hp) (vs:List V) (us:List Value) (Q:St→Hp→Prop),Inv X pins σ H s→Vals vs us→t vs σ H Q→
  wpAny (model X.prog X.w) X.A (assignInOrder ((assignEach ts X.env).map (·.2)) us) (λ_ s'=>∃σ' H',Inv X pins σ' H' s'∧Q σ' H') X.xe s
noncomputable abbrev TSet:=V→V→V→Hp→(Hp→Prop)→Prop
noncomputable def PSet(X:Cx)(t:TSet):Prop:=
 ∀(pins:List (Addr×Obj)) (s:Shared) (σ:St) (H:Hp) (o i v:V) (ov iv u:Value) (Q:Hp→Prop),Inv X pins σ H s→RelV o ov→RelV i iv→RelV v u→t o i v H Q→
  wpAny (model X.prog X.w) X.A (setItem ov iv u) (λ_ s'=>∃H',Inv X pins σ H' s'∧Q H') X.xe s
noncomputable abbrev TIp:=V→V→Hp→VK→Prop
noncomputable def PIp(X:Cx)(op:Operator)(t:TIp):Prop:=
 ∀(pins:List (Addr×Obj)) (s:Shared) (σ:St) (H:Hp) (x y:V) (v u:Value) (Q:VK),Inv X pins σ H s→RelV x v→RelV y u→t x y H Q→
  wpAny (model X.prog X.w) X.A (inplaceOp op v u) (EP X pins σ Q) X.xe s
section
variable{X:Cx}{pos:Pos}
noncomputable def q0U(i:Nat):TG:=λv σ H Q=>Q (σ.set i (some v)) H
theorem qX{i:Nat}{x:Str}(hN:X.N.Nodup)(hi:X.N[i]?=some x)(hx:Loc X.env.scope x)(hf:X.fn x=true∨X.env.scope.names.lookup x=some .local:=by first|exact .inl rfl|exact .inr rfl|assumption):PG X (.Name x pos) (q0U i):=by
 intro pins s σ H v u Q I r h
 exact wpAny_assign_Name (q65 I hN hi hx r (λs' I'=>⟨_,H,I',h⟩) hf)
noncomputable def gNil:TGs:=λvs σ H Q=>vs=[]∧Q σ H
noncomputable def qI0(t:TG)(u:TGs):TGs:=λvs σ H Q=>∃v r,vs=v::r∧t v σ H λσ' H'=>u r σ' H' Q
theorem q1E:PGs X [] gNil:=by
 intro pins s σ H vs us Q I r h
 obtain⟨e,h⟩:=h
 subst e
 cases r
 exact assignInOrder_nil ⟨σ,H,I,h⟩
theorem yE{e:Expr}{es:List Expr}{t:TG}{u:TGs}(h1:PG X e t)(h2:PGs X es u)
 (hs:(assignEach (e::es) X.env).map (·.2)=assign e X.env::(assignEach es X.env).map (·.2):=by rfl):PGs X (e::es) (qI0 t u):=by
 intro pins s σ H vs us Q I r h
 obtain⟨v,vr,e1,h⟩:=h
 subst e1
 cases r with
 |cons r rr=>
  rw[hs]
  refine assignInOrder_cons (thn (h1 pins s σ H _ _ _ I r h) λ_ s1 hZ=>?_)
  obtain⟨σ1,H1,I1,q1⟩:=hZ
  exact h2 pins s1 σ1 H1 _ _ Q I1 rr q1
noncomputable def gTup(K:PySem.W.Frag)(n:Nat)(t:TGs):TG:=λv σ H Q=>∃a xs,v=.ref a∧SqT K H a xs∧xs.length=n∧t xs σ H Q
theorem q94{es:List Expr}{k:Nat}{t:TGs}{n:Nat}(hc:X.calm=true)(h:PGs X es t)
 (hn:(assignEach es X.env).length=n:=by rfl) (hst:(assignEach es X.env).findIdx? (·.1)=none:=by rfl):PG X (.Tuple es k pos) (gTup X.K n t):=by
 intro pins s σ H v u Q I r hw
 obtain⟨a,xs,e1,hq,hl,hw⟩:=hw
 subst e1
 cases r
 obtain⟨its,rv,ht,hz⟩:=I.tuple hq
 refine assign_Tuple_tuple (I.ok.hd hc) ht (by simp[hn,←hl,rv.length]) hst λh' hx=>?_
 have I1:Inv X pins σ H { s with heap:=h' }:=I.kept (t':=s.toks) λb o e=>hx b o (mM (kO e)) e
 exact h pins _ σ H xs _ Q I1 (by simpa using rv) hw
noncomputable def gSub(to ti:TE)(t:TSet):TG:=λv σ H Q=>to σ H λo H1=>ti σ H1 λi H2=>t o i v H2 λH3=>Q σ H3
theorem q4N{o i:Expr}{to ti:TE}{t:TSet}(ho:PE X o to)(hi:PE X i ti)(hs:PSet X t)
 (ha:∀v,assign (.Subscript o i pos) X.env v=(do
  let ov←holding [v] (eval o X.env)
  let iv←holding [v,ov] (eval i X.env)
  standAt pos
  holding [v,ov,iv] (setItem ov iv v)
  release [v,ov,iv] []):=by intro _;rfl):PG X (.Subscript o i pos) (gSub to ti t):=by
 intro pins s σ H v u Q I r h
 rw[ha]
 refine kD (gU (thn (ho pins s σ H _ I h) λov s1 hZ=>?_))
 obtain⟨x,H1,I1,r1,q1⟩:=hZ
 refine kD (gU (thn (hi pins s1 σ H1 _ I1 q1) λiv s2 hZ=>?_))
 obtain⟨y,H2,I2,r2,q2⟩:=hZ
 refine kD (PySem.wpAny_standAt (kD (gU (thn (hs pins s2 σ H2 x y v ov iv u _ I2 r1 r2 r q2) λ_ s3 hZ=>?_))))
 obtain⟨H3,I3,q3⟩:=hZ
 exact wpAny_release ⟨σ,H3,I3,q3⟩
noncomputable def tAsg(te:TE)(g:TG):TS:=λD σ H=>te σ H λx H1=>g x σ H1 D.nx
theorem q3H{tg e:Expr}{te:TE}{g:TG}(he:PE X e te)(hg:PG X tg g)(hs:swapsWithSole [tg] e pos.line X.env=pure false:=by rfl)(hw:swappedStores [tg] e X.env=pure none:=by rfl)
 (h1:(assignEach [tg] X.env).map (·.2)=[assign tg X.env]:=by rfl):PS X (.Assign [tg] e pos) (tAsg te g):=by
 intro pins s σ H D I h
 refine wpAny_Assign_stores (thn (he pins s σ H _ I h) λv s1 hZ=>?_) hs hw
 obtain⟨x,H1,I1,r1,q1⟩:=hZ
 rw[h1]
 exact thn (hg pins s1 σ H1 x v _ I1 r1 q1) λ_ s2 q=>q
theorem qV{i:Nat}{x:Str}{e:Expr}{te:TE}{pos':Pos}(hN:X.N.Nodup)(hi:X.N[i]?=some x)(hx:Loc X.env.scope x)(he:PE X e te)(hs:swapsWith e (some (.Name x pos')) pos.line X.env=pure false:=by rfl)(hf:X.fn x=true∨X.env.scope.names.lookup x=some .local:=by first|exact .inl rfl|exact .inr rfl|assumption):
 PS X (.Assign [.Name x pos'] e pos) (tAsg te (q0U i)):=by
 intro pins s σ H D I h
 refine wpAny_Assign_Name (thn (he pins s σ H _ I h) λv s1 hZ=>?_) hs
 obtain⟨y,H1,I1,r1,q1⟩:=hZ
 exact q65 I1 hN hi hx r1 (λs2 I2=>⟨_,H1,I2,q1⟩) hf
noncomputable def tAug(i:Nat)(te:TE)(ti:TIp):TS:=λD σ H=>∃x,σ[i]?=some (some x)∧te σ H λy H1=>ti x y H1 λz H2=>D.nx (σ.set i (some z)) H2
theorem qER{i:Nat}{x:Str}{e:Expr}{te:TE}{op:Operator}{ti:TIp}{pos':Pos}(hN:X.N.Nodup)(hi:X.N[i]?=some x)(hx:Loc X.env.scope x)(he:PE X e te)(ho:PIp X op ti)(hf:X.fn x=true∨X.env.scope.names.lookup x=some .local:=by first|exact .inl rfl|exact .inr rfl|assumption):
 PS X (.AugAssign (.Name x pos') op e pos) (tAug i te ti):=by
 intro pins s σ H D I h
 obtain⟨v,e1,h⟩:=h
 obtain⟨m,hn,hl⟩:=I.loc
 have vis:Vis X.env.scope x:=by rcases hx with k|k;exact .inl k;exact .inr (.inl k)
 obtain⟨u,r,l⟩:=hl i x v hi e1 vis
 refine wpAny_AugAssign_Name ?_
 have go:wpAny (model X.prog X.w) X.A (eval e X.env) (λw s₂=>wpAny (model X.prog X.w) X.A (inplaceOp op u w) (λr s₃=>wpAny (model X.prog X.w) X.A (storeName X.env x r) (λ_=>SP X pins D .next) X.xe s₃) X.xe s₂) X.xe s:=by
  refine thn (he pins s σ H _ I h) λw s1 hZ=>?_
  obtain⟨y,H1,I1,r1,q1⟩:=hZ
  refine thn (ho pins s1 σ H1 v y u w _ I1 r r1 q1) λz s2 hZ=>?_
  obtain⟨zv,H2,I2,r2,q2⟩:=hZ
  exact q65 I2 hN hi hx r2 (λs3 I3=>⟨_,H2,I3,q2⟩) hf
 rcases l with⟨hk,hm⟩|⟨hk,c,hc,hcell⟩
 ·exact wpAny_loadName_local I.ok.kind hk hn hm go
 ·rcases hk with hk|hk
  ·exact wpAny_loadName_cell I.ok.kind hk hc hcell go
  ·rcases hx with k|k
   ·have:X.env.scope.names.lookup x=some .free:=hk
    rw[k]at this;cases this
   ·have:X.env.scope.names.lookup x=some .free:=hk
    rw[k]at this;cases this
noncomputable def qKG(to ti te:TE)(tget:V→V→Hp→VK→Prop)(tip:TIp)(tset:TSet):TS:=λD σ H=>to σ H λo H1=>ti σ H1 λi H2=>tget o i H2 λx H3=>te σ H3 λy H4=>tip x y H4 λz H5=>tset o i z H5 λH6=>D.nx σ H6
noncomputable def PGet(X:Cx)(t:V→V→Hp→VK→Prop):Prop:=
 ∀(pins:List (Addr×Obj)) (s:Shared) (σ:St) (H:Hp) (o i:V) (ov iv:Value) (Q:VK),Inv X pins σ H s→RelV o ov→RelV i iv→t o i H Q→
  wpAny (model X.prog X.w) X.A (getItem ov iv) (EP X pins σ Q) X.xe s
theorem q30{o i e:Expr}{to ti te:TE}{tget:V→V→Hp→VK→Prop}{tip:TIp}{tset:TSet}{op:Operator}{tpos:Pos}(ho:PE X o to)(hi:PE X i ti)(hg:PGet X tget)(he:PE X e te)(hp:PIp X op tip)(hs:PSet X tset)
 (ha:∀ov iv new,augStore i ov iv new=(do holding [new,ov,iv] (setItem ov iv new);release [new,ov,iv] [];pure .next):=by intros;rfl):PS X (.AugAssign (.Subscript o i tpos) op e pos) (qKG to ti te tget tip tset):=by
 intro pins s σ H D I h
 refine wpAny_AugAssign_SubscriptAny (thn (ho pins s σ H _ I h) λov s1 hZ=>?_) ha
 obtain⟨x1,H1,I1,r1,q1⟩:=hZ
 refine thn (hi pins s1 σ H1 _ I1 q1) λiv s2 hZ=>?_
 obtain⟨x2,H2,I2,r2,q2⟩:=hZ
 refine thn (hg pins s2 σ H2 x1 x2 ov iv _ I2 r1 r2 q2) λold s3 hZ=>?_
 obtain⟨x3,H3,I3,r3,q3⟩:=hZ
 refine thn (he pins s3 σ H3 _ I3 q3) λv s4 hZ=>?_
 obtain⟨x4,H4,I4,r4,q4⟩:=hZ
 refine thn (hp pins s4 σ H4 x3 x4 old v _ I4 r3 r4 q4) λnew s5 hZ=>?_
 obtain⟨x5,H5,I5,r5,q5⟩:=hZ
 exact thn (hs pins s5 σ H5 x1 x2 x5 ov iv new _ I5 r1 r2 r5 q5) λ_ s6 ⟨H6,I6,q6⟩=>⟨σ,H6,I6,q6⟩
noncomputable def ipI(f:Int→Int→Int):TIp:=λx y H Q=>∃i j,x=.int i∧y=.int j∧Q (.int (f i j)) H
theorem q3I:PIp X .Add (ipI λi j=>i+j):=by
 intro pins s σ H x y v u Q I r1 r2 h
 obtain⟨i,j,e1,e2,q⟩:=h
 subst e1;subst e2
 obtain⟨t,rfl⟩:=r1
 obtain⟨t',rfl⟩:=r2
 exact iadd_int ⟨.int _,H,I.tok _,⟨_,rfl⟩,q⟩
theorem qIL:PIp X .Sub (ipI λi j=>i-j):=by
 intro pins s σ H x y v u Q I r1 r2 h
 obtain⟨i,j,e1,e2,q⟩:=h
 subst e1;subst e2
 obtain⟨t,rfl⟩:=r1
 obtain⟨t',rfl⟩:=r2
 exact isub_int ⟨.int _,H,I.tok _,⟨_,rfl⟩,q⟩
end
section
variable{X:Cx}{pos:Pos}
noncomputable def qIM(c:TT)(tb:TS):TS:=λD σ H=>∃W:Nat→St→Hp→Prop,(∃m,W m σ H)∧∀m σ H,W m σ H→
 c σ H λb H1=>if b=true then ∃N:St→Hp→Prop,(∀σ' H',N σ' H'→∃m',m'<m∧W m' σ' H')∧tb { D with nx:=N,ct:=N,bk:=D.nx } σ H1 else D.nx σ H1
theorem qAG{c:Expr}{body:List Stmt}{tc:TT}{tb:TS}(hp:PassesOwn (model X.prog X.w) X.A X.env X.xe)(hc:PT X c tc)(hb:PSs X body tb):PS X (.While c body [] pos) (qIM tc tb):=by
 intro pins s σ H D I h
 obtain⟨W,⟨m0,w0⟩,turn⟩:=h
 refine wpAny_While (codeAny_whileLoop (λn s'=>∃σ' H',Inv X pins σ' H' s'∧W n σ' H') ?_ m0 ⟨σ,H,I,w0⟩)
 rintro n s1 ⟨σ1,H1,I1,w1⟩
 refine rM hp (thn (hc pins s1 σ1 H1 _ I1 (turn n σ1 H1 w1)) λb s2 hZ=>?_)
 obtain⟨H2,I2,q2⟩:=hZ
 cases b with
 |true=>
  obtain⟨N,hN,q2⟩:=q2
  rw[kG rfl]
  refine rM hp (thn (hb pins s2 σ1 H2 _ I2 q2) λf s3 q3=>?_)
  cases f with
  |next=>
   obtain⟨σ3,H3,I3,n3⟩:=q3
   obtain⟨m',hm,w3⟩:=hN σ3 H3 n3
   exact⟨m',hm,σ3,H3,I3,w3⟩
  |cont=>
   obtain⟨σ3,H3,I3,n3⟩:=q3
   obtain⟨m',hm,w3⟩:=hN σ3 H3 n3
   exact⟨m',hm,σ3,H3,I3,w3⟩
  |brk=>exact q3
  |ret v=>exact q3
 |false=>
  rw[hX kJ]
  exact PySem.wpAny_execs_nil ⟨σ1,H2,I2,q2⟩
end
structure It where
 go:Nat→Hp→Prop
 yld:Nat→Hp→V→Hp→Prop
 stop:Nat→Hp→Prop
noncomputable def FpOk(X:Cx)(pins:List (Addr×Obj))(H:Hp)(b:Addr):Prop:=
 H b=none∧b≠X.env.locals∧b∉X.fs∧(b∈X.ex∨X.s₀.heap.objs.size≤b)∧(∀x c,X.env.cells.lookup x=some c→c≠b)∧∀p∈X.pn++pins,p.1≠b
theorem Inv.fpOk{X:Cx}{pins:List (Addr×Obj)}{σ:St}{H H':Hp}{s:Shared}{b:Addr}(I:Inv X pins σ H s)(hb:s.heap.objs.size≤b)(hn:H' b=none):FpOk X pins H' b:=by
 refine⟨hn,g7 (mC I.lt hb),I.nofs hb,.inr (mD I.sz hb),λx c e z=>?_,λp hp z=>?_⟩
 ·obtain⟨v,q⟩:=I.cell x c e
  exact absurd (mC q.lt (by rw[z];exact hb)) (gX _)
 ·exact absurd (mC (kO (I.pin p hp).1) (by rw[z];exact hb)) (gX _)
structure Turn(P:Program)(w:World)(K:PySem.W.Frag)(tg:Expr)(J:It)(fp:List Addr)(it:Addr)(tn:Nat→Heap→Prop):Prop where
 mem:it∈fp
 obj:∀i h,tn i h→∀b∈fp,∃o,h.get? b=some o∧∀v,o.data≠ .cell v
 keep:∀i h h',tn i h→(∀b∈fp,∀o,h.get? b=some o→h'.get? b=some o)→tn i h'
 item:∀(X:Cx),X.prog=P→X.w=w→X.K=K→X.calm=true→∀(i:Nat) (pins:List (Addr×Obj)) (s:Shared) (σ:St) (H:Hp) (E:Value→Shared→Prop),Inv X pins σ H s→(∀b∈fp,FpOk X pins H b)→tn i s.heap→J.go i H→
  wpAny (model P w) X.A (pyNext (.ref it)) (λr s1=>∃u,r=some u∧
   wpAny (model P w) X.A (letOwnedTupleGo tg (.ref it) u) (λ_ s2=>∃x H',Inv X pins σ H' s2∧RelV x u∧J.yld i H x H'∧tn (i+1) s2.heap∧∀b∈fp,H' b=none) E s1) E s
 done:∀(X:Cx),X.prog=P→X.w=w→X.K=K→X.calm=true→∀(i:Nat) (pins:List (Addr×Obj)) (s:Shared) (σ:St) (H:Hp) (E:Value→Shared→Prop),Inv X pins σ H s→(∀b∈fp,FpOk X pins H b)→tn i s.heap→J.stop i H→
  wpAny (model P w) X.A (pyNext (.ref it)) (λr s1=>r=none∧Inv X pins σ H s1) E s
 self:∀(A:Around) (i:Nat) (s:Shared) (Q:Value→Shared→Prop) (E:Value→Shared→Prop),tn i s.heap→Q (.ref it) s→wpAny (model P w) A (pyIter (.ref it)) Q E s
noncomputable abbrev TI:=St→Hp→(It→Hp→Prop)→Prop
noncomputable def PIE(X:Cx)(pins:List (Addr×Obj))(σ:St)(tg:Expr)(R:It→Hp→Prop)(itv:Value)(s2:Shared):Prop:=
 ∃(it:Addr) (fp:List Addr) (tn:Nat→Heap→Prop) (J:It) (H':Hp),itv=.ref it∧Inv X pins σ H' s2∧Turn X.prog X.w X.K tg J fp it tn∧tn 0 s2.heap∧(∀b∈fp,FpOk X pins H' b)∧R J H'
noncomputable def PI(X:Cx)(tg iter:Expr)(wi:TI):Prop:=
 ∀(pins:List (Addr×Obj)) (s:Shared) (σ:St) (H:Hp) (R:It→Hp→Prop),Inv X pins σ H s→wi σ H R→
  wpAny (model X.prog X.w) X.A (eval iter X.env) (λv s1=>wpAny (model X.prog X.w) X.A (pyIter v) (PIE X pins σ tg R) X.xe s1) X.xe s
theorem qES{M:Model}{A:Around}{E:Value→Shared→Prop}{s:Shared}{tg:Expr}{it:Addr}{u:Value}{o:Obj}{n:String}{vs:Array Value}{Q:Unit→Shared→Prop}(ho:s.heap.get? it=some o)(hc:o.cls=.type n)(hd:o.data=.fields vs)
 (hn:["enumerate","zip","dict_itemiterator","dict_reverseitemiterator","odict_iterator","itertools.zip_longest","itertools.pairwise"].contains n=false) (hQ:Q () s):wpAny M A (letOwnedTupleGo tg (.ref it) u) Q E s:=by
 unfold letOwnedTupleGo
 cases tg<;>first
  |exact kZ hQ
  |(cases u<;>first
   |exact kZ hQ
   |(refine kD (wpAny_load ho ?_)
     rw[hc,hd]
     show wpAny M A (if(["enumerate","zip","dict_itemiterator","dict_reverseitemiterator","odict_iterator","itertools.zip_longest","itertools.pairwise"].contains n&&vs[0]?==some (rawInt _))=true then _ else _) Q E s
     rw[hX (by intro h;rw[hn,Bool.false_and]at h;cases h)]
     exact kZ hQ))
noncomputable def Itl(K:PySem.W.Frag)(a:Addr):It:=
 ⟨λi H=>∃xs x,SqL K H a xs∧xs[i]?=some x,λi H x H'=>H'=H∧∀xs,SqL K H a xs→xs[i]?=some x,λi H=>∃xs,SqL K H a xs∧xs.length≤i⟩
noncomputable def Itr(lo:Int)(n:Nat):It:=⟨λi _=>i<n,λi H x H'=>H'=H∧x=.int (lo+i),λi _=>n≤i⟩
theorem qDS{P:Program}{w:World}{K:PySem.W.Frag}{tg:Expr}(a it:Addr):Turn P w K tg (Itl K a) [it] it (λi h=>h.IsListIter it a i) where
 mem:=by simp
 obj:=λi h st b hb=>by
  have e:b=it:=by simpa using hb
  subst e
  obtain⟨o,e,c,d⟩:=st
  exact⟨o,e,λv z=>by rw[d]at z;cases z⟩
 keep:=λi h h' st k=>st.at λo e=>k it (by simp) o e
 item:=by
  intro X hP hw hK hc i pins s σ H E I hf st hg
  subst hP hw hK
  obtain⟨xs,x,hq,hx⟩:=hg
  obtain⟨its,rv,p,hz⟩:=I.list hq
  obtain⟨u,hu,ru⟩:=rv.get hx
  obtain⟨f0,f1,f2,f3,f4,f5⟩:=hf it (by simp)
  refine wpAny_pyNext_list_item st p.isList (x:=u) (by simpa using hu) λh' st' sb=>?_
  have I1:Inv X pins σ H { s with heap:=h' }:=I.turned (t':=s.toks) (λb o hb e=>(sb.2 b hb).trans e) f0 f1 f3 f4 f5
  obtain⟨o,e,c,d⟩:=id st'
  exact⟨u,rfl,qES (s:={ s with heap:=h' }) e c d (by decide) ⟨x,H,I1,ru,⟨rfl,λys hy=>by rw[I.list_inj hy hq];exact hx⟩,st',λb hb=>(hf b hb).1⟩⟩
 done:=by
  intro X hP hw hK hc i pins s σ H E I hf st hg
  subst hP hw hK
  obtain⟨xs,hq,hx⟩:=hg
  obtain⟨its,rv,p,hz⟩:=I.list hq
  obtain⟨f0,f1,f2,f3,f4,f5⟩:=hf it (by simp)
  have hl:=rv.length
  exact wpAny_pyNext_list_end (I.ok.hd hc) st p.isList (by simp;omega) λh' eb=>⟨rfl,I.turned (t':=s.toks) (λb o hb e=>eb b o hb e) f0 f1 f3 f4 f5⟩
 self:=λ_ _ _ _ _ st h=>wpAny_pyIter_listiter st h
theorem qBX{P:Program}{w:World}{K:PySem.W.Frag}{tg:Expr}(it:Addr)(lo:Int)(n:Nat):Turn P w K tg (Itr lo n) [it] it (λi h=>IsRangeIter h it (lo+(i:Nat)*1) ((n:Int)-(i:Nat)) 1) where
 mem:=by simp
 obj:=λi h st b hb=>by
  have e:b=it:=by simpa using hb
  subst e
  exact⟨_,st,λv z=>by
   have z':Data.fields _=Data.cell v:=z
   cases z'⟩
 keep:=λi h h' st k=>k it (by simp) _ st
 item:=by
  intro X hP hw hK hc i pins s σ H E I hf st hg
  subst hP hw hK
  obtain⟨f0,f1,f2,f3,f4,f5⟩:=hf it (by simp)
  have W:=Walks.range (prog:=X.prog) (w:=X.w) (I.ok.hd hc) it lo 1 n
  refine W.item i s _ _ hg st λv h' tk hv st' kk=>?_
  obtain⟨t,rfl⟩:=hv
  have I1:Inv X pins σ H { s with heap:=h',toks:=tk }:=I.turned (λb o hb e=>kk b o (by simpa using hb) e) f0 f1 f3 f4 f5
  refine⟨_,rfl,qES (s:={ s with heap:=h',toks:=tk }) (n:="range_iterator") st' rfl rfl (by decide) ⟨.int (lo+i),H,I1,⟨t,?_⟩,⟨rfl,rfl⟩,st',λb hb=>(hf b hb).1⟩⟩
  rw[Int.mul_one]
 done:=by
  intro X hP hw hK hc i pins s σ H E I hf st hg
  subst hP hw hK
  obtain⟨f0,f1,f2,f3,f4,f5⟩:=hf it (by simp)
  exact wpAny_pyNext_range_end (I.ok.hd hc) st (by have:n≤i:=hg;omega) λh' eb=>⟨rfl,I.turned (t':=s.toks) (λb o hb e=>eb b o hb e) f0 f1 f3 f4 f5⟩
 self:=λ_ _ _ _ _ st h=>wpAny_pyIter_rangeiter st h
section
variable{X:Cx}{tg:Expr}
noncomputable def qKH(K:PySem.W.Frag)(tl:TE):TI:=λσ H R=>tl σ H λx H1=>∃a,x=.ref a∧(∃xs,SqL K H1 a xs)∧R (Itl K a) H1
theorem jP{l:Expr}{tl:TE}(hl:PE X l tl):PI X tg l (qKH X.K tl):=by
 intro pins s σ H R I h
 refine thn (hl pins s σ H _ I h) λv s1 hZ=>?_
 obtain⟨x,H1,I1,r1,q1⟩:=hZ
 obtain⟨a,e,⟨xs,hq⟩,q⟩:=q1
 subst e
 cases r1
 obtain⟨its,rv,p,hz⟩:=I1.list hq
 refine wpAny_pyIter_list p.isList ?_
 refine⟨s1.heap.objs.size,[s1.heap.objs.size],_,_,H1,rfl,I1.kept (t':=s1.toks) λb o e=>hZ _ e,qDS a _,⟨_,mI _ rfl,rfl,rfl⟩,λb hb=>?_,q⟩
 have e:b=s1.heap.objs.size:=by simpa using hb
 subst e
 exact I1.fpOk (kM _) (I1.hok.fresh (kM _))
theorem qAH{pins:List (Addr×Obj)}{σ:St}{H:Hp}{s:Shared}{R:It→Hp→Prop}{E:Value→Shared→Prop}{lo hi:Int}{t u v:Tok}{tk:Nat}(I:Inv X pins σ H s)(h1:-(2 ^ 62)≤lo)(h2:lo<2 ^ 62)(h3:-(2 ^ 62)≤hi)(h4:hi<2 ^ 62)
 (q:R (Itr lo (hi-lo).toNat) H):wpAny (model X.prog X.w) X.A (pyIter (.ref s.heap.objs.size)) (PIE X pins σ tg R) E { s with heap:=s.heap.push { cls:=.type "range",data:=.fields #[.int lo t,.int hi u,.int 1 v] },toks:=tk }:=by
 refine wpAny_pyIter_range (IsRange.new ..) (small_one h1 h2 h3 h4) ?_
 have I1:Inv X pins σ H { s with heap:=s.heap.push { cls:=.type "range",data:=.fields #[.int lo t,.int hi u,.int 1 v] },toks:=tk }:=I.kept λb o e=>hZ _ e
 refine⟨(s.heap.push { cls:=.type "range",data:=.fields #[.int lo t,.int hi u,.int 1 v] }).objs.size,[(s.heap.push { cls:=.type "range",data:=.fields #[.int lo t,.int hi u,.int 1 v] }).objs.size],_,_,H,rfl,
  I1.kept (t':=tk) λb o e=>hZ _ e,qBX _ lo (hi-lo).toNat,?_,λb hb=>?_,q⟩
 ·have e1:lo+((0:Nat):Int)*1=lo:=by simp
  have e2:(((hi-lo).toNat:Nat):Int)-((0:Nat):Int)=Builtin.Range.rangeSize lo hi 1:=by rw[rangeSize_one];split<;>omega
  show IsRangeIter _ _ (lo+((0:Nat):Int)*1) ((((hi-lo).toNat:Nat):Int)-((0:Nat):Int)) 1
  rw[e1,e2]
  exact mI _ rfl
 ·have e:b=(s.heap.push { cls:=.type "range",data:=.fields #[.int lo t,.int hi u,.int 1 v] }).objs.size:=by simpa using hb
  subst e
  exact I1.fpOk (kM _) (I1.hok.fresh (kM _))
noncomputable def qKI(ta:TA):TI:=λσ H R=>ta σ H λvs H1=>∃j:Int,vs=[.int j]∧-(2 ^ 62)≤j∧j<2 ^ 62∧R (Itr 0 j.toNat) H1
noncomputable def qKJ(ta:TA):TI:=λσ H R=>ta σ H λvs H1=>∃i j:Int,vs=[.int i,.int j]∧(-(2 ^ 62)≤i∧i<2 ^ 62∧-(2 ^ 62)≤j∧j<2 ^ 62)∧R (Itr i (j-i).toNat) H1
theorem zF{a:Expr}{ta:TA}{p pos:Pos}(hg:Gl X "range")(hm:X.mg "range"=none)(ha:PA X [a] ta)(hs:starEach [a] X.env=[(false,eval a X.env)]:=by rfl):PI X tg (.Call (.Name "range" p) [a] [] pos) (qKI ta):=by
 intro pins s σ H R I h
 refine Call_ (q22 I hg hm boot_range (PyProof.Rows.callWith_type1 (thn (ha pos pins s σ H _ I h) λus s1 hZ=>?_) hs rfl))
 obtain⟨vs,H1,I1,r1,q1⟩:=hZ
 obtain⟨j,e,q1,q2,q⟩:=q1
 subst e
 cases r1 with
 |cons r rr=>
  cases rr
  obtain⟨t,rfl⟩:=r
  exact call_range_1 (qAH I1 (by omega) (by omega) q1 q2 (by simpa using q))
theorem qDT{a b:Expr}{ta:TA}{p pos:Pos}(hg:Gl X "range")(hm:X.mg "range"=none)(ha:PA X [a,b] ta)(hs:starEach [a,b] X.env=[(false,eval a X.env),(false,eval b X.env)]:=by rfl)(hs2:starEach [b] X.env=[(false,eval b X.env)]:=by rfl):
 PI X tg (.Call (.Name "range" p) [a,b] [] pos) (qKJ ta):=by
 intro pins s σ H R I h
 refine Call_ (q22 I hg hm boot_range (PyProof.Rows.callWith_type1 (thn (ha pos pins s σ H _ I h) λus s1 ⟨vs,H1,I1,r1,q1⟩=>?_) (by rw[hs,hs2]) (by rw[hs2];rfl)))
 obtain⟨i,j,e,⟨q1,q2,q3,q4⟩,q⟩:=q1
 subst e
 cases r1 with
 |cons r rr=>
  cases rr with
  |cons r' rr=>
   cases rr
   obtain⟨t,rfl⟩:=r
   obtain⟨t',rfl⟩:=r'
   exact call_range_2 (qAH I1 q1 q2 q3 q4 q)
noncomputable def tFor(wi:TI)(g:TG)(tb:TS):TS:=λD σ H=>wi σ H λJ H1=>∃W:Nat→Nat→St→Hp→Prop,(∃m,W 0 m σ H1)∧∀i m σ H,W i m σ H→
 (J.stop i H∧D.nx σ H)∨(J.go i H∧∃N:St→Hp→Prop,(∀σ' H',N σ' H'→∃m',m'<m∧W (i+1) m' σ' H')∧∀x H',J.yld i H x H'→g x σ H' λσ2 H2=>tb { D with nx:=N,ct:=N,bk:=D.nx } σ2 H2)
noncomputable def q66(fp:List Addr)(h:Heap):List (Addr×Obj):=fp.filterMap λb=>(h.get? b).map λo=>(b,o)
theorem vC{fp:List Addr}{h:Heap}{b:Addr}{o:Obj}(hb:b∈fp)(e:h.get? b=some o):(b,o)∈q66 fp h:=List.mem_filterMap.mpr ⟨b,hb,by rw[e];rfl⟩
theorem qDU{fp:List Addr}{h:Heap}{p:Addr×Obj}(hp:p∈q66 fp h):p.1∈fp∧h.get? p.1=some p.2:=by
 obtain⟨b,hb,e⟩:=List.mem_filterMap.mp hp
 cases q:h.get? b with
 |none=>rw[q]at e;cases e
 |some o=>
  rw[q]at e
  have e':(b,o)=p:=kF e
  subst e'
  exact⟨hb,q⟩
theorem Inv.pinned{pins:List (Addr×Obj)}{σ:St}{H:Hp}{s:Shared}{fp:List Addr}(I:Inv X pins σ H s)(hf:∀b∈fp,FpOk X pins H b)(ho:∀b∈fp,∃o,s.heap.get? b=some o∧∀v,o.data≠ .cell v):Inv X (pins++q66 fp s.heap) σ H s:=
 I.pins_of λp hp=>(gF.mp hp).elim (λz=>I.pin p (mO _ z)) λz=>by
  obtain⟨hb,e⟩:=qDU z
  obtain⟨f0,f1,f2,_⟩:=hf p.1 hb
  obtain⟨o,e',d⟩:=ho p.1 hb
  rw[e]at e';cases e'
  exact⟨e,f0,f1,f2,d⟩
theorem Inv.unpinned{pins pl:List (Addr×Obj)}{σ:St}{H:Hp}{s:Shared}(I:Inv X (pins++pl) σ H s):Inv X pins σ H s:=I.pins_of λp hp=>I.pin p (mO _ (List.mem_append_left _ hp))
theorem q06{iter:Expr}{body:List Stmt}{wi:TI}{g:TG}{tb:TS}{pos:Pos}(hp:PassesOwn (model X.prog X.w) X.A X.env X.xe)(hc:X.calm=true)(hi:PI X tg iter wi)(hg:PG X tg g)(hb:PSs X body tb)
 (hs:∀x,foldedSetIterable iter X.env x=pure x:=by intro _;rfl):PS X (.For tg iter body [] pos) (tFor wi g tb):=by
 intro pins s σ H D I h
 refine wpAny_For (thn (hi pins s σ H _ I h) λv s1 h1=>thn h1 λitv s2 h2=>?_) hs
 obtain⟨it,fp,tn,J,H2,e,I2,T,st2,f2,W,⟨m0,w0⟩,turn⟩:=h2
 subst e
 have stat:∀{H':Hp},(∀b∈fp,H' b=none)→∀b∈fp,FpOk X pins H' b:=λhn b hb=>⟨hn b hb,(f2 b hb).2⟩
 refine codeAny_forLoop_any (λn s'=>∃i σ' H',Inv X pins σ' H' s'∧tn i s'.heap∧(∀b∈fp,H' b=none)∧W i n σ' H') ?_ m0 ⟨0,σ,H2,I2,st2,λb hb=>(f2 b hb).1,w0⟩
 rintro n s3 ⟨i,σ3,H3,I3,st3,fr3,w3⟩
 rcases turn i n σ3 H3 w3 with⟨stop,qn⟩|⟨go,N,hN,step⟩
 ·refine rM hp (thn (T.done X rfl rfl rfl hc i pins s3 σ3 H3 X.xe I3 (stat fr3) st3 stop) λr s4 hZ=>?_)
  obtain⟨hr,I4⟩:=hZ
  subst hr
  exact PySem.wpAny_execs_nil ⟨σ3,H3,I4,qn⟩
 ·refine rM hp (thn (T.item X rfl rfl rfl hc i pins s3 σ3 H3 X.xe I3 (stat fr3) st3 go) λr s4 hZ=>?_)
  obtain⟨u,hr,h4⟩:=hZ
  subst hr
  refine rM hp (thn h4 λ_ s5 hZ=>?_)
  obtain⟨x,H5,I5,r5,y5,st5,fr5⟩:=hZ
  have I5':=I5.pinned (stat fr5) (T.obj _ _ st5)
  refine rM hp (thn (hg _ s5 σ3 H5 x u _ I5' r5 (step x H5 y5)) λ_ s6 hZ=>?_)
  obtain⟨σ6,H6,I6,q6⟩:=hZ
  refine rM hp (thn (hb _ s6 σ6 H6 _ I6 q6) λf s7 q7=>?_)
  have again:∀{σ7:St} {H7:Hp},Inv X (pins++q66 fp s5.heap) σ7 H7 s7→N σ7 H7→∃m,m<n∧∃i σ' H',Inv X pins σ' H' s7∧tn i s7.heap∧(∀b∈fp,H' b=none)∧W i m σ' H':=fun {σ7 H7} I7 n7=>by
   obtain⟨m',hm,w7⟩:=hN σ7 H7 n7
   refine⟨m',hm,i+1,σ7,H7,I7.unpinned,T.keep _ _ _ st5 λb hb o e=>(I7.pin (b,o) (mO _ (mO _ (vC hb e)))).1,λb hb=>?_,w7⟩
   obtain⟨o,e,d⟩:=T.obj _ _ st5 b hb
   exact(I7.pin (b,o) (mO _ (mO _ (vC hb e)))).2.1
  cases f with
  |next=>obtain⟨σ7,H7,I7,n7⟩:=q7;exact again I7 n7
  |cont=>obtain⟨σ7,H7,I7,n7⟩:=q7;exact again I7 n7
  |brk=>obtain⟨σ7,H7,I7,q7⟩:=q7;exact⟨σ7,H7,I7.unpinned,q7⟩
  |ret v=>obtain⟨x7,σ7,H7,I7,r7,q7⟩:=q7;exact⟨x7,σ7,H7,I7.unpinned,r7,q7⟩
end
theorem vL{K:PySem.W.Frag}{a:Addr}{xs:List V}{g:TG}{tb:TS}{D:Ends}{σ:St}{H:Hp}(Pv:Nat→St→Hp→Prop)(h0:Pv 0 σ H)(hl:∀i σ H,i≤xs.length→Pv i σ H→SqL K H a xs)
 (hs:∀i x σ H,xs[i]?=some x→Pv i σ H→g x σ H λσ2 H2=>tb { D with nx:=Pv (i+1),ct:=Pv (i+1),bk:=D.nx } σ2 H2) (hd:∀σ H,Pv xs.length σ H→D.nx σ H):
 ∃W:Nat→Nat→St→Hp→Prop,(∃m,W 0 m σ H)∧∀i m σ H,W i m σ H→
  ((Itl K a).stop i H∧D.nx σ H)∨((Itl K a).go i H∧∃N:St→Hp→Prop,(∀σ' H',N σ' H'→∃m',m'<m∧W (i+1) m' σ' H')∧∀x H',(Itl K a).yld i H x H'→g x σ H' λσ2 H2=>tb { D with nx:=N,ct:=N,bk:=D.nx } σ2 H2):=by
 refine⟨λi m σ H=>m=xs.length-i∧i≤xs.length∧Pv i σ H,⟨xs.length,by simp,mN _,h0⟩,?_⟩
 rintro i m σ H ⟨rfl,hi,p⟩
 have q:=hl i σ H hi p
 by_cases hlt:i<xs.length
 ·refine .inr ⟨⟨xs,xs[i],q,by simp[hlt]⟩,Pv (i+1),λσ' H' p'=>⟨xs.length-(i+1),by omega,rfl,hlt,p'⟩,λx H' y=>?_⟩
  obtain⟨e,y⟩:=y
  subst e
  exact hs i x σ _ (y xs q) p
 ·have e:i=xs.length:=by omega
  subst e
  exact .inl ⟨⟨xs,q,kM _⟩,hd σ H p⟩
theorem qDV{lo:Int}{n:Nat}{g:TG}{tb:TS}{D:Ends}{σ:St}{H:Hp}(Pv:Nat→St→Hp→Prop)(h0:Pv 0 σ H)
 (hs:∀i σ H,i<n→Pv i σ H→g (.int (lo+i)) σ H λσ2 H2=>tb { D with nx:=Pv (i+1),ct:=Pv (i+1),bk:=D.nx } σ2 H2) (hd:∀σ H,Pv n σ H→D.nx σ H):
 ∃W:Nat→Nat→St→Hp→Prop,(∃m,W 0 m σ H)∧∀i m σ H,W i m σ H→
  ((Itr lo n).stop i H∧D.nx σ H)∨((Itr lo n).go i H∧∃N:St→Hp→Prop,(∀σ' H',N σ' H'→∃m',m'<m∧W (i+1) m' σ' H')∧∀x H',(Itr lo n).yld i H x H'→g x σ H' λσ2 H2=>tb { D with nx:=N,ct:=N,bk:=D.nx } σ2 H2):=by
 refine⟨λi m σ H=>m=n-i∧i≤n∧Pv i σ H,⟨n,by simp,mN _,h0⟩,?_⟩
 rintro i m σ H ⟨rfl,hi,p⟩
 by_cases hlt:i<n
 ·refine .inr ⟨hlt,Pv (i+1),λσ' H' p'=>⟨n-(i+1),by omega,rfl,hlt,p'⟩,λx H' y=>?_⟩
  obtain⟨e,y⟩:=y
  subst e y
  exact hs i σ _ hlt p
 ·have e:i=n:=by omega
  subst e
  exact .inl ⟨kM _,hd σ H p⟩
noncomputable abbrev R2:=V→V→Hp→VK→Prop
noncomputable def OpR(X:Cx)(f:Value→Value→Sem Value)(r:R2):Prop:=
 ∀(pins:List (Addr×Obj)) (s:Shared) (σ:St) (H:Hp) (x y:V) (v u:Value) (Q:VK),Inv X pins σ H s→RelV x v→RelV y u→r x y H Q→
  wpAny (model X.prog X.w) X.A (f v u) (EP X pins σ Q) X.xe s
noncomputable def zY(X:Cx)(f:Value)(r:List V→Hp→VK→Prop):Prop:=
 ∀(pins:List (Addr×Obj)) (s:Shared) (σ:St) (H:Hp) (xs:List V) (us:List Value) (Q:VK),Inv X pins σ H s→Vals xs us→r xs H Q→
  wpAny (model X.prog X.w) X.A (call f us) (EP X pins σ Q) X.xe s
noncomputable def tOp(r:R2)(ta tb:TE):TE:=λσ H Q=>ta σ H λx H1=>tb σ H1 λy H2=>r x y H2 Q
noncomputable def rI(C:Int→Int→Prop)(g:Int→Int→V):R2:=λx y H Q=>∃i j,x=.int i∧y=.int j∧C i j∧Q (g i j) H
noncomputable def rI0(g:Int→Int→V):R2:=λx y H Q=>∃i j,x=.int i∧y=.int j∧Q (g i j) H
section
variable{X:Cx}{a b c:Expr}{ta tb tc:TE}{pos:Pos}
theorem binT(ha:PE X a ta)(hb:PE X b tb){pins:List (Addr×Obj)}{s:Shared}{σ:St}{H:Hp}{R:V→V→Hp→Prop}(I:Inv X pins σ H s)
 (h:ta σ H λx H1=>tb σ H1 λy H2=>R x y H2) {Q:Value→Shared→Prop} {f:Value→Value→Sem Value}
 (hf:∀v u s2 x y H2,Inv X pins σ H2 s2→RelV x v→RelV y u→R x y H2→wpAny (model X.prog X.w) X.A (f v u) Q X.xe s2):
 wpAny (model X.prog X.w) X.A (eval a X.env) (λv s₁=>wpAny (model X.prog X.w) X.A (eval b X.env) (λu s₂=>wpAny (model X.prog X.w) X.A (f v u) Q X.xe s₂) X.xe s₁) X.xe s:=by
 refine thn (ha pins s σ H _ I h) λv s1 hZ=>?_
 obtain⟨x,H1,I1,r1,q1⟩:=hZ
 refine thn (hb pins s1 σ H1 _ I1 q1) λu s2 hZ=>?_
 obtain⟨y,H2,I2,r2,q2⟩:=hZ
 exact hf v u s2 x y H2 I2 r1 r2 q2
theorem qN{op:Operator}{r:R2}(ho:OpR X (binaryOp op) r)(ha:PE X a ta)(hb:PE X b tb):PE X (.BinOp a op b pos) (tOp r ta tb):=by
 intro pins s σ H Q I h
 exact wpAny_BinOp (binT ha hb I h λv u s2 x y H2 I2 rx ry q=>ho pins s2 σ H2 x y v u Q I2 rx ry q)
theorem opI{f:Value→Value→Sem Value}{C:Int→Int→Prop}{g:Int→Int→Int}
 (rule:∀(i j:Int) (t u:Tok) (s:Shared) (Q:Value→Shared→Prop) (E:Value→Shared→Prop),C i j→Q (.int (g i j) s.toks) { s with toks:=s.toks+1 }→wpAny (model X.prog X.w) X.A (f (.int i t) (.int j u)) Q E s):
 OpR X f (rI C λi j=>.int (g i j)):=by
 intro pins s σ H x y v u Q I rx ry h
 obtain⟨i,j,rfl,rfl,hc,q⟩:=h
 obtain⟨t,rfl⟩:=rx
 obtain⟨t',rfl⟩:=ry
 exact rule i j t t' s _ _ hc ⟨.int (g i j),H,I.tok _,⟨_,rfl⟩,q⟩
theorem opI0{f:Value→Value→Sem Value}{g:Int→Int→Int}
 (rule:∀(i j:Int) (t u:Tok) (s:Shared) (Q:Value→Shared→Prop) (E:Value→Shared→Prop),Q (.int (g i j) s.toks) { s with toks:=s.toks+1 }→wpAny (model X.prog X.w) X.A (f (.int i t) (.int j u)) Q E s):
 OpR X f (rI0 λi j=>.int (g i j)):=by
 intro pins s σ H x y v u Q I rx ry h
 obtain⟨i,j,rfl,rfl,q⟩:=h
 obtain⟨t,rfl⟩:=rx
 obtain⟨t',rfl⟩:=ry
 exact rule i j t t' s _ _ ⟨.int (g i j),H,I.tok _,⟨_,rfl⟩,q⟩
theorem opB0{f:Value→Value→Sem Value}{g:Int→Int→Bool}
 (rule:∀(i j:Int) (t u:Tok) (s:Shared) (Q:Value→Shared→Prop) (E:Value→Shared→Prop),Q (.bool (g i j)) s→wpAny (model X.prog X.w) X.A (f (.int i t) (.int j u)) Q E s):
 OpR X f (rI0 λi j=>.bl (g i j)):=by
 intro pins s σ H x y v u Q I rx ry h
 obtain⟨i,j,rfl,rfl,q⟩:=h
 obtain⟨t,rfl⟩:=rx
 obtain⟨t',rfl⟩:=ry
 exact rule i j t t' s _ _ ⟨.bl (g i j),H,I,rfl,q⟩
noncomputable def CDiv(i j:Int):Prop:=0<j∧j<1073741824
noncomputable def CPow(i j:Int):Prop:=0≤j∧j≤1000000∧i.natAbs<2 ^ 64
noncomputable def CMul(i j:Int):Prop:=(-(2 ^ 64)<i∧i<2 ^ 64)∨(-(2 ^ 64)<j∧j<2 ^ 64)
theorem CMul.ok{i j:Int}(h:CMul i j):IntMulOk i j:=by
 rcases h with⟨h1,h2⟩|⟨h1,h2⟩
 ·exact .of_left (intBits_le_64 h1 h2)
 ·exact .of_right (intBits_le_64 h1 h2)
theorem yI:OpR X (binaryOp .Add) (rI0 λi j=>.int (i+j)):=opI0 λ_ _ _ _ _ _ _ q=>add_int q
theorem jR:OpR X (binaryOp .Sub) (rI0 λi j=>.int (i-j)):=opI0 λ_ _ _ _ _ _ _ q=>sub_int q
theorem yB:OpR X (binaryOp .Mult) (rI CMul λi j=>.int (i*j)):=opI λ_ _ _ _ _ _ _ hc q=>mul_int q hc.ok
theorem q1F:OpR X (binaryOp .FloorDiv) (rI CDiv λi j=>.int (i / j)):=opI λi j _ _ _ _ _ hc q=>by
 have h1:(0:Int)<j:=hc.1
 have h2:j<1073741824:=hc.2
 exact floordiv_int (by omega) (by rw[Int.fdiv_eq_ediv_of_nonneg i (by omega)];exact q) (.inl (PyProof.noPylong_small (by omega)))
theorem uU:OpR X (binaryOp .Mod) (rI (λ_ j=>0<j) λi j=>.int (i%j)):=opI λi j _ _ _ _ _ hc q=>by
 have h1:(0:Int)<j:=hc
 exact mod_int' (by omega) (by rw[Int.fmod_eq_emod_of_nonneg i (by omega)];exact q)
theorem qIN:OpR X (binaryOp .Pow) (rI CPow λi j=>.int (i ^ j.toNat)):=opI λ_ _ _ _ _ _ _ hc q=>pow_int_small hc.1 hc.2.1 hc.2.2 q
end
noncomputable def scal:V→V→Bool
 | .non,.non=>true| .non,.int _=>true| .int _,.non=>true| .non,.bl _=>true| .bl _,.non=>true| .non,.str _=>true| .str _,.non=>true
 | .int _,.int _=>true| .bl _,.bl _=>true| .str _,.str _=>true| .byt _,.byt _=>true
 | .int _,.str _=>true| .str _,.int _=>true| .bl _,.str _=>true| .str _,.bl _=>true
 |_,_=>false
noncomputable def rEq:R2:=λx y H Q=>scal x y=true∧Q (.bl (decide (x=y))) H
noncomputable def rNe:R2:=λx y H Q=>scal x y=true∧Q (.bl (!decide (x=y))) H
theorem qCN{i j:Int}:decide (V.int i=V.int j)=(i==j):=by
 rw[Bool.eq_iff_iff]
 simp
theorem qET{i j:Bool}:decide (V.bl i=V.bl j)=(i==j):=by
 rw[Bool.eq_iff_iff]
 simp
theorem qCO{i j:Str}:decide (V.str i=V.str j)=(i==j):=by
 rw[Bool.eq_iff_iff]
 simp
theorem qCP{i j:Array UInt8}:decide (V.byt i=V.byt j)=(i.toList==j.toList):=by
 rw[Bool.eq_iff_iff]
 cases i
 cases j
 simp
section
variable{X:Cx}{a b c:Expr}{ta tb tc:TE}{pos:Pos}
theorem jH{pins:List (Addr×Obj)}{σ:St}{H:Hp}{s:Shared}{Q:VK}{k k':Bool}(I:Inv X pins σ H s)(q:Q (.bl k) H)(e:k=k'):EP X pins σ Q (.bool k') s:=by
 subst e
 exact⟨.bl k,H,I,rfl,q⟩
theorem u9:OpR X (compareOp .Eq) rEq:=by
 intro pins s σ H x y v u Q I rx ry h
 obtain⟨hs,q⟩:=h
 cases x with
 |non=>
  cases rx
  cases y with
  |non=>cases ry;exact PySem.EqNone.eq_none_none (jH I q (by simp))
  |bl j=>cases ry;exact PySem.EqNone.eq_none_bool (jH I q (by simp))
  |int j=>obtain⟨t',rfl⟩:=ry;exact PySem.EqNone.eq_none_int (jH I q (by simp))
  |str j=>obtain⟨t',rfl⟩:=ry;exact PySem.EqNone.eq_none_str (jH I q (by simp))
  |_=>exact absurd (show false=true from hs) kJ
 |bl i=>
  cases rx
  cases y with
  |non=>cases ry;exact PySem.EqNone.eq_bool_none (jH I q (by simp))
  |bl j=>cases ry;exact eq_bool (jH I q qET)
  |str j=>obtain⟨t',rfl⟩:=ry;exact PySem.EqMixed.eq_bool_str (jH I q (by simp))
  |_=>exact absurd (show false=true from hs) kJ
 |int i=>
  obtain⟨t,rfl⟩:=rx
  cases y with
  |non=>cases ry;exact PySem.EqNone.eq_int_none (jH I q (by simp))
  |int j=>obtain⟨t',rfl⟩:=ry;exact eq_int (jH I q qCN)
  |str j=>obtain⟨t',rfl⟩:=ry;exact PySem.EqMixed.eq_int_str (jH I q (by simp))
  |_=>exact absurd (show false=true from hs) kJ
 |str i=>
  obtain⟨t,rfl⟩:=rx
  cases y with
  |non=>cases ry;exact PySem.EqNone.eq_str_none (jH I q (by simp))
  |bl j=>cases ry;exact PySem.EqMixed.eq_str_bool (jH I q (by simp))
  |int j=>obtain⟨t',rfl⟩:=ry;exact PySem.EqMixed.eq_str_int (jH I q (by simp))
  |str j=>obtain⟨t',rfl⟩:=ry;exact eq_str (jH I q qCO)
  |_=>exact absurd (show false=true from hs) kJ
 |byt i=>
  obtain⟨t,rfl⟩:=rx
  cases y with
  |byt j=>obtain⟨t',rfl⟩:=ry;exact PySem.W.eq_bytes (jH I q qCP)
  |_=>exact absurd (show false=true from hs) kJ
 |_=>cases y<;>exact absurd (show false=true from hs) kJ
theorem qAI:OpR X (compareOp .NotEq) rNe:=by
 intro pins s σ H x y v u Q I rx ry h
 obtain⟨hs,q⟩:=h
 cases x with
 |non=>
  cases rx
  cases y with
  |non=>cases ry;exact PySem.EqNone.ne_none_none (jH I q (by simp))
  |bl j=>cases ry;exact PySem.EqNone.ne_none_bool (jH I q (by simp))
  |int j=>obtain⟨t',rfl⟩:=ry;exact PySem.EqNone.ne_none_int (jH I q (by simp))
  |str j=>obtain⟨t',rfl⟩:=ry;exact PySem.EqNone.ne_none_str (jH I q (by simp))
  |_=>exact absurd (show false=true from hs) kJ
 |bl i=>
  cases rx
  cases y with
  |non=>cases ry;exact PySem.EqNone.ne_bool_none (jH I q (by simp))
  |bl j=>cases ry;exact ne_bool (jH I q (dB not qET))
  |str j=>obtain⟨t',rfl⟩:=ry;exact PySem.EqMixed.ne_bool_str (jH I q (by simp))
  |_=>exact absurd (show false=true from hs) kJ
 |int i=>
  obtain⟨t,rfl⟩:=rx
  cases y with
  |non=>cases ry;exact PySem.EqNone.ne_int_none (jH I q (by simp))
  |int j=>obtain⟨t',rfl⟩:=ry;exact ne_int (jH I q (dB not qCN))
  |str j=>obtain⟨t',rfl⟩:=ry;exact PySem.EqMixed.ne_int_str (jH I q (by simp))
  |_=>exact absurd (show false=true from hs) kJ
 |str i=>
  obtain⟨t,rfl⟩:=rx
  cases y with
  |non=>cases ry;exact PySem.EqNone.ne_str_none (jH I q (by simp))
  |bl j=>cases ry;exact PySem.EqMixed.ne_str_bool (jH I q (by simp))
  |int j=>obtain⟨t',rfl⟩:=ry;exact PySem.EqMixed.ne_str_int (jH I q (by simp))
  |str j=>obtain⟨t',rfl⟩:=ry;exact ne_str (jH I q (dB not qCO))
  |_=>exact absurd (show false=true from hs) kJ
 |byt i=>
  obtain⟨t,rfl⟩:=rx
  cases y with
  |byt j=>obtain⟨t',rfl⟩:=ry;exact PySem.W.ne_bytes (jH I q (dB not qCP))
  |_=>exact absurd (show false=true from hs) kJ
 |_=>cases y<;>exact absurd (show false=true from hs) kJ
theorem zZ:OpR X (compareOp .Lt) (rI0 λi j=>.bl (decide (i<j))):=opB0 λ_ _ _ _ _ _ _ q=>lt_int q
theorem qEU:OpR X (compareOp .LtE) (rI0 λi j=>.bl (decide (i≤j))):=opB0 λ_ _ _ _ _ _ _ q=>le_int q
theorem q8H:OpR X (compareOp .Gt) (rI0 λi j=>.bl (decide (j<i))):=opB0 λ_ _ _ _ _ _ _ q=>gt_int q
theorem qCQ:OpR X (compareOp .GtE) (rI0 λi j=>.bl (decide (j≤i))):=opB0 λ_ _ _ _ _ _ _ q=>ge_int q
theorem qBY:OpR X (compareOp .Is) (λx y H Q=>y=.non∧Q (.bl (decide (x=.non))) H):=by
 intro pins s σ H x y v u Q I rx ry h
 obtain⟨rfl,q⟩:=h
 cases ry
 refine is_none_gen (jH I q ?_)
 cases x<;>first
  |(cases rx;rfl)
  |(obtain⟨t,rfl⟩:=rx;rfl)
theorem q5U:OpR X (compareOp .IsNot) (λx y H Q=>y=.non∧Q (.bl (!decide (x=.non))) H):=by
 intro pins s σ H x y v u Q I rx ry h
 obtain⟨rfl,q⟩:=h
 cases ry
 refine isnot_none_gen (jH I q ?_)
 cases x<;>first
  |(cases rx;rfl)
  |(obtain⟨t,rfl⟩:=rx;rfl)
theorem qU(b:Expr){op:CmpOp}(h:op≠ .In:=by decide)(h2:op≠ .NotIn:=by decide):behindInMarks op b=false:=by
 have e1:(op==CmpOp.In)=false:=by cases op<;>first|rfl|exact absurd rfl h
 have e2:(op==CmpOp.NotIn)=false:=by cases op<;>first|rfl|exact absurd rfl h2
 cases b<;>simp[behindInMarks,e1,e2]
theorem uV{op:CmpOp}{r:R2}(ho:OpR X (compareOp op) r)(ha:PE X a ta)(hb:PE X b tb)(hm:behindInMarks op b=false):PE X (.Compare a [op] [b] pos) (tOp r ta tb):=by
 intro pins s σ H Q I h
 exact wpAny_Compare1 (binT ha hb I h λv u s2 x y H2 I2 rx ry q=>ho pins s2 σ H2 x y v u Q I2 rx ry q) hm
noncomputable def qI1(t:TE):TT:=λσ H Q=>t σ H λx H'=>∃k,x=.bl k∧Q k H'
theorem qS{op:CmpOp}{r:R2}(ho:OpR X (compareOp op) r)(ha:PE X a ta)(hb:PE X b tb)(hm:behindInMarks op b=false):PT X (.Compare a [op] [b] pos) (qI1 (tOp r ta tb)):=by
 intro pins s σ H Q I h
 refine wpAny_isTrue_Compare1 (thn (ha pins s σ H _ I h) λv s1 ⟨x,H1,I1,r1,q1⟩=>thn (hb pins s1 σ H1 _ I1 q1) λu s2 ⟨y,H2,I2,r2,q2⟩=>
  thn (ho pins s2 σ H2 x y v u _ I2 r1 r2 q2) λc s3 ⟨z,H3,I3,r3,k,e,q3⟩=>?_) hm
 subst e
 cases r3
 exact gL ⟨H3,I3,q3⟩
noncomputable def qEV(r r':R2)(ta tb tc:TE):TE:=λσ H Q=>ta σ H λx H1=>tb σ H1 λy H2=>r x y H2 λz H3=>∃k,z=.bl k∧
 (if k=true then tc σ H3 λw' H4=>r' y w' H4 Q else Q (.bl false) H3)
theorem qEW{op op':CmpOp}{r r':R2}(ho:OpR X (compareOp op) r)(ho':OpR X (compareOp op') r')(ha:PE X a ta)(hb:PE X b tb)(hc:PE X c tc)
 (hm:lastMarks [op,op'] [b,c]=false:=by with_unfolding_all rfl):PE X (.Compare a [op,op'] [b,c] pos) (qEV r r' ta tb tc):=by
 intro pins s σ H Q I h
 refine Compare_chain (thn (ha pins s σ H _ I h) λv s1 ⟨x,H1,I1,r1,q1⟩=>chain_link (thn (hb pins s1 σ H1 _ I1 q1) λu s2 ⟨y,H2,I2,r2,q2⟩=>
  thn (ho pins s2 σ H2 x y v u _ I2 r1 r2 q2) λd s3 ⟨z,H3,I3,r3,k,e,q3⟩=>?_)) hm
 subst e
 cases r3
 refine gL ?_
 cases k with
 |false=>exact ite_ff ⟨.bl false,H3,I3,rfl,q3⟩
 |true=>exact ite_tt (chain_last (thn (hc pins s3 σ H3 _ I3 q3) λw' s4 ⟨z',H4,I4,r4,q4⟩=>ho' pins s4 σ H4 y z' u w' Q I4 r2 r4 q4))
theorem q67{op op':CmpOp}{r r':R2}(ho:OpR X (compareOp op) r)(ho':OpR X (compareOp op') r')(ha:PE X a ta)(hb:PE X b tb)(hc:PE X c tc)
 (hm:lastMarks [op,op'] [b,c]=false:=by with_unfolding_all rfl):PT X (.Compare a [op,op'] [b,c] pos) (qI1 (qEV r r' ta tb tc)):=by
 intro pins s σ H Q I h
 refine isTrue_chain (thn (ha pins s σ H _ I h) λv s1 ⟨x,H1,I1,r1,q1⟩=>test_link (thn (hb pins s1 σ H1 _ I1 q1) λu s2 ⟨y,H2,I2,r2,q2⟩=>
  thn (ho pins s2 σ H2 x y v u _ I2 r1 r2 q2) λd s3 ⟨z,H3,I3,r3,k,e,q3⟩=>?_)) hm
 subst e
 cases r3
 refine gL ?_
 cases k with
 |false=>
  obtain⟨k',e',q'⟩:=q3
  cases e'
  exact ite_ff ⟨H3,I3,q'⟩
 |true=>
  refine ite_tt (test_last (thn (hc pins s3 σ H3 _ I3 q3) λw' s4 ⟨z',H4,I4,r4,q4⟩=>thn (ho' pins s4 σ H4 y z' u w' _ I4 r2 r4 q4) λd' s5 hZ=>?_))
  obtain⟨z2,H5,I5,r5,k2,e2,q5⟩:=hZ
  subst e2
  cases r5
  exact gL ⟨H5,I5,q5⟩
theorem q68:(sizeLine:Nat)<2 ^ 63:=by rw[gD];decide
theorem zH{x:V}{us:List Value}(r:Vals [x] us):∃u,us=[u]∧RelV x u:=by
 cases r with
 |cons r1 r2=>cases r2;exact⟨_,rfl,r1⟩
theorem qKK{x y:V}{us:List Value}(r:Vals [x,y] us):∃u w',us=[u,w']∧RelV x u∧RelV y w':=by
 cases r with
 |cons r1 r2=>
  cases r2 with
  |cons r3 r4=>cases r4;exact⟨_,_,rfl,r1,r3⟩
end
structure ObjM(h:Heap)(x dx C:Addr)(mA:Str→Option Value):Prop where
 obj:h.get? x=some (PySem.W.instObj C dx)
 ns:h.Ns1 dx mA
 ne:dx≠x
theorem q8I{h:Heap}{dx:Addr}{mA:Str→Option Value}(n:h.Ns1 dx mA):∃od,h.get? dx=some od∧∀name,PySem.W.lookIn name od=some (mA name):=by
 obtain⟨o,es,ep,ho,hd,hk,_,hm⟩:=n
 refine⟨o,ho,λname=>?_⟩
 have e:=hm name
 unfold nsFind findBy at e
 rw[←Array.find?_toList]at e
 unfold PySem.W.lookIn
 rw[hd]
 dsimp only
 split
 ·rename_i y q
  rw[q]at e
  exact dB some e
 ·rename_i q
  rw[q]at e
  have a:es.toList.any (·.refKey)=false:=by
   rw[List.any_eq_false]
   intro y hy
   obtain⟨z,t,hkey⟩:=hk y (Array.mem_toList_iff.mp hy)
   simp[DictEntry.refKey,hkey]
  have a':¬es.toList.any (·.refKey)=true:=by rw[a];exact kJ
  rw[hX a']
  exact dB some e
theorem ObjM.look{h:Heap}{x dx C:Addr}{mA:Str→Option Value}(I:ObjM h x dx C mA):∃od,PySem.W.InstAt h x (PySem.W.instObj C dx) C (some od)∧∀name,PySem.W.lookIn name od=some (mA name):=
 let⟨od,ho,hl⟩:=q8I I.ns
 ⟨od,⟨I.obj,rfl,rfl,ho⟩,hl⟩
section
variable{prog:Program}{w:World}{A:Around}{E:Value→Shared→Prop}{s:Shared}{K:PySem.W.Frag}{x dx C f:Addr}{mA:Str→Option Value}{name:Str}{v:Value}
theorem qGO{expr:Bool}{Q:Value→Shared→Prop}(X:K.In s.heap)(I:ObjM s.heap x dx C mA)(hg:PySem.W.plainGet K C name=true)(hh:PySem.W.hasDictIn K C=true)
 (ha:PySem.W.findIn K (.ref C) name=some none) (hv:mA name=some v) (hv':PySem.W.handedIn v=true) (h:Q v { s with toks:=s.toks+1 }):
 wpAny (model prog w) A (getAttr (.ref x) name expr) Q E s:=by
 obtain⟨od,J,hl⟩:=I.look
 exact PySem.W.get_value X J (PySem.W.plainGet_of hg).1 (PySem.W.findObj_own hh ha rfl (by rw[hl,hv])) hv' h
theorem qEX{pl:Sem Bool}{Q:Value×List Value→Shared→Prop}(X:K.In s.heap)(I:ObjM s.heap x dx C mA)(hg:PySem.W.plainGet K C name=true)
 (hf:PySem.W.findIn K (.ref C) name=some (some (.ref f))) (ht:PySem.W.isFn K (.ref f)=true) (hv:mA name=none) (h:Q (.ref f,[.ref x]) s):
 wpAny (model prog w) A (getMethod (.ref x) name pl) Q E s:=by
 obtain⟨od,J,hl⟩:=I.look
 exact PySem.W.method_fn X J (PySem.W.plainGet_of hg).1 (PySem.W.plainGet_of hg).2 hf (beq_iff_eq.mp ht) (by show(PySem.W.lookIn name od).map (·.isSome)=some false;rw[hl,hv];rfl) h
theorem qGP{ns:List Str}{Q:Unit→Shared→Prop}(X:K.In s.heap)(I:ObjM s.heap x dx C mA)
 (hs:PySem.W.findIn K (.ref C) "__setattr__"=some (some (.builtin "object.__setattr__"))) (hp:PySem.W.plainOver K C=true) (ht:PySem.W.takerIn K C name=some none) (hh:PySem.W.hasDictIn K C=true)
 (hw:PySem.Within mA ns) (hsz:ns.length≤sizeLine)
 (h:∀h',ObjM h' x dx C (λy=>if y=name then some v else mA y)→Heap.SameBut dx s.heap h'→Q () { s with heap:=h',toks:=s.toks+2 }):
 wpAny (model prog w) A (setAttr (.ref x) name v) Q E s:=by
 obtain⟨od,J,hl⟩:=I.look
 refine PySem.W.set_plain X J hs (PySem.W.osa_open (s:={ s with toks:=s.toks+1 }) (r:=none) X J hp ht λb=>?_)
 obtain⟨cd,hc,hd'⟩:=PySem.W.any_some hh
 have hx:s.heap.get? x=some ⟨.ref C,some dx,.plain,#[]⟩:=I.obj
 refine kD (kZ (kD (kD (wpAny_loadPart hx (kD (PySem.W.Looks.here (s:={ s with toks:=s.toks+1 }) (PySem.W.looks_clsIn X hc) ?_))))))
 rw[hd']
 refine kZ (a:=some dx) (kD (kZ (kD ?_)))
 refine wpAny_nsSet1 (s:={ s with toks:=s.toks+1 }) I.ns λh' hn2 hs2=>?_
 obtain⟨oD,esD,epD,hoD,hdD,hcD⟩:=hn2.count (PySem.Within.cons name v hw)
 refine kD (wpAny_lookBehind hoD (by rw[hdD];exact pastItsLine_dict (mD hcD (by rw[mP];omega))) ?_)
 exact kZ (h _ ⟨(hs2.2 _ (Ne.symm I.ne)).trans I.obj,hn2,I.ne⟩ hs2)
theorem qEY{R:Result→Shared→Prop}{vs:List Value}{kw:List (Str×Value)}(X:K.In s.heap)(hm:PySem.W.makesIn K C=true)
 (hi:PySem.W.findIn K (.ref C) "__init__"=some (some (.ref f))) (hf:PySem.W.typeIn K (.ref f)=some (.type "function"))
 (h:codeAny (model prog w) (A.under (.builtin "type.__call__" ⟨.ref C::vs,kw⟩)) (.call (.ref f) ⟨.ref (s.heap.objs.size+1)::vs,kw⟩) (PySem.W.InitBack (s.heap.objs.size+1) R)
  { s with heap:=(s.heap.push PySem.W.emptyDict).push (PySem.W.instObj C s.heap.objs.size) }):
 codeAny (model prog w) A (.call (.ref C) ⟨vs,kw⟩) R s:=by
 obtain⟨hh,g,d,t,os⟩:=s
 exact PySem.W.make_core (PySem.W.makes_of X hm) (PySem.W.looks_findIn X hi) (λself=>PySem.W.bind_fn X self hf) (.inl rfl) h
end
noncomputable def putF(f:Str)(v:V):List (Str×V)→List (Str×V)
 | []=>[(f,v)]
 |(g,x)::r=>if g=f then(g,v)::r else(g,x)::putF f v r
theorem q58(f g:Str)(v:V):∀fs:List (Str×V),(putF f v fs).lookup g=if g=f then some v else fs.lookup g
 | []=>by
  show List.lookup g [(f,v)]=_
  by_cases h:g=f
  ·have hb:(g==f)=true:=beq_iff_eq.mpr h
   simp only[List.lookup,hb,kG h]
  ·have hb:(g==f)=false:=beq_eq_false_iff_ne.mpr h
   simp only[List.lookup,hb,hX h]
 |(k,x)::r=>by
  have ih:=q58 f g v r
  rw[show putF f v ((k,x)::r)=(if k=f then(k,v)::r else(k,x)::putF f v r)from rfl]
  by_cases hk:k=f
  ·rw[kG hk]
   by_cases h:g=k
   ·have hb:(g==k)=true:=beq_iff_eq.mpr h
    simp only[List.lookup,hb,kG (h.trans hk)]
   ·have hb:(g==k)=false:=beq_eq_false_iff_ne.mpr h
    simp only[List.lookup,hb,hX (λe:g=f=>h (e.trans hk.symm))]
  ·rw[hX hk]
   by_cases h:g=k
   ·have hb:(g==k)=true:=beq_iff_eq.mpr h
    simp only[List.lookup,hb,hX (λe:g=f=>hk (h.symm.trans e))]
   ·have hb:(g==k)=false:=beq_eq_false_iff_ne.mpr h
    simp only[List.lookup,hb]
    exact ih
theorem q4O(f:Str)(v:V):∀fs:List (Str×V),f∈(putF f v fs).map (·.1)∧∀g,g∈fs.map (·.1)→g∈(putF f v fs).map (·.1)
 | []=>⟨by simp[putF],λg h=>by simp at h⟩
 |(k,x)::r=>by
  obtain⟨i1,i2⟩:=q4O f v r
  rw[show putF f v ((k,x)::r)=(if k=f then(k,v)::r else(k,x)::putF f v r)from rfl]
  by_cases hk:k=f
  ·rw[kG hk]
   subst hk
   exact⟨by simp,λg h=>by simpa using h⟩
  ·rw[hX hk]
   refine⟨?_,λg h=>?_⟩
   ·rw[mJ]
    exact kE _ i1
   ·rw[mJ]at h ⊢
    rcases kI.mp h with e|e
    ·exact kI.mpr (.inl e)
    ·exact kE _ (i2 g e)
theorem q59(f:Str)(v:V):∀fs:List (Str×V),(putF f v fs).length≤fs.length+1
 | []=>by simp[putF]
 |(k,x)::r=>by
  have ih:=q59 f v r
  rw[show putF f v ((k,x)::r)=(if k=f then(k,v)::r else(k,x)::putF f v r)from rfl]
  by_cases hk:k=f
  ·rw[kG hk,mP,mP];omega
  ·rw[hX hk,mP,mP];omega
theorem RelO.some_of{v:V}{o:Option Value}(r:RelO (some v) o):∃u,o=some u∧RelV v u:=by
 cases o with
 |none=>exact(show False from r).elim
 |some u=>exact⟨u,rfl,r⟩
theorem RelO.none_of{o:Option Value}(r:RelO none o):o=none:=by
 cases o with
 |none=>rfl
 |some u=>exact(show False from r).elim
theorem qDW{v:V}{u:Value}(r:RelV v u):PySem.W.handedIn u=true:=by
 cases v with
 |non=>cases(show u=Value.none from r);rfl
 |bl b=>cases(show u=Value.bool b from r);rfl
 |int i=>obtain⟨t,e⟩:=(show ∃t,u=Value.int i t from r);cases e;rfl
 |str x=>obtain⟨t,e⟩:=(show ∃t,u=Value.str x t from r);cases e;rfl
 |byt b=>obtain⟨t,e⟩:=(show ∃t,u=Value.bytes b t from r);cases e;rfl
 |flt b=>obtain⟨t,e⟩:=(show ∃t,u=Value.float b t from r);cases e;rfl
 |ref a=>cases(show u=Value.ref a from r);rfl
 |ty n=>cases(show u=Value.type n from r);rfl
section
variable{P:Program}{w:World}{H H':Hp}{h h':Heap}{a C dx:Addr}{fs fs':List (Str×V)}
theorem q5V(hok:HOk P w H h)(e:H a=some (.ins C dx fs)):∃mA,ObjM h a dx C mA∧(∀f,RelO (fs.lookup f) (mA f))∧PySem.Within mA (fs.map (·.1))∧fs.length≤1000∧H dx=some (.own a):=by
 obtain⟨d,z,ne,ob,mA,n,r,q⟩:=(show jN P w H h a (.ins C dx fs)from hok a _ e)
 exact⟨mA,⟨ob,n,ne⟩,r,q,z,d⟩
end
structure Cls(K:PySem.W.Frag)(C:Addr):Prop where
 pg:PySem.W.plainGet K C Str.empty=true
 hd:PySem.W.hasDictIn K C=true
 po:PySem.W.plainOver K C=true
 sa:PySem.W.findIn K (.ref C) "__setattr__"=some (some (.builtin "object.__setattr__"))
theorem Cls.get{K:PySem.W.Frag}{C:Addr}(c:Cls K C)(f:Str):PySem.W.plainGet K C f=true:=c.pg
noncomputable def qR(K:PySem.W.Frag)(C:Addr)(f:Str):Prop:=PySem.W.findIn K (.ref C) f=some none
theorem qR.taker{K:PySem.W.Frag}{C:Addr}{f:Str}(n:qR K C f):PySem.W.takerIn K C f=some none:=by
 unfold PySem.W.takerIn
 rw[show PySem.W.findIn K (.ref C) f=some none from n]
 rfl
structure Meth(K:PySem.W.Frag)(C:Addr)(m:Str)(f:Addr):Prop where
 at_:PySem.W.findIn K (.ref C) m=some (some (.ref f))
 fn:PySem.W.isFn K (.ref f)=true
 kp:PySem.W.keepIn K (.ref f)=true
section
variable{X:Cx}{pins:List (Addr×Obj)}{σ:St}{H:Hp}{s:Shared}{a C dx:Addr}{fs:List (Str×V)}{f:Str}{v:V}{A:Around}{E:Value→Shared→Prop}
theorem q69{b:Bool}{Q:Value→Shared→Prop}(I:Inv X pins σ H s)(e:H a=some (.ins C dx fs))(c:Cls X.K C)(n:qR X.K C f)(l:fs.lookup f=some v)
 (h:∀u s',Inv X pins σ H s'→RelV v u→Q u s'):wpAny (model X.prog X.w) A (getAttr (.ref a) f b) Q E s:=by
 obtain⟨mA,O,r,_,_,_⟩:=q5V I.hok e
 obtain⟨u,hu,ru⟩:=RelO.some_of (v:=v) (o:=mA f) (by rw[←l];exact r f)
 exact qGO I.kIn O (c.get f) c.hd n hu (qDW ru) (h u _ (I.tok _) ru)
theorem q6A{m:Str}{g:Addr}{pl:Sem Bool}{Q:Value×List Value→Shared→Prop}(I:Inv X pins σ H s)(e:H a=some (.ins C dx fs))(c:Cls X.K C)(k:Meth X.K C m g)(l:fs.lookup m=none)
 (h:Q (.ref g,[.ref a]) s):wpAny (model X.prog X.w) A (getMethod (.ref a) m pl) Q E s:=by
 obtain⟨mA,O,r,_,_,_⟩:=q5V I.hok e
 have hn:mA m=none:=RelO.none_of (by rw[←l];exact r m)
 exact qEX I.kIn O (c.get m) k.at_ k.fn hn h
theorem q6B{y:V}{u:Value}{Q:Unit→Shared→Prop}(I:Inv X pins σ H s)(e:H a=some (.ins C dx fs))(c:Cls X.K C)(n:qR X.K C f)(hl:fs.length<1000)(ry:RelV y u)
 (h:∀s',Inv X pins σ (upd H a (.ins C dx (putF f y fs))) s'→Q () s'):wpAny (model X.prog X.w) A (setAttr (.ref a) f u) Q E s:=by
 obtain⟨mA,O,r,wi,_,ho⟩:=q5V I.hok e
 have hz:(fs.map (·.1)).length≤sizeLine:=by rw[hC,gD];omega
 refine qGP I.kIn O c.sa c.po n.taker c.hd wi hz λh' O' sb=>h _ ?_
 have hd:∃o,h'.get? dx=some o:=let⟨o,_,_,e',_⟩:=O'.ns;⟨o,e'⟩
 refine I.write (x:=a) (e:=dx) (by rw[e];exact True.intro) (.inr ho) (λb q hb z=>(sb.2 b hb).trans z) hd ?_
 refine⟨by rw[qD O.ne];exact ho,?_,O.ne,O'.obj,_,O'.ns,λg=>?_,λg hg=>?_⟩
 ·have:=q59 f y fs;omega
 ·show RelO ((putF f y fs).lookup g) (if g=f then some u else mA g)
  rw[q58]
  by_cases q:g=f
  ·rw[kG q,kG q];exact ry
  ·rw[hX q,hX q];exact r g
 ·by_cases q:g=f
  ·rw[q];exact(q4O f y fs).1
  ·refine(q4O f y fs).2 g (wi g λz=>hg ?_)
   show(if g=f then some u else mA g)=none
   rw[hX q];exact z
theorem Inv.made(I:Inv X pins σ H s):Inv X pins σ (upd (upd H s.heap.objs.size (.own (s.heap.objs.size+1))) (s.heap.objs.size+1) (.ins C s.heap.objs.size []))
 { s with heap:=(s.heap.push PySem.W.emptyDict).push (PySem.W.instObj C s.heap.objs.size) }:=by
 have e1:(s.heap.push PySem.W.emptyDict).get? s.heap.objs.size=some PySem.W.emptyDict:=mI s.heap rfl
 have e2:((s.heap.push PySem.W.emptyDict).push (PySem.W.instObj C s.heap.objs.size)).get? (s.heap.objs.size+1)=some (PySem.W.instObj C s.heap.objs.size):=by
  have:=mI (s.heap.push PySem.W.emptyDict) (o:=PySem.W.instObj C s.heap.objs.size) rfl
  rwa [PySem.Heap.size_push]at this
 have e3:(s.heap.push PySem.W.emptyDict).Ns s.heap.objs.size (λ_=>none):=⟨PySem.W.emptyDict,#[],_,e1,rfl,(λe he=>absurd he (by simp)),λ_=>rfl⟩
 have I1:=I.laid (a:=s.heap.objs.size) (o:=.own (s.heap.objs.size+1)) (h':=s.heap.push PySem.W.emptyDict) (t':=s.toks) (λb u q=>hZ _ q) (kM _) ⟨_,e1⟩
 refine I1.laid (a:=s.heap.objs.size+1) (o:=.ins C s.heap.objs.size []) (t':=s.toks) (λb u q=>hZ _ q) (Nat.le_of_eq (PySem.Heap.size_push _ _)) ?_
 have ne:s.heap.objs.size≠s.heap.objs.size+1:=mM (Nat.lt_succ_self _)
 refine⟨by rw[qD ne,qH],mN _,ne,e2,λ_=>none,(Heap.Ns1.of_empty e3).at λo q=>hZ _ q,λ_=>True.intro,λy hy=>absurd rfl hy⟩
theorem qGQ{prog:Program}{w:World}{env:Env}{e:Expr}{f:Str}{pos:Pos}{s:Shared}{Q:Value→Shared→Prop}(hb:attributeBase e f env (eval e env)=eval e env)
 (h:wpAny (model prog w) A (eval e env) (λo s₁=>wpAny (model prog w) A (getAttr o f true) Q E s₁) E s):wpAny (model prog w) A (eval (.Attribute e f pos) env) Q E s:=
 Attribute_any_ h (by rw[arm_eval_Attribute,hb])
end
noncomputable def tFld(K:PySem.W.Frag)(ta:TE)(f:Str):TE:=λσ H Q=>ta σ H λx H1=>∃a C dx fs v,x=.ref a∧H1 a=some (.ins C dx fs)∧Cls K C∧qR K C f∧fs.lookup f=some v∧Q v H1
noncomputable def sFld(K:PySem.W.Frag)(ta tv:TE)(f:Str):TS:=λD σ H=>tv σ H λy H1=>ta σ H1 λx H2=>∃a C dx fs,x=.ref a∧H2 a=some (.ins C dx fs)∧Cls K C∧qR K C f∧fs.length<1000∧
 D.nx σ (upd H2 a (.ins C dx (putF f y fs)))
noncomputable def InOp(X:Cx)(op:Operator)(rd:V→V→Hp→VK→Prop):Prop:=
 ∀(pins:List (Addr×Obj)) (s:Shared) (σ:St) (H:Hp) (x y:V) (u v:Value) (Q:VK),Inv X pins σ H s→RelV x u→RelV y v→rd x y H Q→wpAny (model X.prog X.w) X.A (inplaceOp op u v) (EP X pins σ Q) X.xe s
noncomputable def qGR(K:PySem.W.Frag)(ta tv:TE)(rd:V→V→Hp→VK→Prop)(f:Str):TS:=λD σ H=>ta σ H λx H1=>∃a C dx fs v,x=.ref a∧H1 a=some (.ins C dx fs)∧Cls K C∧qR K C f∧fs.lookup f=some v∧
 tv σ H1 λy H2=>rd v y H2 λz H3=>∃dx' fs',H3 a=some (.ins C dx' fs')∧fs'.length<1000∧D.nx σ (upd H3 a (.ins C dx' (putF f z fs')))
section
variable{X:Cx}{o e value:Expr}{f:Str}{pos pos' tpos:Pos}{ta tv:TE}
theorem qJ(he:PE X e ta)(hb:attributeBase e f X.env (eval e X.env)=eval e X.env):PE X (.Attribute e f pos) (tFld X.K ta f):=by
 intro pins s σ H Q I h
 refine qGQ hb (thn (he pins s σ H _ I h) λu s1 hZ=>?_)
 obtain⟨x,H1,I1,rx,a,C,dx,fs,v,ex,ea,c,n,l,q⟩:=hZ
 subst ex
 obtain rfl:u=Value.ref a:=rx
 exact q69 I1 ea c n l λu' s2 I2 ru=>⟨v,H1,I2,ru,q⟩
theorem jK(ha:PE X o ta)(hv:PE X value tv)(hs:swapsWith value (some (.Attribute o f pos')) pos.line X.env=pure false):PS X (.Assign [.Attribute o f pos'] value pos) (sFld X.K ta tv f):=by
 intro pins s σ H D I h
 refine plainObj_wpAny_Assign_Attribute (thn (hv pins s σ H _ I h) λu s1 ⟨y,H1,I1,ry,q⟩=>thn (ha pins s1 σ H1 _ I1 q) λov s2 hZ=>?_) hs
 obtain⟨x,H2,I2,rx,a,C,dx,fs,ex,ea,c,n,l,q2⟩:=hZ
 subst ex
 obtain rfl:ov=Value.ref a:=rx
 exact q6B I2 ea c n l ry λs3 I3=>⟨σ,_,I3,q2⟩
theorem qDX{op:Operator}{rd:V→V→Hp→VK→Prop}(ha:PE X o ta)(hv:PE X value tv)(hop:InOp X op rd):PS X (.AugAssign (.Attribute o f tpos) op value pos) (qGR X.K ta tv rd f):=by
 intro pins s σ H D I h
 refine wpAny_AugAssign_AttributeAny (thn (ha pins s σ H _ I h) λov s1 hZ=>?_)
 obtain⟨x,H1,I1,rx,a,C,dx,fs,v,ex,ea,c,n,l,q⟩:=hZ
 subst ex
 obtain rfl:ov=Value.ref a:=rx
 refine q69 I1 ea c n l λu s2 I2 ru=>thn (hv pins s2 σ H1 _ I2 q) λw3 s3 ⟨y,H2,I3,ry,q3⟩=>thn (hop pins s3 σ H2 v y u w3 _ I3 ru ry q3) λw4 s4 hZ=>?_
 obtain⟨z,H3,I4,rz,dx',fs',ea',l',q4⟩:=hZ
 exact q6B I4 ea' c n l' rz λs5 I5=>⟨σ,_,I5,q4⟩
noncomputable def rAdd:V→V→Hp→VK→Prop:=λx y H Q=>∃i j,x=.int i∧y=.int j∧Q (.int (i+j)) H
theorem qEZ:InOp X .Add rAdd:=by
 rintro pins s σ H x y u v Q I rx ry ⟨i,j,rfl,rfl,q⟩
 obtain⟨t,rfl⟩:=(show ∃t,u=Value.int i t from rx)
 obtain⟨t',rfl⟩:=(show ∃t',v=Value.int j t' from ry)
 exact PyProof.Rows.iadd_int ⟨.int (i+j),H,I.tok _,⟨_,rfl⟩,q⟩
end
section
variable{X:Cx}{pins:List (Addr×Obj)}{σ:St}{H:Hp}{s:Shared}{A:Around}{E:Value→Shared→Prop}{Q:Value→Shared→Prop}{c:Value}{b:Bool}
inductive TyOf(K:PySem.W.Frag)(H:Hp):V→Value→Prop where
 |non:TyOf K H .non (.type "NoneType")
 |bl (x:Bool):TyOf K H (.bl x) (.type "bool")
 |int (i:Int):TyOf K H (.int i) (.type "int")
 |str (x:Str):TyOf K H (.str x) (.type "str")
 |flt (x:UInt64):TyOf K H (.flt x) (.type "float")
 |lst {a:Addr} {xs:List V} (e:H a=some (.lst xs)):TyOf K H (.ref a) (.type "list")
 |frz {a:Addr} {o:Obj} {xs:List V} (e:H a=some (.frz o (.lst xs))):TyOf K H (.ref a) (.type "list")
 |tup {a:Addr} {xs:List V} (e:H a=some (.tup xs)):TyOf K H (.ref a) (.type "tuple")
 |dK {a:Addr} {kvs:List (Key×V)} (e:H a=some (.dK kvs)):TyOf K H (.ref a) (.type "dict")
 |dT {a:Addr} {kvs:List (List Key×V)} (e:H a=some (.dT kvs)):TyOf K H (.ref a) (.type "dict")
 |ins {a C dx:Addr} {fs:List (Str×V)} (e:H a=some (.ins C dx fs)) (cl:Cls K C) (ha:PySem.W.findIn K (.ref C) "__class__"=some (some (.builtin "object.__class__")))
  (hn:PySem.W.specialIn K (.builtin "object.__class__") "__get__"=some (some (.builtin "getset_descriptor.__get__"))) (htk:PySem.W.takesIn K (.builtin "object.__class__")=some true)
  (hm:PySem.W.mroIn K C (.type "object")=some true):TyOf K H (.ref a) (.ref C)
theorem qDY{x:V}{u t:Value}(I:Inv X pins σ H s)(rx:RelV x u)(ty:TyOf X.K H x t)(e:PySem.W.kitOne X.K t c=some b)(h:∀tk,Q (.bool b) { s with toks:=tk }):
 wpAny (model X.prog X.w) A (call (.builtin "isinstance") [u,c]) Q E s:=by
 cases ty with
 |non=>cases(show u=Value.none from rx);exact gQ PySem.W.kitx_none I.kIn True.intro e (λz=>nomatch z) h
 |bl y=>cases(show u=Value.bool y from rx);exact gQ PySem.W.kitx_bool I.kIn True.intro e (λz=>nomatch z) h
 |int i=>obtain⟨t,q⟩:=(show ∃t,u=Value.int i t from rx);cases q;exact gQ PySem.W.kitx_int I.kIn True.intro e (λz=>nomatch z) h
 |str y=>obtain⟨t,q⟩:=(show ∃t,u=Value.str y t from rx);cases q;exact gQ PySem.W.kitx_str I.kIn True.intro e (λz=>nomatch z) h
 |flt y=>obtain⟨t,q⟩:=(show ∃t,u=Value.float y t from rx);cases q;exact gQ PySem.W.kitx_float I.kIn True.intro e (λz=>nomatch z) h
 |@lst a xs ea=>
  cases(show u=Value.ref a from rx)
  obtain⟨_,_,n,_,h1⟩:=(show jN X.prog X.w H s.heap a (.lst xs)from I.hok a _ ea)
  exact gQ PySem.W.kitx_list I.kIn ⟨_,h1,rfl⟩ e (λz=>nomatch z) h
 |@frz a ob xs ea=>
  cases(show u=Value.ref a from rx)
  obtain⟨_,_,_,n,_,h1⟩:=(show jN X.prog X.w H s.heap a (.frz ob (.lst xs))from I.hok a _ ea)
  exact gQ PySem.W.kitx_list I.kIn ⟨_,h1,rfl⟩ e (λz=>nomatch z) h
 |@tup a xs ea=>
  cases(show u=Value.ref a from rx)
  obtain⟨_,_,_,p⟩:=(show jN X.prog X.w H s.heap a (.tup xs)from I.hok a _ ea)
  obtain⟨o,h1,h2,_⟩:=p
  exact gQ PySem.W.kitx_tuple I.kIn ⟨o,h1,h2⟩ e (λz=>nomatch z) h
 |@dK a kvs ea=>
  cases(show u=Value.ref a from rx)
  obtain⟨_,_,vs,_,p⟩:=(show jN X.prog X.w H s.heap a (.dK kvs)from I.hok a _ ea)
  obtain⟨o,es,ep,h1,h2,_⟩:=p
  exact gQ PySem.W.kitx_dict I.kIn ⟨o,h1,h2.1⟩ e (λz=>nomatch z) h
 |@dT a kvs ea=>
  cases(show u=Value.ref a from rx)
  obtain⟨_,_,xs,_,o,es,ep,h1,h2,_⟩:=(show jN X.prog X.w H s.heap a (.dT kvs)from I.hok a _ ea)
  exact gQ PySem.W.kitx_dict I.kIn ⟨o,h1,h2.1⟩ e (λz=>nomatch z) h
 |@ins a C dx fs ea cl ha hn htk hm=>
  cases(show u=Value.ref a from rx)
  obtain⟨mA,O,_⟩:=q5V I.hok ea
  obtain⟨od,J,_⟩:=O.look
  exact gQ (PySem.W.kitx_own (cl.get _) cl.hd ha hn htk hm) I.kIn J e (λz=>nomatch z) h
end
structure Room(k:Nat)(A:Around):Prop where
 hd:A.handled=none
 dp:A.depth+3*k+5<recursionLimit
 un:A.units+16*k+200<cLine
theorem Room.mono{j k:Nat}{A:Around}(r:Room k A)(h:j≤k):Room j A:=⟨r.hd,by have:=r.dp;omega,by have:=r.un;omega⟩
theorem Room.deeper{k:Nat}{A:Around}(r:Room (k+1) A)(env:Env):Room k (A.deeper env):=
 ⟨r.hd,by have:=r.dp;show A.depth+1+3*k+5< _;omega,by have:=r.un;show A.units+3+16*k+200< _;omega⟩
theorem Room.in1{k:Nat}{A:Around}(r:Room (k+1) A):Room k A.in1:=
 ⟨r.hd,by have:=r.dp;show A.depth+3*k+5< _;omega,by have:=r.un;show A.units+1+16*k+200< _;omega⟩
theorem qBZ{A:Around}{C:Addr}{us:List Value}{kw:List (Str×Value)}:(A.under (.builtin "type.__call__" ⟨.ref C::us,kw⟩)).depth=A.depth+1:=by
 first|rfl|simp[Around.under,Code.weight,Code.isCreation,Code.isGuard,Code.isCaller,Code.frames,Code.isFrame,guardIds]
theorem qC0{A:Around}{C:Addr}{us:List Value}{kw:List (Str×Value)}:(A.under (.builtin "type.__call__" ⟨.ref C::us,kw⟩)).units=A.units+1:=by
 first|rfl|simp[Around.under,Code.cUnits,Code.frames,Code.isFrame]
theorem Room.make{k:Nat}{A:Around}(r:Room (k+1) A)(C:Addr)(us:List Value)(kw:List (Str×Value)):Room k (A.under (.builtin "type.__call__" ⟨.ref C::us,kw⟩)):=
 ⟨r.hd,by have:=r.dp;rw[qBZ];omega,by have:=r.un;rw[qC0];omega⟩
theorem Room.depth{k:Nat}{A:Around}(r:Room k A):A.depth<recursionLimit:=by have:=r.dp;omega
theorem Room.units{k:Nat}{A:Around}(r:Room k A):A.units+64<cLine:=by have:=r.un;omega
noncomputable def tNil:TA:=λ_ H Q=>Q [] H
noncomputable def qCR(ta:TE)(tr:TA):TA:=λσ H Q=>ta σ H λx H1=>tr σ H1 λxs H2=>Q (x::xs) H2
section
variable{X:Cx}{e:Expr}{es:List Expr}{te:TE}{t:TA}{pos:Pos}
theorem qC:PA X [] tNil:=λ_ _ _ _ H Q I h=>Calls.spliced_nil ⟨[],H,I,.nil,h⟩
theorem qA(ha:PE X e te)(hr:PA X es t)(hs:starEach (e::es) X.env=(false,eval e X.env)::starEach es X.env:=by rfl):PA X (e::es) (qCR te t):=by
 intro pos pins s σ H Q I h
 rw[hs]
 show wpAny _ _ (spliced ((false,eval e X.env)::backTo pos (starEach es X.env))) _ _ s
 refine Calls.spliced_cons (thn (ha pins s σ H _ I h) λu s1 hZ=>?_)
 obtain⟨x,H1,I1,r1,q1⟩:=hZ
 exact thn (hr pos pins s1 σ H1 _ I1 q1) λus s2 ⟨xs,H2,I2,r2,q2⟩=>⟨x::xs,H2,I2,.cons r1 r2,q2⟩
end
noncomputable abbrev Sp:=List V→Hp→VK→XK→Prop
noncomputable abbrev CXT:=List Env→Hp→Shared→XK→Value→Shared→Prop
structure Env0(P:Program)(w:World)(K:PySem.W.Frag)(mg:Str→Option Value)(base:Heap)(A:Around)(outer:List Env)(s:Shared)(H:Hp):Prop where
 frames:A.frames=some outer
 mod:Mod K mg base
 bs:∀b o,base.get? b=some o→s.heap.get? b=some o∧H b=none
 bsz:base.objs.size≤s.heap.objs.size
 funs:s.heap.FunFrames base outer
 frf:∀b∈frs outer,H b=none
 hok:HOk P w H s.heap
 bare:AllBare s.gens
noncomputable def CE(outer:List Env)(P:Program)(w:World)(H:Hp)(s:Shared)(Q:VK)(u:Value)(s':Shared):Prop:=
 ∃v H',s'.os=s.os∧AllBare s'.gens∧Un (frs outer) [] H H' s.heap s'.heap∧HOk P w H' s'.heap∧RelV v u∧Q v H'
noncomputable def CR(CX:CXT)(outer:List Env)(P:Program)(w:World)(H:Hp)(s:Shared)(Q:VK)(E:XK)(r:Result)(s':Shared):Prop:=
 match r with
 | .ok (.ret u)=>CE outer P w H s Q u s'
 | .ok _=>False
 | .error e=>CX outer H s E e s'
structure FnOk(P:Program)(w:World)(K:PySem.W.Frag)(mg:Str→Option Value)(base:Heap)(CX:CXT)(k:Nat)(f:Addr)(fd:FuncData)(ps:List Str)(sp:Sp):Prop where
 len:∀vs H Q E,sp vs H Q E→vs.length=ps.length
 run:∀(A:Around) (outer:List Env) (s:Shared) (H:Hp) (args:Args) (us:List Value) (vs:List V) (Q:VK) (E:XK),Room k A→Env0 P w K mg base A outer s H→BindsTo s fd args (ps.zip us)→Vals vs us→sp vs H Q E→
  codeAny (model P w) A (.call (.ref f) args) (CR CX outer P w H s Q E) s
theorem FnOk.mono{P:Program}{w:World}{K:PySem.W.Frag}{mg:Str→Option Value}{base:Heap}{CX:CXT}{j k:Nat}{f:Addr}{fd:FuncData}{ps:List Str}{sp:Sp}(F:FnOk P w K mg base CX j f fd ps sp)(h:j≤k:=by decide):
 FnOk P w K mg base CX k f fd ps sp:=⟨F.len,λA outer s H args us vs Q E hr=>F.run A outer s H args us vs Q E (hr.mono h)⟩
theorem Env0.make{P:Program}{w:World}{K:PySem.W.Frag}{mg:Str→Option Value}{base:Heap}{A:Around}{outer:List Env}{s:Shared}{H:Hp}(e:Env0 P w K mg base A outer s H)(C:Addr)(us:List Value)(kw:List (Str×Value)):
 Env0 P w K mg base (A.under (.builtin "type.__call__" ⟨.ref C::us,kw⟩)) outer s H:=⟨by first|exact e.frames|(simpa[Around.under,Code.envs,Code.isFrame,pushEnvs]using e.frames),e.mod,e.bs,e.bsz,e.funs,e.frf,e.hok,e.bare⟩
section
variable{X:Cx}{pins:List (Addr×Obj)}{σ:St}{H:Hp}{s s':Shared}
theorem Inv.env0(I:Inv X pins σ H s):Env0 X.prog X.w X.K X.mg X.base X.A X.stack s H:=
 ⟨I.ok.frames,I.ok.mod,I.bs,mD I.ok.bsz I.sz,I.stack,I.stkFree,I.hok,I.bare⟩
theorem Inv.after{Q:VK}{u:Value}(I:Inv X pins σ H s)(h:CE X.stack X.prog X.w H s Q u s'):EP X pins σ Q u s':=by
 obtain⟨v,H',os,bare,un,hok,r,q⟩:=h
 obtain⟨hh,g,d,t,os'⟩:=s'
 obtain rfl:os'=s.os:=os
 exact⟨v,H',I.call (h':=hh) (g':=g) (d':=d) (t':=t) (ch:=[]) un hok bare (λb z=>absurd z (by simp)),r,q⟩
end
noncomputable def qI2(sp:Sp)(dvs:List V)(E:XK)(t:TA):TE:=λσ H Q=>t σ H λvs H1=>sp (vs++dvs) H1 Q E
noncomputable def qI3(C:Addr)(m:Str)(sp:Sp)(dvs:List V)(E:XK)(ta:TE)(t:TA):TE:=λσ H Q=>ta σ H λx H1=>∃a dx fs,x=.ref a∧H1 a=some (.ins C dx fs)∧fs.lookup m=none∧
 t σ H1 λvs H2=>sp (x::(vs++dvs)) H2 Q E
noncomputable def qKL(C:Addr)(sp:Sp)(dvs:List V)(E:XK)(t:TA):TE:=λσ H Q=>t σ H λvs H1=>∀x dx,H1 x=none→H1 dx=none→dx≠x→
 sp (.ref x::(vs++dvs)) (upd (upd H1 dx (.own x)) x (.ins C dx [])) (λv H2=>v=.non∧Q (.ref x) H2) E
noncomputable def jT(K:PySem.W.Frag)(fd:FuncData)(ps:List Str)(ds:List Value):Prop:=
 ∀(s:Shared) (us:List Value),K.In s.heap→(us++ds).length=ps.length→BindsTo s fd ⟨us,[]⟩ (ps.zip (us++ds))
theorem jT.all{K:PySem.W.Frag}{fd:FuncData}{ps:List Str}(h:∀us:List Value,us.length=ps.length→bindArgs fd ⟨us,[]⟩=pure (ps.zip us)):jT K fd ps []:=λs us _ hl=>by
 rw[gB]at hl ⊢
 exact .of_eq (h us hl)
noncomputable def q07(CX:CXT)(X:Cx)(E:XK):Prop:=∀(pins:List (Addr×Obj)) (σ:St) (H:Hp) (s:Shared) (e:Value) (s':Shared),Inv X pins σ H s→CX X.stack H s E e s'→X.xe e s'
section
variable{X:Cx}{CX:CXT}{k:Nat}{f C:Addr}{fd:FuncData}{ps:List Str}{sp:Sp}{dvs:List V}{ds:List Value}{E:XK}{x m:Str}{p pos apos:Pos}{e o:Expr}{es:List Expr}{ta:TE}{t:TA}
theorem q4P{pins:List (Addr×Obj)}{σ:St}{H:Hp}{s:Shared}{Q:VK}{us:List Value}{vs:List V}(F:FnOk X.prog X.w X.K X.mg X.base CX k f fd ps sp)(hr:Room k X.A)(hb:jT X.K fd ps ds)(hd:Vals dvs ds)(hx:q07 CX X E)
 (I:Inv X pins σ H s) (r:Vals vs us) (h:sp (vs++dvs) H Q E):wpAny (model X.prog X.w) X.A (call (.ref f) us) (EP X pins σ Q) X.xe s:=by
 have r2:Vals (vs++dvs) (us++ds):=r.append hd
 have hl:(us++ds).length=ps.length:=by rw[←r2.length];exact F.len _ _ _ _ h
 refine PySem.wpAny_call (PySem.codeAny_mono (F.run X.A X.stack s H ⟨us,[]⟩ (us++ds) (vs++dvs) Q E hr I.env0 (hb s us I.kIn hl) r2 h) λr s' hq=>?_)
 cases r with
 |error e=>exact hx pins σ H s e s' I hq
 |ok fl=>
  cases fl with
  |ret u=>exact I.after hq
  |next=>exact False.elim hq
  |brk=>exact False.elim hq
  |cont=>exact False.elim hq
theorem qM(F:FnOk X.prog X.w X.K X.mg X.base CX k f fd ps sp)(hr:Room k X.A)(hg:Gl X x)(hm:X.mg x=some (.ref f))(hk:PySem.W.keepIn X.K (.ref f)=true)(hb:jT X.K fd ps ds)(hd:Vals dvs ds)(hx:q07 CX X E)
 (ha:PA X (e::es) t) (hdb:(x==("__debug__":Str))=false:=by decide) (he:starEach (e::es) X.env=(false,eval e X.env)::starEach es X.env:=by rfl) (hpl:(backTo pos (starEach es X.env)).any (·.1)=false:=by rfl):
 PE X (.Call (.Name x p) (e::es) [] pos) (qI2 sp dvs E t):=by
 intro pins s σ H Q I h
 refine dA (q46 I hg hm ?_ hdb)
 refine PySem.W.callWith_K (h₀:=X.base) I.ok.mod.kin hk (thn (ha pos pins s σ H _ I h) λus s1 ⟨vs,H1,I1,r,q⟩=>⟨I1.kIn,?_⟩) he hpl
 exact q4P F hr hb hd hx I1 r q
theorem qT{pl:Sem Bool}(he:PE X o ta)(c:Cls X.K C)(hm:Meth X.K C m f)(F:FnOk X.prog X.w X.K X.mg X.base CX k f fd ps sp)(hr:Room k X.A)(hb:jT X.K fd ps ds)(hd:Vals dvs ds)(hx:q07 CX X E)(ha:PA X (e::es) t)
 (hst:starEach (e::es) X.env=(false,eval e X.env)::starEach es X.env:=by rfl) (hpl:(backTo pos (starEach es X.env)).any (·.1)=false:=by rfl)
 (ht:eval (.Call (.Attribute o m apos) (e::es) [] pos) X.env=(do
  let ov←eval o X.env
  standAt apos.atName
  let(f,first)←holding [ov] (getMethod ov m pl)
  callWith pos f first (backTo pos (starEach (e::es) X.env)) (backToKw pos (keywordEach [] X.env))):=by rfl):
 PE X (.Call (.Attribute o m apos) (e::es) [] pos) (qI3 C m sp dvs E ta t):=by
 intro pins s σ H Q I h
 refine PySem.W.methodCall_KW (pl:=pl) (thn (he pins s σ H _ I h) λu s1 hZ=>?_) ht
 obtain⟨x,H1,I1,rx,a,dx,fs,ex,ea,l,q⟩:=hZ
 subst ex
 obtain rfl:u=Value.ref a:=rx
 refine q6A I1 ea c hm l ?_
 refine PySem.W.callWith_K (first:=[.ref a]) (h₀:=X.base) I.ok.mod.kin hm.kp (thn (ha pos pins s1 σ H1 _ I1 q) λus s2 ⟨vs,H2,I2,r,q2⟩=>⟨I2.kIn,?_⟩) hst hpl
 exact q4P (us:=.ref a::us) (vs:=.ref a::vs) F hr hb hd hx I2 (.cons rfl r) q2
theorem jC{pl:Sem Bool}(he:PE X o ta)(c:Cls X.K C)(hm:Meth X.K C m f)(F:FnOk X.prog X.w X.K X.mg X.base CX k f fd ps sp)(hr:Room k X.A)(hb:jT X.K fd ps ds)(hd:Vals dvs ds)(hx:q07 CX X E)
 (ht:eval (.Call (.Attribute o m apos) [] [] pos) X.env=(do
  let ov←eval o X.env
  standAt apos.atName
  let(f,first)←holding [ov] (getMethod ov m pl)
  callWith pos f first (backTo pos (starEach [] X.env)) (backToKw pos (keywordEach [] X.env))):=by rfl):
 PE X (.Call (.Attribute o m apos) [] [] pos) (qI3 C m sp dvs E ta tNil):=by
 intro pins s σ H Q I h
 refine PySem.W.methodCall_KW (pl:=pl) (thn (he pins s σ H _ I h) λu s1 hZ=>?_) ht
 obtain⟨x,H1,I1,rx,a,dx,fs,ex,ea,l,q⟩:=hZ
 subst ex
 obtain rfl:u=Value.ref a:=rx
 refine q6A I1 ea c hm l ?_
 exact PySem.W.callWith_K0 (first:=[.ref a]) I1.kIn hm.kp (q4P (us:=[.ref a]) (vs:=[.ref a]) F hr hb hd hx I1 (.cons rfl .nil) q)
structure Mk(K:PySem.W.Frag)(C f:Addr):Prop where
 makes:PySem.W.makesIn K C=true
 init:PySem.W.findIn K (.ref C) "__init__"=some (some (.ref f))
 fn:PySem.W.isFn K (.ref f)=true
 kp:PySem.W.keepIn K (.ref C)=true
theorem qF0{pins:List (Addr×Obj)}{σ:St}{H:Hp}{s:Shared}{Q:VK}{us:List Value}{vs:List V}(M:Mk X.K C f)(F:FnOk X.prog X.w X.K X.mg X.base CX k f fd ps sp)(hr:Room (k+1) X.A)(hb:jT X.K fd ps ds)(hd:Vals dvs ds)
 (hx:q07 CX X E) (I:Inv X pins σ H s) (r:Vals vs us)
 (h:∀x dx,H x=none→H dx=none→dx≠x→sp (.ref x::(vs++dvs)) (upd (upd H dx (.own x)) x (.ins C dx [])) (λv H2=>v=.non∧Q (.ref x) H2) E):
 wpAny (model X.prog X.w) X.A (call (.ref C) us) (EP X pins σ Q) X.xe s:=by
 have hq:=h (s.heap.objs.size+1) s.heap.objs.size (I.hok.fresh (dC _)) (I.hok.fresh (kM _)) (mM (Nat.lt_succ_self _))
 have I2:=Inv.made (C:=C) I
 have r2:Vals (V.ref (s.heap.objs.size+1)::(vs++dvs)) (Value.ref (s.heap.objs.size+1)::(us++ds)):=.cons rfl (r.append hd)
 have hl:(Value.ref (s.heap.objs.size+1)::us++ds).length=ps.length:=by
  have e:=r2.length
  rw[F.len _ _ _ _ hq]at e
  exact e.symm
 refine PySem.wpAny_call (qEY (f:=f) I.kIn M.makes M.init (beq_iff_eq.mp M.fn) (PySem.codeAny_mono (F.run _ X.stack _ _ ⟨Value.ref (s.heap.objs.size+1)::us,[]⟩ (Value.ref (s.heap.objs.size+1)::(us++ds)) _ _ E (hr.make C us [])
  (I2.env0.make C us []) (hb _ (Value.ref (s.heap.objs.size+1)::us) I2.kIn hl) r2 hq) λr s' hq'=>?_))
 cases r with
 |error e=>exact hx pins σ _ _ e s' I2 hq'
 |ok fl=>
  cases fl with
  |ret u=>
   obtain⟨v,H',I3,rv,ev,q3⟩:=I2.after hq'
   subst ev
   exact⟨rv,⟨V.ref (s.heap.objs.size+1),H',I3,rfl,q3⟩⟩
  |next=>exact False.elim hq'
  |brk=>exact False.elim hq'
  |cont=>exact False.elim hq'
theorem vI(M:Mk X.K C f)(F:FnOk X.prog X.w X.K X.mg X.base CX k f fd ps sp)(hr:Room (k+1) X.A)(hg:Gl X x)(hm:X.mg x=some (.ref C))(hb:jT X.K fd ps ds)(hd:Vals dvs ds)(hx:q07 CX X E)
 (ha:PA X (e::es) t) (hdb:(x==("__debug__":Str))=false:=by decide) (he:starEach (e::es) X.env=(false,eval e X.env)::starEach es X.env:=by rfl) (hpl:(backTo pos (starEach es X.env)).any (·.1)=false:=by rfl):
 PE X (.Call (.Name x p) (e::es) [] pos) (qKL C sp dvs E t):=by
 intro pins s σ H Q I h
 refine dA (q46 I hg hm ?_ hdb)
 refine PySem.W.callWith_K (h₀:=X.base) I.ok.mod.kin M.kp (thn (ha pos pins s σ H _ I h) λus s1 ⟨vs,H1,I1,r,q⟩=>⟨I1.kIn,?_⟩) he hpl
 exact qF0 M F hr hb hd hx I1 r q
end
noncomputable def PK(X:Cx)(kws:List Keyword)(t:TA):Prop:=
 ∀(pos:Pos) (pins:List (Addr×Obj)) (s:Shared) (σ:St) (H:Hp) (Q:List V→Hp→Prop),Inv X pins σ H s→t σ H Q→wpAny (model X.prog X.w) X.A (evalAll ((backToKw pos (keywordEach kws X.env)).map (·.2))) (AP X pins σ Q) X.xe s
section
variable{X:Cx}{CX:CXT}{k:Nat}{f C:Addr}{fd:FuncData}{ps ks:List Str}{sp:Sp}{E:XK}{x m:Str}{p pos apos kpos:Pos}{e o:Expr}{es:List Expr}{kws:List Keyword}{te ta:TE}{t tk:TA}{nm:Option Str}
theorem qF1:PK X [] tNil:=λ_ _ _ _ H Q I h=>wpAny_evalAll_nil ⟨[],H,I,.nil,h⟩
theorem qCS(ha:PE X e te)(hr:PK X kws t):PK X (⟨nm,e,kpos⟩::kws) (qCR te t):=by
 intro pos pins s σ H Q I h
 show wpAny _ _ (evalAll ((do let v←eval e X.env;standAt pos;pure v)::(backToKw pos (keywordEach kws X.env)).map (·.2))) _ _ s
 refine wpAny_evalAll_cons (kD (thn (ha pins s σ H _ I h) λu s1 ⟨x,H1,I1,r1,q1⟩=>kD (PySem.wpAny_standAt (kZ ?_))))
 exact thn (hr pos pins s1 σ H1 _ I1 q1) λus s2 ⟨xs,H2,I2,r2,q2⟩=>⟨x::xs,H2,I2,.cons r1 r2,q2⟩
variable{g:List Value→List Value→List Value}{gV:List V→List V→List V}
end
structure FnScope(N P:List Str)(sc:Scope):Prop where
 kind:sc.kind=.function
 co:sc.isCoroutine=false
 gen:sc.isGenerator=false
 nd:N.Nodup
 pre:N.take P.length=P
 par:∀x∈P,sc.names.lookup x=some .local∨sc.names.lookup x=some .cell
 nofree:∀y∈sc.names,y.2≠ .free
theorem q8J{kindOf:Str→Option NameKind}{x:Str}:∀{binds:List (Str×Value)} {m:Str→Option Value},(∀v,(x,v)∉binds)→bindL kindOf binds m x=m x
 | [],_,_=>rfl
 |(n,v)::r,m,h=>by
  unfold bindL
  rw[q8J λw hw=>h w (kE _ hw)]
  split
  ·have:x≠n:=by rintro rfl;exact h v mL
   simp[this]
  ·rfl
theorem q8K{kindOf:Str→Option NameKind}{x:Str}:∀{binds:List (Str×Value)} {m:Str→Option Value},(∀v,(x,v)∉binds)→bindC kindOf binds m x=m x
 | [],_,_=>rfl
 |(n,v)::r,m,h=>by
  unfold bindC
  rw[q8K λw hw=>h w (kE _ hw)]
  split
  ·rfl
  ·have:x≠n:=by rintro rfl;exact h v mL
   simp[this]
theorem q8L{kindOf:Str→Option NameKind}{x:Str}{v:Value}:∀{P:List Str} {vs:List Value} {i:Nat} {m:Str→Option Value},P.Nodup→P[i]?=some x→vs[i]?=some v→kindOf x=some .local→
 bindL kindOf (P.zip vs) m x=some v
 | [],_,_,_,_,h,_,_=>by simp at h
 |_::_,[],_,_,_,_,h,_=>by simp at h
 |p::P,w::vs,0,m,nd,h1,h2,hk=>by
  simp at h1 h2;subst h1;subst h2
  show bindL kindOf ((p,w)::P.zip vs) m p=_
  unfold bindL
  rw[q8J λv hv=>(mQ.mp nd).1 (List.of_mem_zip hv).1,kG hk]
  simp
 |p::P,w::vs,i+1,m,nd,h1,h2,hk=>by
  show bindL kindOf ((p,w)::P.zip vs) m x=_
  unfold bindL
  exact q8L (i:=i) (mQ.mp nd).2 (by simpa using h1) (by simpa using h2) hk
theorem q8M{kindOf:Str→Option NameKind}{x:Str}{v:Value}:∀{P:List Str} {vs:List Value} {i:Nat} {m:Str→Option Value},P.Nodup→P[i]?=some x→vs[i]?=some v→kindOf x≠some .local→
 bindC kindOf (P.zip vs) m x=some v
 | [],_,_,_,_,h,_,_=>by simp at h
 |_::_,[],_,_,_,_,h,_=>by simp at h
 |p::P,w::vs,0,m,nd,h1,h2,hk=>by
  simp at h1 h2;subst h1;subst h2
  show bindC kindOf ((p,w)::P.zip vs) m p=_
  unfold bindC
  rw[q8K λv hv=>(mQ.mp nd).1 (List.of_mem_zip hv).1,hX hk]
  simp
 |p::P,w::vs,i+1,m,nd,h1,h2,hk=>by
  show bindC kindOf ((p,w)::P.zip vs) m x=_
  unfold bindC
  exact q8M (i:=i) (mQ.mp nd).2 (by simpa using h1) (by simpa using h2) hk
noncomputable def q1W(N:List Str)(vs:List V):St:=vs.map some++List.replicate (N.length-vs.length) none
noncomputable def cxOf(CX:CXT)(P:Program)(w:World)(K:PySem.W.Frag)(mg:Str→Option Value)(base:Heap)(N:List Str)(qual:Str)(scope:Scope)(f:Addr)(cd:Value)(A:Around)(outer:List Env)(s:Shared)(H:Hp)(E:XK):Cx where
 prog:=P
 w:=w
 K:=K
 mg:=mg
 base:=base
 A:=A.deeper (envOfC qual scope s.heap.objs.size f cd)
 N:=N
 s₀:=s
 H₀:=H
 env:=envOfC qual scope s.heap.objs.size f cd
 outer:=outer
 stack:=envOfC qual scope s.heap.objs.size f cd::outer
 ex:=[]
 calm:=true
 fn:=λ_=>true
 pn:=[]
 xe:=λe s'=>wpAny (model P w) (A.deeper (envOfC qual scope s.heap.objs.size f cd)) (leaving (envOfC qual scope s.heap.objs.size f cd) e) (λ_ s''=>CX outer H s E e s'') (λe' s''=>CX outer H s E e' s'') s'
theorem qAJ{sc:Scope}{n:Nat}{x:Str}(h:sc.names.lookup x=some .cell):∃c,(cellsFrom n sc.names []).lookup x=some c:=by
 have q:=PySem.W.cellsFrom_some sc.names n [] (.inl h)
 exact Option.isSome_iff_exists.mp q
theorem q8N{CX:CXT}{P:Program}{w:World}{K:PySem.W.Frag}{mg:Str→Option Value}{base:Heap}{N ps:List Str}{qual:Str}{scope:Scope}{f:Addr}{cd:Value}{A:Around}{outer:List Env}{s s1:Shared}{H:Hp}{E:XK}{us:List Value}{vs:List V}
 (S:FnScope N ps scope) (hd:A.handled=none) (e0:Env0 P w K mg base A outer s H) (hl:vs.length=ps.length) (r:Vals vs us)
 (x:InCallC s s.heap.objs.size (bindL (envOfC qual scope s.heap.objs.size f cd).kindOf (ps.zip us) λ_=>none) (cellsFrom (s.heap.objs.size+1) scope.names []) (bindC (envOfC qual scope s.heap.objs.size f cd).kindOf (ps.zip us) λ_=>none) s1):
 Inv (cxOf CX P w K mg base N qual scope f cd A outer s H E) [] (q1W N vs) H s1:=by
 have hpl:ps.length≤N.length:=by have:=dB List.length S.pre;rw[gA]at this;omega
 obtain⟨h1,tk,rfl,hk⟩:=x.done
 have noA:∀b:Addr,b∉(cxOf CX P w K mg base N qual scope f cd A outer s H E).ex:=λb z=>absurd (show b∈([]:List Addr)from z) (by simp)
 refine⟨⟨e0.mod,S.kind,rfl,rfl,kM _,λy z c h1 h2=>?_,λy hy=>?_,λy c _ h=>?_,λ_=>hd,Around.frames_deeper e0.frames,.inr ⟨rfl,rfl⟩,λb z=>absurd z (noA b),e0.bs,e0.bsz,λb _ _=>noA b,λb z=>absurd z (noA b),e0.funs,e0.frf⟩,
  rfl,e0.bare,Un.kept hk,⟨_,x.toInCall.ns,λi y v h1 h2 h3=>?_⟩,λy c h=>⟨_,x.cell y c h⟩,e0.hok.fresh (kM _),λy c h=>?_,λp hp=>absurd (show p∈([]:List (Addr×Obj))from hp) (by simp),e0.hok.kept hk,?_⟩
 ·exact name_of_addr x.apart (gJ h1) (gJ h2)
 ·have hy:scope.names.lookup y=some .cell∨scope.names.lookup y=some .free:=hy
  rcases hy with hy|hy
  ·exact qAJ hy
  ·exact absurd rfl (S.nofree _ (gJ hy))
 ·exact Nat.le_of_lt (x.above y c (gJ h))
 ·have hi:i<vs.length:=by
   unfold q1W at h2
   by_cases hi:i<vs.length
   ·exact hi
   ·rw[wH (by simpa using hi)]at h2
    rw[gE]at h2
    split at h2<;>cases h2
  have ha:vs[i]?=some v:=by
   unfold q1W at h2
   rw[List.getElem?_append_left (by simpa using hi),kN]at h2
   cases e:vs[i]? with
   |none=>rw[e]at h2;cases h2
   |some a=>rw[e]at h2;cases h2;rfl
  obtain⟨u,hu,rv⟩:=r.get ha
  have hp:ps[i]?=some y:=by
   rw[←S.pre,List.getElem?_take_of_lt (by omega)];exact h1
  have ndP:ps.Nodup:=by rw[←S.pre];exact S.nd.sublist (List.take_sublist _ _)
  refine⟨u,rv,?_⟩
  rcases S.par y (mG hp)with k|k
  ·exact .inl ⟨k,q8L ndP hp hu k⟩
  ·obtain⟨c,e⟩:=qAJ (n:=s.heap.objs.size+1) k
   refine .inr ⟨.inl k,c,e,?_⟩
   have q:=x.cell y c e
   rw[q8M ndP hp hu (by show scope.names.lookup y≠_;rw[k];decide)]at q
   exact q
 ·exact e0.hok.fresh (Nat.le_of_lt (x.above y c (gJ h)))
 ·unfold q1W
  show _=N.length
  rw[k8,hC,mS]
  omega
theorem qI4{CX:CXT}{P:Program}{w:World}{K:PySem.W.Frag}{mg:Str→Option Value}{base:Heap}{k:Nat}{f:Addr}{name qual:Str}{params:Arguments}{body:List Stmt}{scope:Scope}{dV kV doc pm cdv ct oc:Value}{an od:Option Addr}
 {osl:Array (Option Value)} {N ps:List Str} {sp:Sp} (lk:K.lookup f=some ⟨oc,od,.func (PySem.W.fnOf name qual params body scope dV kV doc pm an cdv ct),osl⟩) (hcd:PySem.W.codeIn K cdv qual=true) (S:FnScope N ps scope)
 (len:∀vs H Q E,sp vs H Q E→vs.length=ps.length)
 (hbody:∀(A:Around) (outer:List Env) (s:Shared) (H:Hp) (vs:List V) (Q:VK) (E:XK),Room k (A.deeper (envOfC qual scope s.heap.objs.size f cdv))→sp vs H Q E→
  ∃t,PSs (cxOf CX P w K mg base N qual scope f cdv A outer s H E) body t∧t { nx:=λ_ H'=>Q .non H',rt:=Q } (q1W N vs) H):
 FnOk P w K mg base CX (k+1) f (PySem.W.fnOf name qual params body scope dV kV doc pm an cdv ct) ps sp:=by
 refine⟨len,λA outer s H args us vs Q E hr e0 hb r hsp=>?_⟩
 have hl:=len _ _ _ _ hsp
 have KX:K.In s.heap:=e0.mod.kin.keeps λb o e=>(e0.bs b o e).1
 have lim:s.heap.NoLimit:=e0.mod.nolimit.keeps λb o e=>(e0.bs b o e).1
 have hkind:∀y∈ps.zip us,scope.names.lookup y.1=some .local∨(scope.names.lookup y.1=some .cell∧((cellsFrom (s.heap.objs.size+1) scope.names []).lookup y.1).isSome=true):=λ⟨n,v⟩ hy=>by
  rcases S.par n (List.of_mem_zip hy).1 with q|q
  ·exact .inl q
  ·exact .inr ⟨q,PySem.W.cellsFrom_some _ _ _ (.inl q)⟩
 refine codeAny_call_function hr.depth (KX _ _ lk) rfl S.co S.gen rfl (PySem.W.codeRec_of KX hcd) (hb _ _ _ _ ?_)
 refine wpAny_newFunctionEnv_cells S.kind hkind λenv he s1 x=>?_
 subst he
 refine⟨lim.keeps x.toInCall.keep,codeAny_func ?_⟩
 obtain⟨t,ht,hq⟩:=hbody A outer s H vs Q E (hr.deeper _) hsp
 have I:Inv (cxOf CX P w K mg base N qual scope f cdv A outer s H E) [] (q1W N vs) H s1:=q8N S hr.hd e0 hl r x
 refine dY (ht [] s1 (q1W N vs) H _ I hq) (λfl s' hs=>?_) λe s' hs=>hs
 have fin:∀{σ':St} {H':Hp} {v:V} {u:Value},Inv (cxOf CX P w K mg base N qual scope f cdv A outer s H E) [] σ' H' s'→RelV v u→Q v H'→CE outer P w H s Q u s':=
  fun {σ' H' v u} J rv q=>⟨v,H',J.os,J.bare,J.base,J.hok,rv,q⟩
 cases fl with
 |ret u=>
  obtain⟨v,σ',H',J,rv,q⟩:=hs
  exact fin J rv q
 |next=>
  obtain⟨σ',H',J,q⟩:=hs
  exact fin (v:=V.non) (u:=Value.none) J rfl q
 |brk=>
  obtain⟨_,_,_,q⟩:=hs
  exact False.elim q
 |cont=>
  obtain⟨_,_,_,q⟩:=hs
  exact False.elim q
section
variable{X:Cx}{x:Str}{p pos:Pos}{e:Expr}{es:List Expr}{t:TA}{id T:String}{r:List V→Hp→VK→Prop}
noncomputable def tCB(r:List V→Hp→VK→Prop)(t:TA):TE:=λσ H Q=>t σ H λvs H1=>r vs H1 Q
theorem qW(hc:zY X (.builtin id) r)(hg:Gl X x)(hm:X.mg x=none)(hv:bootBuiltins x=some (.builtin id))(ha:PA X (e::es) t)(hn:x≠"__name__":=by decide)(hdb:(x==("__debug__":Str))=false:=by decide)
 (he:starEach (e::es) X.env=(false,eval e X.env)::starEach es X.env:=by rfl) (hpl:(backTo pos (starEach es X.env)).any (·.1)=false:=by rfl):PE X (.Call (.Name x p) (e::es) [] pos) (tCB r t):=by
 intro pins s σ H Q I h
 refine dA (q22 I hg hm hv ?_ hn hdb)
 exact PyProof.Rows.callWith_builtin1 (thn (ha pos pins s σ H _ I h) λus s1 ⟨vs,H1,I1,r1,q1⟩=>hc pins s1 σ H1 vs us Q I1 r1 q1) he hpl
theorem q31(hc:zY X (.type T) r)(hg:Gl X x)(hm:X.mg x=none)(hv:bootBuiltins x=some (.type T))(ha:PA X (e::es) t)(hn:x≠"__name__":=by decide)(hdb:(x==("__debug__":Str))=false:=by decide)
 (he:starEach (e::es) X.env=(false,eval e X.env)::starEach es X.env:=by rfl) (hpl:(backTo pos (starEach es X.env)).any (·.1)=false:=by rfl):PE X (.Call (.Name x p) (e::es) [] pos) (tCB r t):=by
 intro pins s σ H Q I h
 refine dA (q22 I hg hm hv ?_ hn hdb)
 exact PyProof.Rows.callWith_type1 (thn (ha pos pins s σ H _ I h) λus s1 ⟨vs,H1,I1,r1,q1⟩=>hc pins s1 σ H1 vs us Q I1 r1 q1) he hpl
end
end L2
namespace HT
open PySem PyProof.Rows
noncomputable def lexLt:List Int→List Int→Bool
 | [],[]=>false
 | [],_::_=>true
 |_::_,[]=>false
 |x::xs,y::ys=>if x=y then lexLt xs ys else decide (x<y)
theorem qC1(x y:Int)(xs ys:List Int):lexLt (x::xs) (y::ys)=if x=y then lexLt xs ys else decide (x<y):=rfl
theorem q7W:lexLt [] []=false:=rfl
theorem q6C(y:Int)(ys:List Int):lexLt [] (y::ys)=true:=rfl
theorem q6D(x:Int)(xs:List Int):lexLt (x::xs) []=false:=rfl
theorem qF2(A:Around)(s:Shared)(a:Int)(t:Tok)(c:Int)(u:Tok):∃e,SeqAt.EqAt A s (.int a t) (.int c u) e∧(e=true↔a=c):=
 ⟨(a==c),PySem.SeqAt.EqAt.int_int a t c u,by simp⟩
theorem qF3(A:Around)(s:Shared)(a:Int)(t:Tok)(c:Int)(u:Tok)(prog:Program)(w:World)(E:Value→Shared→Prop)(Q:Value→Shared→Prop)(h:Q (.bool (decide (a<c))) s):
 wpAny (model prog w) A (richCompare .Lt (.int a t) (.int c u)) Q E s:=
 (PyProof.Rows.lt_int h:wpAny (model prog w) A (compareOp .Lt (.int a t) (.int c u)) Q E s)
section
open PySem.SeqAt
open PySem.AutoSeq1 (wpAny_loadPart')
open PySem.MeetsSeq PySem.MeetsSeq2 PySem.MeetsSeq3
theorem q7X(l b:Addr)(items items2:Array Value)(n n2:Nat)(dd dd2:Option Addr)(sl sl2:Array (Option Value))(ns ms:List Int)(hi:IntsAre items.toList ns)(hj:IntsAre items2.toList ms):
 Meets (Builtin.«tuple.__lt__» ⟨[.ref l,.ref b],[]⟩)
  (λ_ R s=>s.heap.get? l=some { cls:=.type "tuple",dict:=dd,data:=.seq items n,slots:=sl }∧s.heap.get? b=some { cls:=.type "tuple",dict:=dd2,data:=.seq items2 n2,slots:=sl2 }∧
   R (.ok (.ret (.bool (lexLt ns ms)))) s):=
 .of_wp λprog w A R s h=>by
  obtain⟨hp,g,d,tk,os⟩:=s;obtain⟨hl,hb,h⟩:=h
  have f2:=AutoSeq1.sub_tuple_tuple
  have z1:items.size=ns.length:=by rw[←hi.length];simp
  have z2:items2.size=ms.length:=by rw[←hj.length];simp
  wp_walk using wpAny_loadPart' hl,wpAny_loadPart' hb,wpAny_forIn_list _ (λrest b s'=>b.1=none∧s'=⟨hp,g,d,tk,os⟩∧∃(vs ws:List Value) (ns' ms':List Int),rest=vs.zip ws∧
   IntsAre vs ns'∧IntsAre ws ms'∧ns'.length+items2.size=ms'.length+items.size∧R (.ok (.ret (.bool (lexLt ns' ms')))) ⟨hp,g,d,tk,os⟩) _
  case turn=>
   rintro⟨y,x⟩ rest b s' ⟨hb',rfl,vs,ws,ns',ms',hz,hvi,hwi,hlen,hR⟩
   cases hvi with
   |nil=>rw[List.zip_nil_left]at hz;cases hz
   |cons a t hvi'=>
    cases hwi with
    |nil=>rw[List.zip_nil_right]at hz;cases hz
    |cons c u hwi'=>
     rw[List.zip_cons_cons]at hz
     injection hz with hyx hrest
     injection hyx with hy hx
     subst hy hx
     rw[qC1]at hR
     simp only[mP]at hlen
     obtain⟨e,he,hiff⟩:=qF2 A.in1 ⟨hp,g,d,tk,os⟩ a t c u
     refine kD (he prog w _ _ ?_)
     cases e with
     |true=>
      rw[kG (hiff.mp rfl)]at hR
      wp_walk
      exact⟨rfl,rfl,_,_,_,_,hrest,hvi',hwi',by omega,hR⟩
     |false=>
      rw[hX (λq=>absurd (hiff.mpr q) kJ)]at hR
      have hri:=qF3 A.in1 ⟨hp,g,d,tk,os⟩ a t c u prog w
      wp_walk using hri
      exact⟨_,rfl,by simpa using hR⟩
  case fin=>
   rintro⟨b1,b2⟩ s' ⟨hb',rfl,vs,ws,ns',ms',hz,hvi,hwi,hlen,hR⟩
   simp only at hb'
   subst hb'
   have hv:lexLt ns' ms'=decide (items.size<items2.size):=by
    cases hvi with
    |nil=>
     cases hwi with
     |nil=>
      simp only[List.length_nil]at hlen
      rw[q7W]
      exact(hV (by omega)).symm
     |cons c u hw=>
      simp only[List.length_nil,mP]at hlen
      rw[q6C]
      exact(hI (by omega)).symm
    |cons a t hv=>
     cases hwi with
     |nil=>
      simp only[List.length_nil,mP]at hlen
      rw[q6D]
      exact(hV (by omega)).symm
     |cons c u hw=>
      rw[List.zip_cons_cons]at hz
      cases hz
   rw[hv]at hR
   wp_walk
   exact⟨_,rfl,by simpa[Builtin.Tuple.tupleCompareSizes]using hR⟩
  case h=>
   exact⟨rfl,rfl,items.toList,items2.toList,ns,ms,rfl,hi,hj,by omega,h⟩
end
section
variable{prog:Program}{w:World}{A:Around}{E:Value→Shared→Prop}{s:Shared}
theorem lt_tupInts{l b:Addr}{items items2:Array Value}{ns ms:List Int}{Q:Value→Shared→Prop}(hl:IsTup s.heap l items)(hb:IsTup s.heap b items2)(hi:IntsAre items.toList ns)(hj:IntsAre items2.toList ms)
 (hu:A.units<cLine) (h:Q (.bool (lexLt ns ms)) s):wpAny (model prog w) A (compareOp .Lt (.ref l) (.ref b)) Q E s:=by
 obtain⟨⟨cls,dd,data,sl⟩,ho,hc,n,hd⟩:=id hl
 obtain⟨⟨cls2,dd2,data2,sl2⟩,ho2,hc2,n2,hd2⟩:=id hb
 simp only at hc hd hc2 hd2
 subst hc hd hc2 hd2
 exact richCompare_meets_room (op:=.Lt) ⟨_,ho,rfl⟩ ⟨_,ho2,rfl⟩ PySem.F.slot_tuple_lt PySem.F.entry_tuple_lt (PySem.F.args_tuple_lt_2 _ _) (q7X l b items items2 n n2 dd dd2 sl sl2 ns ms hi hj)
  ⟨ho,ho2,show Value.bool (lexLt ns ms)≠Value.notImplemented∧Q (.bool (lexLt ns ms)) s from⟨(λx=>nomatch x),h⟩⟩ hu
noncomputable def sIx(n d:Nat):Option Int→Nat
 |none=>d
 |some v=>if v<0 then(v+(n:Int)).toNat else min v.toNat n
end
end HT
namespace L2
open PySem PySem.Spec PyProof.Rows
noncomputable abbrev TO:=St→Hp→(Option Int→Hp→Prop)→Prop
noncomputable def PO(X:Cx)(e:Option Expr)(t:TO):Prop:=
 ∀(pins:List (Addr×Obj)) (s:Shared) (σ:St) (H:Hp) (Q:Option Int→Hp→Prop),Inv X pins σ H s→t σ H Q→
  wpAny (model X.prog X.w) X.A (evalPart e X.env) (λu s'=>∃o H',Inv X pins σ H' s'∧IsPart u o∧Q o H') X.xe s
noncomputable def qGS:TO:=λ_ H Q=>Q none H
noncomputable def qKM(t:TE):TO:=λσ H Q=>t σ H λx H1=>∃i,x=.int i∧Q (some i) H1
section
variable{X:Cx}{e:Expr}{te:TE}{lo hi:Option Expr}{tl th:TO}{pos p2:Pos}
theorem qCT:PO X none qGS:=by
 intro pins s σ H Q I h
 rw[evalPart_none]
 exact kZ ⟨none,H,I,.none,h⟩
theorem qCU(h:PE X e te):PO X (some e) (qKM te):=by
 intro pins s σ H Q I hw
 rw[evalPart_some]
 refine thn (h pins s σ H _ I hw) λu s1 hZ=>?_
 obtain⟨x,H1,I1,r1,q1⟩:=hZ
 obtain⟨i,rfl,q⟩:=q1
 obtain⟨t,rfl⟩:=r1
 exact⟨some i,H1,I1,.int i t,q⟩
noncomputable def SlR(X:Cx)(r:V→Option Int→Option Int→Hp→VK→Prop):Prop:=
 ∀(pins:List (Addr×Obj)) (s:Shared) (σ:St) (H:Hp) (x:V) (v vl vu:Value) (lo hi:Option Int) (sl:Addr) (Q:VK),Inv X pins σ H s→RelV x v→s.heap.IsSliceOf sl vl vu .none→IsPart vl lo→IsPart vu hi→r x lo hi H Q→
  ∃T id,typeLookup (.type T) "__getitem__"=pure (some (.builtin id))∧s.TypeIs v T∧wpAny (model X.prog X.w) X.A (getItem v (.ref sl)) (EP X pins σ Q) X.xe s
noncomputable def tSl(r:V→Option Int→Option Int→Hp→VK→Prop)(te:TE)(tl th:TO):TE:=λσ H Q=>te σ H λx H1=>tl σ H1 λl H2=>th σ H2 λu H3=>r x l u H3 Q
theorem qAK{r:V→Option Int→Option Int→Hp→VK→Prop}(hr:SlR X r)(he:PE X e te)(hl:PO X lo tl)(hu:PO X hi th):PE X (.Subscript e (.Slice lo hi none p2) pos) (tSl r te tl th):=by
 intro pins s σ H Q I h
 refine Subscript_ (thn (he pins s σ H _ I h) λv s1 hZ=>?_)
 obtain⟨x,H1,I1,r1,q1⟩:=hZ
 refine wpAny_Slice (thn (hl pins s1 σ H1 _ I1 q1) λvl s2 ⟨l,H2,I2,pl,q2⟩=>thn (hu pins s2 σ H2 _ I2 q2) λvu s3 hZ=>?_)
 obtain⟨u,H3,I3,pu,q3⟩:=hZ
 rw[evalPart_none]
 refine kZ ?_
 have I4:Inv X pins σ H3 { s3 with heap:=s3.heap.push { cls:=.type "slice",data:=.fields #[vl,vu,.none] } }:=I3.kept (t':=s3.toks) λb ob q=>hZ _ q
 obtain⟨T,id,hT,ht,hg⟩:=hr pins { s3 with heap:=s3.heap.push { cls:=.type "slice",data:=.fields #[vl,vu,.none] } } σ H3 x v vl vu l u s3.heap.objs.size Q I4 r1 (Heap.IsSliceOf.new ..) pl pu q3
 show wpAny (model X.prog X.w) X.A (subscriptTail e (.Slice lo hi none p2) v (.ref s3.heap.objs.size)) (EP X pins σ Q) X.xe { s3 with heap:=s3.heap.push { cls:=.type "slice",data:=.fields #[vl,vu,.none] } }
 exact tail_any (ops:=[.ref s3.heap.objs.size,v]) ht hT hg (by with_unfolding_all rfl)
noncomputable def cutV(xs:List V)(lo hi:Option Int):List V:=(xs.drop (HT.sIx xs.length 0 lo)).take (HT.sIx xs.length xs.length hi-HT.sIx xs.length 0 lo)
theorem qAL(xs:List V)(lo hi:Option Int):(cutV xs lo hi).length≤xs.length:=by
 unfold cutV
 rw[gA,List.length_drop]
 omega
end
noncomputable def ixN(n:Nat)(i:Int):Option Nat:=if 0≤i then(if i<n then some i.toNat else none)else if-(n:Int)≤i then some (i+n).toNat else none
noncomputable def atI{α:Type}(xs:List α)(i:Int):Option α:=(ixN xs.length i).bind λj=>xs[j]?
theorem qCV{n:Nat}{i:Int}{j:Nat}(h:ixN n i=some j):seqIndex? i n=some j∧j<n∧-(n:Int)≤i∧i<n:=by
 unfold ixN at h
 by_cases h0:0≤i
 ·rw[kG h0]at h
  by_cases h1:i<n
  ·rw[kG h1]at h
   have e:i.toNat=j:=kF h
   exact⟨by rw[seqIndex_of h0 h1,e],by omega,by omega,h1⟩
  ·rw[hX h1]at h;cases h
 ·rw[hX h0]at h
  by_cases h1:-(n:Int)≤i
  ·rw[kG h1]at h
   have e:(i+n).toNat=j:=kF h
   exact⟨by rw[seqIndex_neg (by omega) h1,e],by omega,h1,by omega⟩
  ·rw[hX h1]at h;cases h
theorem q95{α:Type}{xs:List α}{i:Int}{v:α}(h:atI xs i=some v):∃j,seqIndex? i xs.length=some j∧xs[j]?=some v∧j<xs.length∧-(xs.length:Int)≤i∧i<xs.length:=by
 unfold atI at h
 cases e:ixN xs.length i with
 |none=>rw[e]at h;cases h
 |some j=>
  rw[e]at h
  obtain⟨h1,h2,h3,h4⟩:=qCV e
  exact⟨j,h1,h,h2,h3,h4⟩
theorem yC{α:Type}{xs:List α}{j:Nat}{v:α}(h:xs[j]?=some v):atI xs (j:Int)=some v:=by
 have hj:j<xs.length:=(hG.mp h).1
 have e:ixN xs.length (j:Int)=some j:=by
  unfold ixN
  rw[kG (by omega),kG (by omega)];simp
 unfold atI;rw[e];exact h
noncomputable def qGT(b:Expr):Prop:=∀o i,subscripted b false o i=operate [o,i] (getItem o i)
noncomputable def IxR(X:Cx)(r:R2):Prop:=
 ∀(value slice:Expr) (pins:List (Addr×Obj)) (s:Shared) (σ:St) (H:Hp) (x y:V) (v u:Value) (Q:VK),Inv X pins σ H s→RelV x v→RelV y u→r x y H Q→
  subscripted slice false v u=operate [v,u] (getItem v u)→wpAny (model X.prog X.w) X.A (subscriptTail value slice v u) (EP X pins σ Q) X.xe s
noncomputable def MtR(X:Cx)(id:String)(r:V→List V→Hp→VK→Prop):Prop:=
 ∀(pins:List (Addr×Obj)) (s:Shared) (σ:St) (H:Hp) (x:V) (xs:List V) (v:Value) (us:List Value) (Q:VK),Inv X pins σ H s→RelV x v→Vals xs us→r x xs H Q→
  wpAny (model X.prog X.w) X.A (call (.builtin id) (v::us)) (EP X pins σ Q) X.xe s
section
variable{X:Cx}{a b:Expr}{ta tb:TE}{pos:Pos}
theorem qY{r:R2}(hr:IxR X r)(ha:PE X a ta)(hb:PE X b tb)(hs:qGT b):PE X (.Subscript a b pos) (tOp r ta tb):=by
 intro pins s σ H Q I h
 exact Subscript_ (binT ha hb I h λv u s2 x y H2 I2 rx ry q=>hr a b pins s2 σ H2 x y v u Q I2 rx ry q (hs _ _))
noncomputable def rIxL(K:PySem.W.Frag):R2:=λx y H Q=>∃p xs i v,x=.ref p∧y=.int i∧SqL K H p xs∧atI xs i=some v∧Q v H
noncomputable def rIxT(K:PySem.W.Frag):R2:=λx y H Q=>∃p xs i v,x=.ref p∧y=.int i∧SqT K H p xs∧atI xs i=some v∧Q v H
theorem jE:IxR X (rIxL X.K):=by
 intro value slice pins s σ H x y v u Q I rx ry h hs
 obtain⟨p,xs,i,z,rfl,rfl,hq,he,q⟩:=h
 cases rx
 obtain⟨t,rfl⟩:=ry
 obtain⟨its,r,pl,hz⟩:=I.list hq
 obtain⟨j,h1,h2,h3,h4,h5⟩:=q95 he
 obtain⟨w,ew,rw'⟩:=r.get h2
 have hl:=r.length
 have hn:=q68
 have fin:EP X pins σ Q w s:=⟨z,H,I,rw',q⟩
 by_cases h0:0≤i
 ·have hj:i.toNat=j:=by
   rw[seqIndex_of h0 h5]at h1
   exact kF h1
  exact item_listR pl.isList h0 (by omega) (by rw[hj];simpa using ew) fin hs
 ·have hj:(i+(its.toArray.size:Int)).toNat=j:=by
   rw[seqIndex_neg (by omega) h4]at h1
   rw[kQ,←hl]
   exact kF h1
  exact subscriptTail_builtinR (x:=w) pl.isList.typeIs slot_list_getitem.lookup
   (wpAny_getItem_list_neg (Q:=λr s'=>r=w∧EP X pins σ Q r s') pl.isList (by omega) (by rw[kQ]<;>omega) (by omega) (by rw[hj];simpa using ew) ⟨rfl,fin⟩) hs
theorem jL:IxR X (rIxT X.K):=by
 intro value slice pins s σ H x y v u Q I rx ry h hs
 obtain⟨p,xs,i,z,rfl,rfl,hq,he,q⟩:=h
 cases rx
 obtain⟨t,rfl⟩:=ry
 obtain⟨its,r,pl,hz⟩:=I.tuple hq
 obtain⟨j,h1,h2,h3,h4,h5⟩:=q95 he
 obtain⟨w,ew,rw'⟩:=r.get h2
 have hl:=r.length
 have hn:=q68
 have fin:EP X pins σ Q w s:=⟨z,H,I,rw',q⟩
 exact subscriptTail_builtinR (x:=w) pl.typeIs slot_tuple_getitem.lookup
  (getItem_tuple (j:=j) (Q:=λr s'=>r=w∧EP X pins σ Q r s') pl (by omega) (by omega) (by rw[kQ,←hl];exact h1) (by simpa using ew) ⟨rfl,fin⟩) hs
theorem qC2(its:List Value)(n j:Nat)(u:Value):Obj.mapSeq (·.setIfInBounds j u) { cls:=.type "list",data:=.seq its.toArray n } = { cls:=.type "list",data:=.seq (its.set j u).toArray n }:=by
 simp[Obj.mapSeq]
theorem Inv.lst{pins:List (Addr×Obj)}{σ:St}{H:Hp}{s:Shared}{p:Addr}{xs:List V}(I:Inv X pins σ H s)(h:H p=some (.lst xs)):
 ∃(its:List Value) (n:Nat),Vals xs its∧s.heap.get? p=some { cls:=.type "list",data:=.seq its.toArray n }∧xs.length≤sizeLine:=by
 obtain⟨z,its,n,r,e⟩:=I.hok p _ h
 exact⟨its,n,r,e,z⟩
theorem Inv.lstUpd{pins:List (Addr×Obj)}{σ:St}{H:Hp}{s:Shared}{p:Addr}{xs ys:List V}{its its':List Value}{n n':Nat}{f:Obj→Obj}(I:Inv X pins σ H s)(h:H p=some (.lst xs))
 (ho:s.heap.get? p=some { cls:=.type "list",data:=.seq its.toArray n }) (hf:f { cls:=.type "list",data:=.seq its.toArray n } = { cls:=.type "list",data:=.seq its'.toArray n' }) (r:Vals ys its') (hz:ys.length≤sizeLine) (t:Nat):
 Inv X pins σ (upd H p (.lst ys)) { s with heap:=s.heap.update p f,toks:=t }:=by
 have e:(s.heap.update p f).get? p=some { cls:=.type "list",data:=.seq its'.toArray n' }:=by
  rw[cH f ho (by rw[hf]<;>rfl),hf]
 refine I.write (x:=p) (e:=p) (by rw[h];trivial) (.inl rfl) (λb u hb q=>(mE _ _ (Ne.symm hb)).trans q) ⟨_,e⟩ ?_
 exact⟨hz,its',n',r,e⟩
noncomputable def qKN:V→V→V→Hp→(Hp→Prop)→Prop:=λo i v H Q=>∃p xs k j,o=.ref p∧i=.int k∧H p=some (.lst xs)∧ixN xs.length k=some j∧Q (upd H p (.lst (xs.set j v)))
theorem yU:PSet X qKN:=by
 intro pins s σ H o i v ov iv u Q I ro ri rv h
 obtain⟨p,xs,k,j,rfl,rfl,hp,hj,q⟩:=h
 cases ro
 obtain⟨t,rfl⟩:=ri
 obtain⟨its,n,r,ho,hz⟩:=I.lst hp
 obtain⟨h1,h2,h3,h4⟩:=qCV hj
 have hl:=r.length
 have hn:=q68
 have I':Inv X pins σ (upd H p (.lst (xs.set j v))) { s with heap:=s.heap.update p (Obj.mapSeq (·.setIfInBounds j u)) }:=
  I.lstUpd hp ho (qC2 its n j u) (r.set rv j) (by rw[mV];exact hz) s.toks
 by_cases h0:0≤k
 ·have hk:k.toNat=j:=by
   rw[seqIndex_of h0 h4]at h1
   exact kF h1
  exact PySem.W.ki_setAt ho h0 (by omega) (by rw[kQ,←hl];exact h4) (by rw[hk];exact⟨_,I',q⟩)
 ·have hk:(k+(its.toArray.size:Int)).toNat=j:=by
   rw[seqIndex_neg (by omega) h3]at h1
   rw[kQ,←hl]
   exact kF h1
  exact PySem.W.ki_setBack ho (by omega) (by rw[kQ,←hl];exact h3) (by omega) (by rw[hk];exact⟨_,I',q⟩)
theorem q96(lo hi:Option Int)(n:Nat):(sliceBounds lo hi none n).1=((HT.sIx n 0 lo:Nat):Int)∧(sliceBounds lo hi none n).2.1=((HT.sIx n n hi:Nat):Int)∧(sliceBounds lo hi none n).2.2=1:=by
 refine⟨?_,?_,rfl⟩
 ·cases lo with
  |none=>simp[sliceBounds,HT.sIx]
  |some i=>
   simp only[sliceBounds,HT.sIx,Option.getD_none,show(1:Int)>0 by decide,if_true]
   by_cases h:i<0
   ·simp only[h,if_true]<;>omega
   ·simp only[h,if_false]<;>omega
 ·cases hi with
  |none=>simp[sliceBounds,HT.sIx]
  |some i=>
   simp only[sliceBounds,HT.sIx,Option.getD_none,show(1:Int)>0 by decide,if_true]
   by_cases h:i<0
   ·simp only[h,if_true]<;>omega
   ·simp only[h,if_false]<;>omega
theorem q7Y(its:List Value)(lo hi:Option Int):slicePick its.toArray lo hi none=((its.drop (HT.sIx its.length 0 lo)).take (HT.sIx its.length its.length hi-HT.sIx its.length 0 lo)).toArray:=by
 obtain⟨h1,h2,h3⟩:=q96 lo hi its.toArray.size
 unfold slicePick
 rw[h1,h2,h3]
 simp only[sliceRange_one,pick_run,kQ]<;>rfl
noncomputable def rSlL(K:PySem.W.Frag):V→Option Int→Option Int→Hp→VK→Prop:=λx lo hi H Q=>∃a xs,x=.ref a∧SqL K H a xs∧∀p,H p=none→Q (.ref p) (upd H p (.lst (cutV xs lo hi)))
theorem qCW:SlR X (rSlL X.K):=by
 intro pins s σ H x v vl vu lo hi sl Q I rx hs pl pu h
 obtain⟨a,xs,rfl,hx,q⟩:=h
 cases rx
 obtain⟨its,r,ht,hz⟩:=I.list hx
 have hlen:=r.length
 refine⟨"list",_,slot_list_getitem.lookup,ht.isList.typeIs,?_⟩
 refine wpAny_getItem_list_slice ht.isList hs pl pu .none (by simp) ?_ (by rw[kQ]<;>omega)
 rw[q7Y,←hlen]
 refine⟨.ref s.heap.objs.size,_,I.laid (t':=s.toks) (o:=.lst (cutV xs lo hi)) (λb ob q=>hZ _ q) (kM _) ?_,rfl,q _ (I.hok.fresh (kM _))⟩
 exact⟨mD (qAL xs lo hi) hz,_,0,(r.drop (HT.sIx xs.length 0 lo)).take (HT.sIx xs.length xs.length hi-HT.sIx xs.length 0 lo),mI _ rfl⟩
noncomputable def q0V:V→Bool
 | .non=>true
 | .bl _=>true
 | .int _=>true
 | .str _=>true
 |_=>false
noncomputable def eqV:V→V→Bool
 | .non,.non=>true
 | .bl a,.bl b=>a==b
 | .bl a,.int b=>(if a then 1 else 0)==b
 | .int a,.bl b=>a==(if b then 1 else 0)
 | .int a,.int b=>a==b
 | .str a,.str b=>a==b
 |_,_=>false
theorem qF4{A:Around}{s:Shared}{y x:V}{u v:Value}(ry:RelV y u)(rx:RelV x v)(fy:q0V y=true)(fx:q0V x=true):SeqAt.EqAt A s u v (eqV y x):=by
 cases y with
 |non=>
  cases ry
  cases x with
  |non=>cases rx;exact SeqAt.EqAt.same _
  |bl b=>cases rx;exact SeqAt.EqAt.none_bool b
  |int b=>obtain⟨t,rfl⟩:=rx;exact SeqAt.EqAt.none_int b t
  |str b=>obtain⟨t,rfl⟩:=rx;exact SeqAt.EqAt.none_str b t
  |_=>exact absurd (show false=true from fx) kJ
 |bl a=>
  cases ry
  cases x with
  |non=>cases rx;exact SeqAt.EqAt.bool_none a
  |bl b=>cases rx;exact SeqAt.EqAt.bool_bool a b
  |int b=>obtain⟨t,rfl⟩:=rx;exact SeqAt.EqAt.bool_int a b t
  |str b=>obtain⟨t,rfl⟩:=rx;exact SeqAt.EqAt.bool_str a b t
  |_=>exact absurd (show false=true from fx) kJ
 |int a=>
  obtain⟨t',rfl⟩:=ry
  cases x with
  |non=>cases rx;exact SeqAt.EqAt.int_none a t'
  |bl b=>cases rx;exact SeqAt.EqAt.int_bool a t' b
  |int b=>obtain⟨t,rfl⟩:=rx;exact PySem.SeqAt.EqAt.int_int a t' b t
  |str b=>obtain⟨t,rfl⟩:=rx;exact SeqAt.EqAt.int_str a t' b t
  |_=>exact absurd (show false=true from fx) kJ
 |str a=>
  obtain⟨t',rfl⟩:=ry
  cases x with
  |non=>cases rx;exact SeqAt.EqAt.str_none a t'
  |bl b=>cases rx;exact SeqAt.EqAt.str_bool a t' b
  |int b=>obtain⟨t,rfl⟩:=rx;exact SeqAt.EqAt.str_int a t' b t
  |str b=>obtain⟨t,rfl⟩:=rx;exact SeqAt.EqAt.str_str a t' b t
  |_=>exact absurd (show false=true from fx) kJ
 |_=>exact absurd (show false=true from fy) kJ
noncomputable def eqU(x:V)(u:Value):Bool:=match u with
 | .none=>eqV .non x
 | .bool b=>eqV (.bl b) x
 | .int i _=>eqV (.int i) x
 | .str z _=>eqV (.str z) x
 |_=>false
theorem qF5{x y:V}{u:Value}(r:RelV y u)(f:q0V y=true):eqU x u=eqV y x:=by
 cases y with
 |non=>cases r;rfl
 |bl b=>cases r;rfl
 |int i=>obtain⟨t,rfl⟩:=r;rfl
 |str z=>obtain⟨t,rfl⟩:=r;rfl
 |_=>exact absurd (show false=true from f) kJ
theorem q97{x:V}:∀{xs:List V} {us:List Value},Vals xs us→xs.all q0V=true→us.any (eqU x)=xs.any λy=>eqV y x
 |_,_,.nil,_=>rfl
 |y::xs,u::us,.cons r t,f=>by
  rw[List.all_cons,mT]at f
  rw[List.any_cons,List.any_cons,qF5 r f.1,q97 t f.2]
theorem q6E{A:Around}{s:Shared}{x:V}{v:Value}(rx:RelV x v)(fx:q0V x=true):∀{xs:List V} {us:List Value},Vals xs us→xs.all q0V=true→∀u∈us,SeqAt.EqAt A s u v (eqU x u)
 |_,_,.nil,_=>λu hu=>by cases hu
 |y::xs,u::us,.cons r t,f=>λu' hu=>by
  rw[List.all_cons,mT]at f
  rcases kI.mp hu with rfl|hu
  ·rw[qF5 r f.1];exact qF4 r rx f.1 fx
  ·exact q6E rx fx t f.2 u' hu
noncomputable def inV(x:V)(xs:List V):Bool:=xs.any λy=>eqV y x
noncomputable def rIn(K:PySem.W.Frag)(neg:Bool):R2:=λx y H Q=>∃p xs,y=.ref p∧(SqL K H p xs∨SqT K H p xs)∧q0V x=true∧xs.all q0V=true∧Q (.bl (if neg then !inV x xs else inV x xs)) H
theorem q98:OpR X (compareOp .NotIn) (rIn X.K true):=by
 intro pins s σ H x y v u Q I rx ry h
 obtain⟨p,xs,rfl,hq,fx,fs,q⟩:=h
 cases ry
 rcases hq with hq|hq
 ·obtain⟨its,r,pl,hz⟩:=I.list hq
  refine SeqAt.notIn_listAt (eqU x) pl.isList (λw hw=>q6E rx fx r fs w (by simpa using hw)) ⟨.bl _,H,I,rfl,?_⟩
  rw[show its.toArray.any (eqU x)=its.any (eqU x) by simp,q97 r fs]
  exact q
 ·obtain⟨its,r,pl,hz⟩:=I.tuple hq
  refine SeqAt.notIn_tupleAt (eqU x) pl (λw hw=>q6E rx fx r fs w (by simpa using hw)) ⟨.bl _,H,I,rfl,?_⟩
  rw[show its.toArray.any (eqU x)=its.any (eqU x) by simp,q97 r fs]
  exact q
theorem j8:zY X (.builtin "len") (λxs H Q=>∃p ys,xs=[.ref p]∧(SqL X.K H p ys∨SqT X.K H p ys)∧Q (.int ys.length) H):=by
 intro pins s σ H xs us Q I r h
 obtain⟨p,ys,rfl,hq,q⟩:=h
 obtain⟨u,rfl,rx⟩:=zH r
 cases rx
 have hn:=q68
 rcases hq with hq|hq
 ·obtain⟨its,r',pl,hz⟩:=I.list hq
  have hlen:=r'.length
  exact Calls.call_len_list pl.isList (by simp only[kQ]<;>omega) ⟨.int ys.length,H,I.tok _,⟨s.toks+1,by rw[kQ,hlen]⟩,q⟩
 ·obtain⟨its,r',pl,hz⟩:=I.tuple hq
  have hlen:=r'.length
  exact len_tuple pl (by simp only[kQ]<;>omega) ⟨.int ys.length,H,I.tok _,⟨s.toks+1,by rw[kQ,hlen]⟩,q⟩
theorem q99:zY X (.type "list") (λxs H Q=>∃p ys,xs=[.ref p]∧(SqL X.K H p ys∨SqT X.K H p ys)∧∀l,H l=none→Q (.ref l) (upd H l (.lst ys))):=by
 intro pins s σ H xs us Q I r h
 obtain⟨p,ys,rfl,hq,q⟩:=h
 obtain⟨u,rfl,rx⟩:=zH r
 cases rx
 have fin:∀(its:List Value),Vals ys its→ys.length≤sizeLine→∀(h':Heap) (c':Nat),(∀b o',s.heap.get? b=some o'→h'.get? b=some o')→
  h'.get? s.heap.objs.size=some { cls:=.type "list",dict:=none,data:=.seq its.toArray c',slots:=#[] }→EP X pins σ Q (.ref s.heap.objs.size) { s with heap:=h' }:=λits r' hz h' c' kp e=>
  ⟨.ref s.heap.objs.size,_,I.laid (t':=s.toks) kp (kM _) (show jN X.prog X.w _ h' _ (.lst ys)from⟨hz,its,c',r',e⟩),rfl,q _ (I.hok.fresh (kM _))⟩
 rcases hq with hq|hq
 ·obtain⟨its,r',pl,hz⟩:=I.list hq
  have hlen:=r'.length
  obtain⟨o,ho,hc,n,hd⟩:=pl.isList
  exact call_list_seq p (.inl rfl) ho hc hd (λh' c' kp e=>fin its r' hz h' c' kp e) (by simp only[kQ]<;>omega)
 ·obtain⟨its,r',pl,hz⟩:=I.tuple hq
  have hlen:=r'.length
  obtain⟨o,ho,hc,n,hd⟩:=pl
  exact call_list_seq p (.inr rfl) ho hc hd (λh' c' kp e=>fin its r' hz h' c' kp e) (by simp only[kQ]<;>omega)
noncomputable def tyV(K:PySem.W.Frag)(T:String)(x:V)(H:Hp):Prop:=match x with
 | .str _=>T="str"
 | .int _=>T="int"
 | .ref p=>(T="list"∧∃xs,SqL K H p xs)∨(T="tuple"∧∃o,K.lookup p=some o∧o.cls=.type "tuple"∧o.dict=none)∨
   (T="dict"∧((∃kvs,H p=some (.dK kvs))∨∃kvs,H p=some (.dT kvs)))∨(T="set"∧∃S n,H p=some (.set S n))
 |_=>False
theorem qF6{pins:List (Addr×Obj)}{σ:St}{H:Hp}{s:Shared}{T:String}{x:V}{v:Value}(I:Inv X pins σ H s)(r:RelV x v)(ty:tyV X.K T x H):
 s.TypeIs v T∧∀a,v=.ref a→∃ob,s.heap.get? a=some ob∧ob.dict=none:=by
 cases x with
 |str z=>
  obtain⟨t,rfl⟩:=r
  cases(show T="str" from ty)
  exact⟨typeIs_str s z t,λ_ e=>nomatch e⟩
 |int i=>
  obtain⟨t,rfl⟩:=r
  cases(show T="int" from ty)
  exact⟨typeIs_int s i t,λ_ e=>nomatch e⟩
 |ref p=>
  cases r
  rcases ty with⟨rfl,xs,hq⟩|⟨rfl,o,hk,hc,hd⟩|⟨rfl,hk⟩|⟨rfl,S,n,hk⟩
  ·obtain⟨its,_,pl,_⟩:=I.list hq
   refine⟨pl.isList.typeIs,λa e=>?_⟩
   cases e
   obtain⟨o,n,e,c,hd,_⟩:=pl
   exact⟨o,e,hd⟩
  ·refine⟨⟨o,I.kIn p o hk,hc⟩,λa e=>?_⟩
   cases e
   exact⟨o,I.kIn _ o hk,hd⟩
  ·have z:∃o,s.heap.get? p=some o∧o.ExactDict:=by
    rcases hk with⟨kvs,hk⟩|⟨kvs,hk⟩
    ·obtain⟨_,_,_,_,o,_,_,e,ex,_⟩:=I.hok p _ hk
     exact⟨o,e,ex⟩
    ·obtain⟨_,_,_,_,o,_,_,e,ex,_⟩:=I.hok p _ hk
     exact⟨o,e,ex⟩
   obtain⟨o,e,ex⟩:=z
   refine⟨⟨o,e,ex.1⟩,λa e2=>?_⟩
   cases e2
   exact⟨o,e,ex.2.1⟩
  ·obtain⟨o,_,_,_,e,ex,_⟩:=I.hok p _ hk
   refine⟨⟨o,e,ex.1⟩,λa e2=>?_⟩
   cases e2
   exact⟨o,e,ex.2.1⟩
 |_=>exact False.elim ty
noncomputable def tBM0(K:PySem.W.Frag)(T:String)(r:V→List V→Hp→VK→Prop)(to:TE):TE:=λσ H Q=>to σ H λx H1=>tyV K T x H1∧r x [] H1 Q
noncomputable def tBM(K:PySem.W.Frag)(T:String)(r:V→List V→Hp→VK→Prop)(to:TE)(t:TA):TE:=λσ H Q=>to σ H λx H1=>tyV K T x H1∧t σ H1 λxs H2=>r x xs H2 Q
variable{o e:Expr}{es:List Expr}{to:TE}{t:TA}{name:Str}{apos cpos:Pos}{T id:String}{r:V→List V→Hp→VK→Prop}
theorem qIO(pa:PlainAttrs T)(slot:Slot T name id)(hty:typeOf (.builtin id)=pure (.type "method_descriptor"))(hm:MtR X id r)(ho:PE X o to)
 (hbase:attributeBase o name X.env (eval o X.env)=eval o X.env:=by rfl) (hline:(apos.endLine==cpos.line)=true:=by rfl):PE X (.Call (.Attribute o name apos) [] [] cpos) (tBM0 X.K T r to):=by
 intro pins s σ H Q I h
 refine wpAny_Call_method0_late hbase hline (thn (ho pins s σ H _ I h) λv s1 hZ=>?_)
 obtain⟨x,H1,I1,r1,ty,q1⟩:=hZ
 obtain⟨h1,h2⟩:=qF6 I1 r1 ty
 exact⟨T,id,pa,slot,hty,h1,h2,PySem.Calls.callWith_builtin rfl (PySem.evalArgs_none (hm pins s1 σ H1 x [] v [] Q I1 r1 .nil q1))⟩
theorem q8O(pa:PlainAttrs T)(slot:Slot T name id)(hty:typeOf (.builtin id)=pure (.type "method_descriptor"))(hm:MtR X id r)(ho:PE X o to)(ha:PA X (e::es) t)
 (hbase:attributeBase o name X.env (eval o X.env)=eval o X.env:=by rfl)
 (hfew:((backTo cpos (starEach (e::es) X.env)).all (λx=>!x.1)&&(backToKw cpos (keywordEach [] X.env)).all (λx=>x.1.isSome)
  &&decide ((e::es).length+([]:List Keyword).length+(if([]:List Keyword).isEmpty then 0 else 1)<30))=true:=by rfl)
 (hline:(apos.endLine==cpos.line)=true:=by rfl) (hs:starEach (e::es) X.env=(false,eval e X.env)::starEach es X.env:=by rfl) (hplain:(backTo cpos (starEach es X.env)).any (·.1)=false:=by rfl):
 PE X (.Call (.Attribute o name apos) (e::es) [] cpos) (tBM X.K T r to t):=by
 intro pins s σ H Q I h
 refine wpAny_Call_method_late hbase hfew hline rfl (thn (ho pins s σ H _ I h) λv s1 hZ=>?_)
 obtain⟨x,H1,I1,r1,ty,q1⟩:=hZ
 obtain⟨h1,h2⟩:=qF6 I1 r1 ty
 refine⟨T,id,pa,slot,hty,h1,h2,?_⟩
 have hA:=ha cpos pins s1 σ H1 _ I1 q1
 rw[hs]at hA ⊢
 refine PySem.Calls.callWith_builtin (by show(false||(backTo cpos (starEach es X.env)).any (·.1))=false;rw[hplain]<;>rfl) (PySem.Calls.evalArgs_plain ?_)
 exact thn hA λus s2 ⟨vs,H2,I2,r2,q2⟩=>hm pins s2 σ H2 x vs v us Q I2 r1 r2 q2
end
noncomputable def MtM(X:Cx)(id:String)(r:V→List V→Hp→VK→Prop):Prop:=
 ∀(pins:List (Addr×Obj)) (s:Shared) (σ:St) (H:Hp) (x:V) (xs:List V) (v:Value) (us:List Value) (Q:VK),Inv X pins σ H s→RelV x v→Vals xs us→r x xs H Q→
  wpAny (model X.prog X.w) X.A (call (.builtin id) (v::us)) (EP X pins σ Q) X.xe s
theorem Vals.one{x:V}{us:List Value}(h:Vals [x] us):∃u,us=[u]∧RelV x u:=by
 cases h with
 |cons r t=>
  cases t
  exact⟨_,rfl,r⟩
theorem Vals.zero:∀{us:List Value},Vals [] us→us=[]
 |_,.nil=>rfl
theorem Vals.rep{xs:List V}{us:List Value}(h:Vals xs us):∀k:Nat,Vals (List.replicate k xs).flatten (List.replicate k us).flatten
 |0=>.nil
 |k+1=>by
  rw[List.replicate_succ,List.replicate_succ,List.flatten_cons,List.flatten_cons]
  exact Vals.append h (Vals.rep h k)
theorem q8P(its:List Value):∀(k:Nat) (acc:List Value),
 List.foldl (λx1 x2=>x1++x2) acc.toArray (List.replicate k its.toArray)=(acc++(List.replicate k its).flatten).toArray
 |0,acc=>by simp
 |k+1,acc=>by
  have e:acc.toArray++its.toArray=(acc++its).toArray:=by simp
  have e2:(acc++its)++(List.replicate k its).flatten=acc++(List.replicate (k+1) its).flatten:=by
   rw[List.replicate_succ,List.flatten_cons,List.append_assoc]
  rw[←e2,←q8P its k (acc++its),←e,List.replicate_succ,List.foldl_cons]
section
variable{X:Cx}{pins:List (Addr×Obj)}{σ:St}{H:Hp}{s:Shared}{l b:Addr}{xs ys zs:List V}
theorem Inv.lset{its its':List Value}{n:Nat}{f:Array Value→Array Value}{t':Nat}(I:Inv X pins σ H s)(hH:H l=some (.lst xs))
 (e:s.heap.get? l=some { cls:=.type "list",data:=.seq its.toArray n }) (hf:f its.toArray=its'.toArray) (hv:Vals ys its') (hz:ys.length≤sizeLine):
 Inv X pins σ (upd H l (.lst ys)) { s with heap:=s.heap.update l (Obj.mapSeq f),toks:=t' }:=by
 have q:=PySem.IsL.update e f
 rw[hf]at q
 refine I.write (x:=l) (e:=l) (by rw[hH];exact trivial) (.inl rfl) (λb' u hb hu=>(mE s.heap (Obj.mapSeq f) (Ne.symm hb)).trans hu) ⟨_,q⟩ ?_
 exact⟨hz,its',_,hv,q⟩
theorem Inv.lnew{its:List Value}{t':Nat}(I:Inv X pins σ H s)(hv:Vals ys its)(hz:ys.length≤sizeLine):
 Inv X pins σ (upd H s.heap.objs.size (.lst ys)) { s with heap:=s.heap.push { cls:=.type "list",data:=.seq its.toArray },toks:=t' }:=
 I.laid (λ_ _ q=>hZ _ q) (kM _) ⟨hz,its,0,hv,mI _ rfl⟩
theorem Inv.fresh(I:Inv X pins σ H s):H s.heap.objs.size=none:=I.hok.fresh (kM _)
theorem Inv.lstM(I:Inv X pins σ H s)(hH:H l=some (.lst xs)):xs.length≤sizeLine∧∃(its:List Value) (n:Nat),Vals xs its∧xs.length=its.length∧s.heap.get? l=some { cls:=.type "list",data:=.seq its.toArray n }:=by
 obtain⟨z,its,n,r,e⟩:=I.hok l _ hH
 exact⟨z,its,n,r,r.length,e⟩
theorem qF7{n:Nat}(h:n≤sizeLine):Builtin.List.listTooLong n=false:=by
 unfold Builtin.List.listTooLong
 exact hV (by omega)
end
section
variable{X:Cx}
noncomputable def qGU:V→List V→Hp→VK→Prop:=λx vs H Q=>∃l xs y,x=.ref l∧vs=[y]∧H l=some (.lst xs)∧xs.length<sizeLine∧Q .non (upd H l (.lst (xs++[y])))
theorem vD:MtM X "list.append" qGU:=by
 intro pins s σ H x vs v us Q I rx rv h
 obtain⟨l,xs,y,rfl,rfl,hH,hz,q⟩:=h
 cases rx
 obtain⟨u,rfl,ru⟩:=rv.one
 obtain⟨z,its,n,r,hl,e⟩:=I.lstM hH
 refine call_meets F.slot_list_append ⟨_,e,rfl⟩ F.entry_list_append (F.args_list_append_2 _ _) (PySem.list_append l its.toArray n u (by rw[kQ];omega)) ⟨e,?_⟩
 refine⟨.non,_,I.lset (its':=its++[u]) hH e (by simp) (r.append (.cons ru .nil)) ?_,rfl,q⟩
 rw[k8,List.length_singleton]
 omega
noncomputable def rCat:R2:=λx y H Q=>∃l b xs zs,x=.ref l∧y=.ref b∧H l=some (.lst xs)∧H b=some (.lst zs)∧xs.length+zs.length≤sizeLine∧∀p,H p=none→Q (.ref p) (upd H p (.lst (xs++zs)))
theorem qIP:OpR X (binaryOp .Add) rCat:=by
 intro pins s σ H x y v u Q I rx ry h
 obtain⟨l,b,xs,zs,rfl,rfl,hH,hB,hz,q⟩:=h
 cases rx
 cases ry
 obtain⟨z,its,n,r,hl,e⟩:=I.lstM hH
 obtain⟨z2,its2,n2,r2,hl2,e2⟩:=I.lstM hB
 refine PySem.P.add_list e e2 ?_ (by rw[kQ,kQ];omega)
 have ea:its.toArray++its2.toArray=(its++its2).toArray:=by simp
 rw[ea]
 exact⟨.ref _,_,I.lnew (t':=s.toks) (r.append r2) (by rw[k8];omega),rfl,q _ I.fresh⟩
noncomputable def rRep:R2:=λx y H Q=>∃l k xs,x=.ref l∧y=.int k∧H l=some (.lst xs)∧-(2 ^ 63)≤k∧k<2 ^ 63∧xs.length*k.toNat≤sizeLine∧
 ∀p,H p=none→Q (.ref p) (upd H p (.lst (List.replicate k.toNat xs).flatten))
theorem qGV{α:Type}(xs:List α)(k:Nat):(List.replicate k xs).flatten.length=k*xs.length:=by
 induction k with
 |zero=>simp
 |succ k ih=>rw[List.replicate_succ,List.flatten_cons,k8,ih,Nat.succ_mul,Nat.add_comm]
theorem qIQ:OpR X (binaryOp .Mult) rRep:=by
 intro pins s σ H x y v u Q I rx ry h
 obtain⟨l,k,xs,rfl,rfl,hH,h1,h2,hz,q⟩:=h
 cases rx
 obtain⟨t,rfl⟩:=ry
 obtain⟨z,its,n,r,hl,e⟩:=I.lstM hH
 have hlen:its.toArray.size*k.toNat≤sizeLine:=by rw[kQ,←hl];exact hz
 have hcap:¬its.toArray.size*k.toNat>(2 ^ 63-1) / 8:=by
  have:(sizeLine:Nat)≤(2 ^ 63-1) / 8:=by decide
  omega
 have hfit:¬(!Builtin.List.listFitsIndex k)=true:=by
  rw[fitsIndex_both h1 h2]
  exact kJ
 have hlong:¬Builtin.List.listTooLong (its.toArray.size*k.toNat)=true:=by
  rw[qF7 hlen]
  exact kJ
 have hnew:List.foldl (λx1 x2=>x1++x2) #[] (List.replicate (if its.toArray.isEmpty=true then 0 else k.toNat) its.toArray)=(List.replicate k.toNat its).flatten.toArray:=by
  have f0:∀m:Nat,List.foldl (λx1 x2=>x1++x2) #[] (List.replicate m its.toArray)=(List.replicate m its).flatten.toArray:=λm=>by
   have:=q8P its m []
   rw[List.nil_append]at this
   exact this
  rw[f0]
  cases its with
  |nil=>simp
  |cons a r'=>rw[hX (by simp)]
 refine wpAny_binaryOp_repeat_ref (T:="list") (U:="int") (by decide) ⟨_,e,rfl⟩ (λs'=>typeIs_int s' k t) noFill_list_mul F.fills_int_mul F.slot_int_rmul repeat_list F.slot_int_index.lookup
  (call_meets F.slot_int_rmul (typeIs_int s k t) F.entry_int_rmul (F.args_int_rmul_2 _ _) (int___rmul___int_list k t l its.toArray n)
   ⟨e,rfl,⟨_,e,rfl⟩,call_meets F.slot_list_mul ⟨_,e,rfl⟩ F.entry_list_mul (F.args_list_mul_2 _ _) (AutoListH.list___mul___list_int_3 l its.toArray n k t hfit hcap hlong) ⟨e,?_⟩⟩)
 rw[hnew]
 exact⟨.ref _,_,I.lnew (t':=s.toks) (r.rep k.toNat) (by rw[qGV,Nat.mul_comm];exact hz),rfl,q _ I.fresh⟩
end
section
variable{κ:Type}[DecidableEq κ]
noncomputable def valV(kvs:List (κ×V))(k:κ):Option V:=(kvs.find? λkv=>decide (kv.1=k)).map (·.2)
noncomputable def putK(kvs:List (κ×V))(k:κ)(v:V):List (κ×V):=
 if(kvs.any λkv=>decide (kv.1=k))=true then kvs.map (λkv=>if kv.1=k then(kv.1,v)else kv)else kvs++[(k,v)]
noncomputable def q6F(kvs:List (κ×V))(k:κ):List (κ×V):=kvs.filter λkv=>decide (kv.1≠k)
theorem q47{p:κ×V}{r:List (κ×V)}{k:κ}(e:p.1=k):valV (p::r) k=some p.2:=by simp[valV,dO,e]
theorem q23{p:κ×V}{r:List (κ×V)}{k:κ}(e:¬p.1=k):valV (p::r) k=valV r k:=by simp[valV,dO,e]
theorem qAM(k:κ):∀kvs:List (κ×V),(kvs.any λkv=>decide (kv.1=k))=(valV kvs k).isSome
 | []=>rfl
 |p::r=>by
  rw[List.any_cons]
  by_cases e:p.1=k
  ·simp only[q47 e,hI e,Bool.true_or,Option.isSome_some]
  ·rw[q23 e,hV e,Bool.false_or];exact qAM k r
theorem q24(kvs:List (κ×V))(k:κ)(v:V):(putK kvs k v).length≤kvs.length+1:=by
 unfold putK
 split
 ·rw[hC];omega
 ·rw[k8,mP,List.length_nil];omega
theorem RelO.isSome_eq{o:Option V}{u:Option Value}(r:RelO o u):o.isSome=u.isSome:=by
 cases o with
 |none=>cases u with
  |none=>rfl
  |some _=>exact(show False from r).elim
 |some _=>cases u with
  |none=>exact(show False from r).elim
  |some _=>rfl
theorem KV.val{kvs:List (κ×V)}{vs:List (κ×Value)}(r:KV kvs vs)(k:κ):RelO (valV kvs k) (valueAt vs k):=by
 unfold KV at r
 induction r with
 |nil=>exact True.intro
 |@cons p q ps qs h t ih=>
  obtain⟨h1,h2⟩:=h
  by_cases e:p.1=k
  ·have e':q.1=k:=h1.symm.trans e
   have b:valueAt (q::qs) k=some q.2:=by simp[valueAt,dO,e']
   rw[q47 e,b];exact h2
  ·have e':¬q.1=k:=λz=>e (h1.trans z)
   have b:valueAt (q::qs) k=valueAt qs k:=by simp[valueAt,dO,e']
   rw[q23 e,b];exact ih
theorem KV.any{kvs:List (κ×V)}{vs:List (κ×Value)}(r:KV kvs vs)(k:κ):(kvs.any λkv=>decide (kv.1=k))=vs.any λkv=>decide (kv.1=k):=by
 unfold KV at r
 induction r with
 |nil=>rfl
 |cons h t ih=>rw[List.any_cons,List.any_cons,ih,h.1]
theorem KV.repl{kvs:List (κ×V)}{vs:List (κ×Value)}(r:KV kvs vs)(k:κ){y:V}{u:Value}(ry:RelV y u):
 KV (kvs.map λkv=>if kv.1=k then(kv.1,y)else kv) (vs.map λkv=>if kv.1=k then(kv.1,u)else kv):=by
 unfold KV at r ⊢
 induction r with
 |nil=>exact .nil
 |@cons p q ps qs h t ih=>
  rw[mJ,mJ]
  refine .cons ?_ ih
  obtain⟨h1,h2⟩:=h
  by_cases e:p.1=k
  ·rw[kG e,kG (h1.symm.trans e)];exact⟨h1,ry⟩
  ·rw[hX e,hX (λz=>e (h1.trans z))];exact⟨h1,h2⟩
theorem KV.put{kvs:List (κ×V)}{vs:List (κ×Value)}(r:KV kvs vs)(k:κ){y:V}{u:Value}(ry:RelV y u):KV (putK kvs k y) (stored vs k u):=by
 unfold putK stored
 rw[r.any k]
 by_cases e:(vs.any λkv=>decide (kv.1=k))=true
 ·rw[kG e,kG e];exact r.repl k ry
 ·rw[hX e,hX e];exact Paired.snoc r ⟨rfl,ry⟩
theorem KV.drop{kvs:List (κ×V)}{vs:List (κ×Value)}(r:KV kvs vs)(k:κ):KV (q6F kvs k) (without vs k):=by
 unfold KV at r ⊢
 unfold q6F without
 induction r with
 |nil=>exact .nil
 |@cons p q ps qs h t ih=>
  obtain⟨h1,h2⟩:=h
  rw[mY,mY]
  by_cases e:p.1=k
  ·have a:¬decide (p.1≠k)=true:=by simp[e]
   have b:¬decide (q.1≠k)=true:=by simp[h1.symm.trans e]
   rw[hX a,hX b];exact ih
  ·have e':¬q.1=k:=λz=>e (h1.trans z)
   have a:decide (p.1≠k)=true:=by simp[e]
   have b:decide (q.1≠k)=true:=by simp[e']
   rw[kG a,kG b];exact .cons ⟨h1,h2⟩ ih
theorem KV.keys{kvs:List (κ×V)}{vs:List (κ×Value)}(r:KV kvs vs):kvs.map (·.1)=vs.map (·.1):=by
 unfold KV at r
 induction r with
 |nil=>rfl
 |cons h t ih=>rw[mJ,mJ,ih,h.1]
theorem KV.length{kvs:List (κ×V)}{vs:List (κ×Value)}(r:KV kvs vs):kvs.length=vs.length:=Paired.length r
theorem qF8(kvs:List (κ×V))(k:κ):(q6F kvs k).length≤kvs.length:=kY _ _
end
theorem q8Q{P:Program}{w:World}{k:Key}{u:Value}(r:RelV (kV k) u):(jZ P w).is k u=true:=by
 cases k with
 |inl i=>obtain⟨t,e⟩:=(show ∃t,u=Value.int i t from r);subst e;exact qAC P w i t
 |inr x=>obtain⟨t,e⟩:=(show ∃t,u=Value.str x t from r);subst e;exact qAD P w x t
theorem q8R{P:Program}{w:World}:∀{ks:List Key} {us:List Value},Vals (ks.map kV) us→ItemsAre (jZ P w) ks us
 | [],_,r=>by rw[List.map_nil]at r;cases r;exact .nil
 |k::ks,_,r=>by
  rw[mJ]at r
  cases r with
  |cons h t=>exact .cons (q8Q h) (q8R t)
noncomputable abbrev KT(H:Hp):List (List Key×V)→List (List Key×Addr×Value)→Prop:=Paired λp q=>p.1=q.1∧H q.2.1=some (.tup (p.1.map kV))∧RelV p.2 q.2.2
theorem KT.val{H:Hp}{kvs:List (List Key×V)}{xs:List (List Key×Addr×Value)}(r:KT H kvs xs)(k:List Key):RelO (valV kvs k) ((atKey xs k).map (·.2)):=by
 induction r with
 |nil=>exact True.intro
 |@cons p q ps qs h t ih=>
  obtain⟨h1,_,h2⟩:=h
  by_cases e:p.1=k
  ·have e':q.1=k:=h1.symm.trans e
   have b:atKey (q::qs) k=some q.2:=by simp[atKey,dO,e']
   rw[q47 e,b];exact h2
  ·have e':¬q.1=k:=λz=>e (h1.trans z)
   have b:atKey (q::qs) k=atKey qs k:=by simp[atKey,dO,e']
   rw[q23 e,b];exact ih
theorem KT.repl{H:Hp}{kvs:List (List Key×V)}{xs:List (List Key×Addr×Value)}(r:KT H kvs xs)(k:List Key){y:V}{u:Value}(ry:RelV y u):
 KT H (kvs.map λkv=>if kv.1=k then(kv.1,y)else kv) (xs.map (putAt k u)):=by
 induction r with
 |nil=>exact .nil
 |@cons p q ps qs h t ih=>
  rw[mJ,mJ]
  refine .cons ?_ ih
  obtain⟨h1,h2,h3⟩:=h
  unfold putAt
  by_cases e:p.1=k
  ·rw[kG e,kG (h1.symm.trans e)];exact⟨h1,h2,ry⟩
  ·rw[hX e,hX (λz=>e (h1.trans z))];exact⟨h1,h2,h3⟩
theorem KT.put{H:Hp}{kvs:List (List Key×V)}{xs:List (List Key×Addr×Value)}(r:KT H kvs xs)(k:List Key){b:Addr}{y:V}{u:Value}(hb:H b=some (.tup (k.map kV)))(ry:RelV y u):
 KT H (putK kvs k y) (storedH xs k b u):=by
 have e:(kvs.any λkv=>decide (kv.1=k))=(atKey xs k).isSome:=by
  rw[qAM,(r.val k).isSome_eq,Option.isSome_map]
 unfold putK storedH
 rw[e]
 by_cases q:(atKey xs k).isSome=true
 ·rw[kG q,kG q];exact r.repl k ry
 ·rw[hX q,hX q];exact Paired.snoc r ⟨rfl,hb,ry⟩
theorem KT.keeps{H H':Hp}{kvs:List (List Key×V)}{xs:List (List Key×Addr×Value)}(r:KT H kvs xs)(ht:∀b ys,H b=some (.tup ys)→H' b=some (.tup ys)):KT H' kvs xs:=
 Paired.mapP r λ_ _ z=>⟨z.1,ht _ _ z.2.1,z.2.2⟩
section
variable{P:Program}{w:World}{H:Hp}{h:Heap}{a:Addr}
theorem qI5{u:HO}(ok:HOk P w H h)(e:Rd H a u):jN P w H h a u:=e.ok ok
theorem qAN{kvs:List (Key×V)}(ok:HOk P w H h)(e:Rd H a (.dK kvs)):kvs.length≤sizeLine∧(a==sysModules)=false∧∃vs,KV kvs vs∧h.DictOf (jZ P w) a vs:=
 show jN P w H h a (.dK kvs)from qI5 ok e
theorem q8S{kvs:List (Key×V)}(ok:HOk P w H h)(e:H a=some (.dK kvs)):kvs.length≤sizeLine∧(a==sysModules)=false∧∃vs,KV kvs vs∧h.DictOf (jZ P w) a vs:=qAN ok (.inl e)
theorem q9A{ks:List Key}(ok:HOk P w H h)(e:H a=some (.tup (ks.map kV))):(tupleKind (jZ P w)).is h ks a:=by
 obtain⟨_,its,r,o,h1,h2,n,h3⟩:=(show jN P w H h a (.tup (ks.map kV))from ok a _ e)
 exact⟨o,its.toArray,n,h1,h2,h3,by simpa using q8R r⟩
theorem qAO{kvs:List (List Key×V)}(ok:HOk P w H h)(e:Rd H a (.dT kvs)):kvs.length≤sizeLine∧(a==sysModules)=false∧
 ∃xs,KT H kvs xs∧h.DictOfH (tupleKind (jZ P w)) a xs:=by
 obtain⟨z,y,xs,r,o,es,ep,h1,h2,h3,h4,h5⟩:=(show jN P w H h a (.dT kvs)from qI5 ok e)
 refine⟨z,y,xs,r,o,es,ep,h1,h2,h3,h4,λx hx=>?_,h5⟩
 have all:∀{l:List (List Key×V)} {m:List (List Key×Addr×Value)},KT H l m→∀x∈m,(tupleKind (jZ P w)).is h x.1 x.2.1:=by
  intro l m q
  induction q with
  |nil=>intro x hx;exact nomatch hx
  |@cons p q ps qs hq t ih=>
   intro x hx
   rcases kI.mp hx with e|hx
   ·subst e
    exact q9A ok (by rw[←hq.1];exact hq.2.1)
   ·exact ih x hx
 exact all r x hx
theorem qKO{kvs:List (List Key×V)}(ok:HOk P w H h)(e:H a=some (.dT kvs)):kvs.length≤sizeLine∧(a==sysModules)=false∧
 ∃xs,KT H kvs xs∧h.DictOfH (tupleKind (jZ P w)) a xs:=qAO ok (.inl e)
end
noncomputable def DGet(H:Hp)(a:Addr)(y:V)(r:Option V):Prop:=
 (∃kvs k,Rd H a (.dK kvs)∧y=kV k∧r=valV kvs k)∨∃kvs k b,Rd H a (.dT kvs)∧y=.ref b∧H b=some (.tup (k.map kV))∧r=valV kvs k
noncomputable def DPut(H:Hp)(a:Addr)(y v:V)(H':Hp):Prop:=
 (∃kvs k,H a=some (.dK kvs)∧y=kV k∧kvs.length<sizeLine∧H'=upd H a (.dK (putK kvs k v)))∨
 ∃kvs k b,H a=some (.dT kvs)∧y=.ref b∧H b=some (.tup (k.map kV))∧kvs.length<sizeLine∧H'=upd H a (.dT (putK kvs k v))
theorem DGet.k{H:Hp}{a:Addr}{kvs:List (Key×V)}{k:Key}(e:H a=some (.dK kvs)):DGet H a (kV k) (valV kvs k):=.inl ⟨kvs,k,.inl e,rfl,rfl⟩
theorem DPut.k{H:Hp}{a:Addr}{kvs:List (Key×V)}{k:Key}{v:V}(e:H a=some (.dK kvs))(hl:kvs.length<sizeLine):DPut H a (kV k) v (upd H a (.dK (putK kvs k v))):=.inl ⟨kvs,k,e,rfl,hl,rfl⟩
section
variable{X:Cx}{pins:List (Addr×Obj)}{σ:St}{H:Hp}{s:Shared}{a:Addr}{y v:V}{u r:Value}{o:Option V}{A:Around}{E:Value→Shared→Prop}
theorem Inv.big(I:Inv X pins σ H s):sysModules<s.heap.objs.size:=by
 have h:mainGlobals<s.heap.objs.size:=(I.mod.glob.keeps I.bk).lt
 exact Nat.lt_trans (by decide) h
theorem q8T{Q:Value→Shared→Prop}(hu:A.units+1<cLine)(I:Inv X pins σ H s)(g:DGet H a y (some v))(ry:RelV y u)(h:∀w' s',Inv X pins σ H s'→RelV v w'→Q w' s'):
 wpAny (model X.prog X.w) A (getItem (.ref a) u) Q E s:=by
 rcases g with⟨kvs,k,e,ey,l⟩|⟨kvs,k,b,e,ey,eb,l⟩
 ·subst ey
  obtain⟨z,hd,vs,rel,dd⟩:=qAN I.hok e
  obtain⟨w',hw,rw'⟩:=RelO.some_of (v:=v) (o:=valueAt vs k) (by rw[l];exact rel.val k)
  exact wpAny_getItem_of (q8Q ry) dd.mapOf hw (h w' _ (I.tok _) rw')
 ·subst ey
  cases(show u=Value.ref b from ry)
  obtain⟨z,hd,xs,rel,dd⟩:=qAO I.hok e
  obtain⟨w',hw,rw'⟩:=RelO.some_of (v:=v) (o:=(atKey xs k).map (·.2)) (by rw[l];exact rel.val k)
  obtain⟨p,hp,hp2⟩:=mF.mp hw
  refine wpAny_getItem_heap (PySem.tupleKind_room_in1 hu) (q9A I.hok eb) dd hp ?_
  rw[hp2]
  exact h w' _ (I.tok _) rw'
theorem d_in{Q:Value→Shared→Prop}(hu:A.units+1<cLine)(I:Inv X pins σ H s)(g:DGet H a y o)(ry:RelV y u)(h:∀s',Inv X pins σ H s'→Q (.bool o.isSome) s'):
 wpAny (model X.prog X.w) A (compareOp .In u (.ref a)) Q E s:=by
 rcases g with⟨kvs,k,e,ey,l⟩|⟨kvs,k,b,e,ey,eb,l⟩
 ·subst ey
  obtain⟨z,hd,vs,rel,dd⟩:=qAN I.hok e
  refine wpAny_in_of (q8Q ry) hd dd.mapOf ?_
  rw[←(rel.val k).isSome_eq,←l]
  exact h _ (I.tok _)
 ·subst ey
  cases(show u=Value.ref b from ry)
  obtain⟨z,hd,xs,rel,dd⟩:=qAO I.hok e
  refine wpAny_in_heap (PySem.tupleKind_room_in1 hu) (q9A I.hok eb) hd dd ?_
  have q:=(rel.val k).isSome_eq
  rw[Option.isSome_map]at q
  rw[←q,←l]
  exact h _ (I.tok _)
theorem q5W{h':Heap}{t':Nat}{ob:HO}(I:Inv X pins σ H s)(mu:Mut (H a))(hs:Heap.SameBut a s.heap h')(he:∃q,h'.get? a=some q)(new:jN X.prog X.w (upd H a ob) h' a ob):
 Inv X pins σ (upd H a ob) { s with heap:=h',toks:=t' }:=
 I.write (x:=a) (e:=a) mu (.inl rfl) (λb q hb z=>(hs.2 b hb).trans z) he new
theorem qC3{P:Program}{w:World}{H':Hp}{h':Heap}{kvs:List (Key×V)}{vs:List (Key×Value)}(z:kvs.length≤sizeLine)(hd:(a==sysModules)=false)(rel:KV kvs vs)(dd:h'.DictOf (jZ P w) a vs):
 jN P w H' h' a (.dK kvs):=⟨z,hd,vs,rel,dd⟩
theorem q8U{H':Hp}{Q:Unit→Shared→Prop}(hu:A.units+1<cLine)(I:Inv X pins σ H s)(g:DPut H a y v H')(ry:RelV y u)(rv:RelV v r)(h:∀s',Inv X pins σ H' s'→Q () s'):
 wpAny (model X.prog X.w) A (setItem (.ref a) u r) Q E s:=by
 rcases g with⟨kvs,k,e,ey,l,eH⟩|⟨kvs,k,b,e,ey,eb,l,eH⟩
 ·subst ey eH
  obtain⟨z,hd,vs,rel,dd⟩:=q8S I.hok e
  have hz:vs.length≤sizeLine:=by rw[←rel.length];exact z
  have hl:(putK kvs k v).length≤sizeLine:=by have:=q24 kvs k v;omega
  refine wpAny_setItem_pairs (hsz:=hz) (q8Q ry) dd λh' dd' hs=>h _ ?_
  have he:∃q,h'.get? a=some q:=let⟨q,_,_,hq,_⟩:=dd';⟨q,hq⟩
  exact q5W I (by rw[e];exact True.intro) hs he (qC3 hl hd (rel.put k rv) dd')
 ·subst ey eH
  cases(show u=Value.ref b from ry)
  obtain⟨z,hd,xs,rel,dd⟩:=qKO I.hok e
  have hz:xs.length≤sizeLine:=by rw[←Paired.length rel];exact z
  have hl:(putK kvs k v).length≤sizeLine:=by have:=q24 kvs k v;omega
  refine wpAny_setItem_heap (hsz:=hz) (PySem.tupleKind_room_in1 hu) (q9A I.hok eb) dd λh' dd' hs=>h _ ?_
  obtain⟨q,es,ep,hq,h2,h3,h4,_,h5⟩:=dd'
  refine q5W I (by rw[e];exact True.intro) hs ⟨q,hq⟩ ⟨hl,hd,_,(rel.put k eb rv).keeps λc ys ec=>?_,q,es,ep,hq,h2,h3,h4,h5⟩
  rw[qD (jV ec e (λz=>nomatch z))]
  exact ec
end
section
variable{X:Cx}{pins:List (Addr×Obj)}{σ:St}{H:Hp}{s:Shared}{a:Addr}{kvs:List (Key×V)}{k:Key}{u:Value}{A:Around}{E:Value→Shared→Prop}
theorem qKP{v:V}{more:List Value}{Q:Value→Shared→Prop}(I:Inv X pins σ H s)(e:H a=some (.dK kvs))(ry:RelV (kV k) u)(l:valV kvs k=some v)(hm:more=[]∨∃x,more=[x])
 (h:∀w' s',Inv X pins σ (upd H a (.dK (q6F kvs k))) s'→RelV v w'→Q w' s'):wpAny (model X.prog X.w) A (call (.builtin "dict.pop") (.ref a::u::more)) Q E s:=by
 obtain⟨z,hd,vs,rel,dd⟩:=q8S I.hok e
 obtain⟨w',hw,rw'⟩:=RelO.some_of (v:=v) (o:=valueAt vs k) (by rw[←l];exact rel.val k)
 have hp:(keyPart u).isSome=true:=by
  cases k with
  |inl i=>obtain⟨t,q⟩:=(show ∃t,u=Value.int i t from ry);subst q;rfl
  |inr x=>obtain⟨t,q⟩:=(show ∃t,u=Value.str x t from ry);subst q;rfl
 have ha:argsOk "dict.pop" ⟨.ref a::u::more,[]⟩:=by
  rcases hm with q|⟨x,q⟩
  ·subst q;exact PySem.F.args_dict_pop_2 _ _
  ·subst q;exact PySem.F.args_dict_pop_3 _ _ _
 refine call_meetsIn PySem.F.slot_dict_pop dd.typeIs PySem.F.entry_dict_pop ha (meets_dict_pop_there (jZ X.prog X.w) a (q8Q ry) more hm hp)
  ⟨vs,w',dd,by rw[←rel.length];exact z,hw,λh' dd' hs=>h w' _ ?_ rw'⟩
 have he:∃q,h'.get? a=some q:=let⟨q,_,_,hq,_⟩:=dd';⟨q,hq⟩
 exact q5W I (by rw[e];exact True.intro) hs he (qC3 (mD (qF8 kvs k) z) hd (rel.drop k) dd')
end
noncomputable def NoSl(i:Expr):Prop:=∀ov iv,subscripted i false ov iv=operate [ov,iv] (getItem ov iv)
theorem qGW{prog:Program}{w:World}{A:Around}{E:Value→Shared→Prop}{s:Shared}{env:Env}{value slice:Expr}{pos:Pos}{T id:String}{Q:Value→Shared→Prop}
 (hl:typeLookup (.type T) "__getitem__"=pure (some (.builtin id))) (hs:NoSl slice)
 (h:wpAny (model prog w) A (eval value env) (λo s₁=>wpAny (model prog w) A (eval slice env) (λi s₂=>s₂.TypeIs o T∧wpAny (model prog w) A (getItem o i) Q E s₂) E s₁) E s):
 wpAny (model prog w) A (eval (.Subscript value slice pos) env) Q E s:=by
 refine Subscript_ (dY h (λo s₁ h₁=>dY h₁ (λi s₂ h₂=>?_) λ_ _ x=>x) λ_ _ x=>x)
 obtain⟨hT,h₂⟩:=h₂
 unfold subscriptTail
 refine kD ?_
 rw[getitemInPython_of_ne hT.not_modules]
 refine kD (wpAny_specialOf hT hl ?_)
 have fin:wpAny (model prog w) A (subscripted slice false o i) (λr s₃=>wpAny (model prog w) A (letTemporaryGo value o r >>= λ_=>pure r) Q E s₃) E s₂:=by
  rw[hs o i]
  exact wpAny_operating (dY h₂ (λr s₃ h₃=>kD (wpAny_letTemporaryGo (kZ h₃))) λ_ _ x=>x)
 first
  |exact kZ (kD fin)
  |exact kD (kZ (kD fin))
  |exact kD fin
theorem qAP{X:Cx}{pins:List (Addr×Obj)}{σ:St}{H:Hp}{s:Shared}{a:Addr}{y:V}{o:Option V}(I:Inv X pins σ H s)(g:DGet H a y o):s.TypeIs (.ref a) "dict":=by
 rcases g with⟨kvs,k,e,_,_⟩|⟨kvs,k,b,e,_,_,_⟩
 ·obtain⟨_,_,vs,_,dd⟩:=qAN I.hok e
  exact dd.typeIs
 ·obtain⟨_,_,xs,_,dd⟩:=qAO I.hok e
  exact dd.typeIs
noncomputable def qKQ(td ty:TE):TE:=λσ H Q=>td σ H λx H1=>ty σ H1 λy H2=>∃a v,x=.ref a∧DGet H2 a y (some v)∧Q v H2
noncomputable def tDIn(ty td:TE):TE:=λσ H Q=>ty σ H λy H1=>td σ H1 λx H2=>∃a o,x=.ref a∧DGet H2 a y o∧Q (.bl o.isSome) H2
noncomputable def qKR(td ty tv:TE):TS:=λD σ H=>tv σ H λv H1=>td σ H1 λx H2=>ty σ H2 λy H3=>∃a H4,x=.ref a∧DPut H3 a y v H4∧D.nx σ H4
noncomputable def qKS(td ty tv:TE)(rd:V→V→Hp→VK→Prop):TS:=λD σ H=>td σ H λx H1=>ty σ H1 λy H2=>∃a v,x=.ref a∧DGet H2 a y (some v)∧
 tv σ H2 λy2 H3=>rd v y2 H3 λz H4=>∃H5,DPut H4 a y z H5∧D.nx σ H5
section
variable{X:Cx}{o i e value:Expr}{pos pos' tpos:Pos}{td ty tv:TE}
theorem jS(hu:X.A.units+1<cLine)(ho:PE X o td)(hi:PE X i ty)(hs:NoSl i):PE X (.Subscript o i pos) (qKQ td ty):=by
 intro pins s σ H Q I h
 refine qGW PySem.F.slot_dict_getitem.lookup hs (thn (ho pins s σ H _ I h) λu s1 ⟨x,H1,I1,rx,q1⟩=>thn (hi pins s1 σ H1 _ I1 q1) λiv s2 hZ=>?_)
 obtain⟨y,H2,I2,ry,a,v,ex,g,q2⟩:=hZ
 subst ex
 obtain rfl:u=Value.ref a:=rx
 exact⟨qAP I2 g,q8T hu I2 g ry λw' s3 I3 rw'=>⟨v,H2,I3,rw',q2⟩⟩
theorem qF9(hu:X.A.units+1<cLine)(hi:PE X i ty)(ho:PE X o td):PC X .In i o (tDIn ty td):=by
 intro pins s σ H Q I h
 refine thn (hi pins s σ H _ I h) λiv s1 ⟨y,H1,I1,ry,q1⟩=>thn (ho pins s1 σ H1 _ I1 q1) λu s2 hZ=>?_
 obtain⟨x,H2,I2,rx,a,ov,ex,g,q2⟩:=hZ
 subst ex
 obtain rfl:u=Value.ref a:=rx
 exact d_in hu I2 g ry λs3 I3=>⟨.bl ov.isSome,H2,I3,rfl,q2⟩
theorem qCX(hu:X.A.units+1<cLine)(ho:PE X o td)(hi:PE X i ty)(hv:PE X value tv)(hs:swapsWith value (some (.Subscript o i pos')) pos.line X.env=pure false):
 PS X (.Assign [.Subscript o i pos'] value pos) (qKR td ty tv):=by
 intro pins s σ H D I h
 refine wpAny_Assign_Subscript (thn (hv pins s σ H _ I h) λr s1 ⟨v,H1,I1,rv,q1⟩=>thn (ho pins s1 σ H1 _ I1 q1) λu s2 ⟨x,H2,I2,rx,q2⟩=>thn (hi pins s2 σ H2 _ I2 q2) λiv s3 hZ=>?_) hs
 obtain⟨y,H3,I3,ry,a,H4,ex,g,q3⟩:=hZ
 subst ex
 obtain rfl:u=Value.ref a:=rx
 exact q8U hu I3 g ry rv λs4 I4=>⟨σ,H4,I4,q3⟩
theorem qGX{op:Operator}{rd:V→V→Hp→VK→Prop}(hu:X.A.units+1<cLine)(ho:PE X o td)(hi:PE X i ty)(hv:PE X value tv)(hop:InOp X op rd)
 (ha:∀ov iv new,augStore i ov iv new=(do holding [new,ov,iv] (setItem ov iv new);release [new,ov,iv] [];pure .next)):PS X (.AugAssign (.Subscript o i tpos) op value pos) (qKS td ty tv rd):=by
 intro pins s σ H D I h
 refine wpAny_AugAssign_SubscriptAny (thn (ho pins s σ H _ I h) λu s1 ⟨x,H1,I1,rx,q1⟩=>thn (hi pins s1 σ H1 _ I1 q1) λiv s2 hZ=>?_) ha
 obtain⟨y,H2,I2,ry,a,v,ex,g,q2⟩:=hZ
 subst ex
 obtain rfl:u=Value.ref a:=rx
 refine q8T hu I2 g ry λw' s3 I3 rw'=>thn (hv pins s3 σ H2 _ I3 q2) λw2 s4 ⟨y2,H3,I4,ry2,q3⟩=>thn (hop pins s4 σ H3 v y2 w' w2 _ I4 rw' ry2 q3) λw3 s5 hZ=>?_
 obtain⟨z,H4,I5,rz,H5,g5,q4⟩:=hZ
 exact q8U hu I5 g5 ry rz λs6 I6=>⟨σ,H5,I6,q4⟩
end
theorem qAQ{P:Program}{w:World}{H:Hp}(h:Heap)(hb:sysModules<h.objs.size):jN P w H (h.push { cls:=.type "dict",data:=.dict #[] }) h.objs.size (.dK []):=
 ⟨mN _,beq_eq_false_iff_ne.mpr (Ne.symm (mM hb)),[],.nil,Heap.DictOf.new h⟩
noncomputable def qIR:TE:=λ_ H Q=>∀p,H p=none→Q (.ref p) (upd H p (.dK []))
section
variable{X:Cx}{pos:Pos}
theorem q6G:PE X (.Dict [] [] pos) qIR:=λpins s σ H Q I h=>
 wpAny_Dict_empty ⟨.ref s.heap.objs.size,_,I.laid (a:=s.heap.objs.size) (o:=.dK []) (t':=s.toks) (λ_ _ q=>hZ _ q) (kM _) (qAQ s.heap I.big),rfl,h _ (I.hok.fresh (kM _))⟩
end
noncomputable def qC4:List (TE×TE)→St→Hp→(List (V×V)→Hp→Prop)→Prop
 | [],_,H,Q=>Q [] H
 |(tk,tv)::r,σ,H,Q=>tk σ H λx H1=>tv σ H1 λy H2=>qC4 r σ H2 λps H3=>Q ((x,y)::ps) H3
noncomputable abbrev VV:List (V×V)→List (Value×Value)→Prop:=Paired λp q=>RelV p.1 q.1∧RelV p.2 q.2
noncomputable def PPs(X:Cx)(pos:Pos)(keys:List (Option Expr))(values:List Expr)(trs:List (TE×TE)):Prop:=
 ∀(pins:List (Addr×Obj)) (s:Shared) (σ:St) (H:Hp) (Q:List (V×V)→Hp→Prop),Inv X pins σ H s→qC4 trs σ H Q→
  wpAny (model X.prog X.w) X.A (evalPairs (pairTrees keys values X.env pos)) (λvs s'=>∃ps H',Inv X pins σ H' s'∧VV ps vs∧Q ps H') X.xe s
theorem qGY{X:Cx}{pos:Pos}:PPs X pos [] [] []:=λpins s σ H Q I h=>pairTrees_nil_walk ⟨[],H,I,.nil,h⟩
theorem q25{X:Cx}{pos:Pos}{k v:Expr}{ks:List (Option Expr)}{vs:List Expr}{tk tv:TE}{trs:List (TE×TE)}(hk:PE X k tk)(hv:PE X v tv)(hr:PPs X pos ks vs trs):
 PPs X pos (some k::ks) (v::vs) ((tk,tv)::trs):=λpins s σ H Q I h=>
 pairTrees_cons_walk (thn (hk pins s σ H _ I h) λu s1 ⟨x,H1,I1,rx,q1⟩=>thn (hv pins s1 σ H1 _ I1 q1) λw2 s2 ⟨y,H2,I2,ry,q2⟩=>
  thn (hr pins s2 σ H2 _ I2 q2) λws s3 ⟨ps,H3,I3,rel,q3⟩=>⟨(x,y)::ps,H3,I3,.cons ⟨rx,ry⟩ rel,q3⟩)
noncomputable def q6H(kvs more:List (Key×V)):List (Key×V):=more.foldl (λacc kv=>putK acc kv.1 kv.2) kvs
theorem KV.merge:∀{more:List (Key×V)} {rs:List (Key×Value)} {kvs:List (Key×V)} {vs:List (Key×Value)},KV more rs→KV kvs vs→KV (q6H kvs more) (merged vs rs):=by
 intro more rs kvs vs r
 unfold KV at r
 induction r generalizing kvs vs with
 |nil=>intro q;exact q
 |@cons p q ps qs h t ih=>
  intro r0
  have e:KV (putK kvs p.1 p.2) (stored vs q.1 q.2):=by
   have:=r0.put p.1 h.2
   rw[←h.1];exact this
  exact ih e
theorem q3C:∀(more kvs:List (Key×V)),(q6H kvs more).length≤kvs.length+more.length
 | [],kvs=>by show kvs.length≤kvs.length+0;omega
 |p::r,kvs=>by
  have h1:=q3C r (putK kvs p.1 p.2)
  have h2:=q24 kvs p.1 p.2
  show(q6H (putK kvs p.1 p.2) r).length≤_
  rw[mP];omega
theorem q6I{P:Program}{w:World}:∀{kvs:List (Key×V)} {ws:List (Value×Value)},VV (kvs.map λkv=>(kV kv.1,kv.2)) ws→∃rs,Carries (jZ P w) ws rs∧KV kvs rs
 | [],_,r=>by rw[List.map_nil]at r;cases r;exact⟨[],True.intro,.nil⟩
 |p::kvs,_,r=>by
  rw[mJ]at r
  cases r with
  |@cons a b as bs h t=>
   obtain⟨rs,c,q⟩:=q6I (P:=P) (w:=w) t
   obtain⟨b1,b2⟩:=b
   exact⟨(p.1,b2)::rs,⟨q8Q h.1,rfl,c⟩,.cons ⟨rfl,h.2⟩ q⟩
noncomputable def qKT(trs:List (TE×TE)):TE:=λσ H Q=>∀p,H p=none→qC4 trs σ (upd H p (.dK [])) λps H2=>H2 p=some (.dK [])∧∃kvs:List (Key×V),ps=kvs.map (λkv=>(kV kv.1,kv.2))∧kvs.length≤15∧Q (.ref p) (upd H2 p (.dK (q6H [] kvs)))
theorem qGZ{X:Cx}{pos:Pos}{keys:List (Option Expr)}{values:List Expr}{trs:List (TE×TE)}(h:PPs X pos keys values trs)(hall:keys.all (·.isSome)=true)(hl:keys.length=values.length)(h0:keys≠[])
 (h15:keys.length≤15):PE X (.Dict keys values pos) (qKT trs):=by
 intro pins s σ H Q I q
 have hn:=I.hok.fresh (kM s.heap.objs.size)
 have I1:=I.laid (a:=s.heap.objs.size) (o:=.dK []) (h':=s.heap.push { cls:=.type "dict",data:=.dict #[] }) (t':=s.toks) (λ_ _ q=>hZ _ q) (kM _) (qAQ s.heap I.big)
 refine wpAny_Dict_walk (knd:=jZ X.prog X.w) hall hl h0 h15 (thn (h pins _ σ _ _ I1 (q _ hn)) λws s2 hZ=>?_)
 obtain⟨ps,H2,I2,rel,e,kvs,ep,lk,q2⟩:=hZ
 subst ep
 obtain⟨rs,c,rk⟩:=q6I (P:=X.prog) (w:=X.w) rel
 obtain⟨z,hd,vs0,r0,dd⟩:=q8S I2.hok e
 cases r0
 refine⟨rs,c,dd,λh' dd' hs=>⟨.ref s.heap.objs.size,_,?_,rfl,q2⟩⟩
 have hz:(q6H [] kvs).length≤sizeLine:=by
  have h1:=q3C kvs []
  rw[List.length_nil]at h1
  rw[gD];omega
 have he:∃q,h'.get? s.heap.objs.size=some q:=let⟨q,_,_,hq,_⟩:=dd';⟨q,hq⟩
 exact q5W I2 (by rw[e];exact True.intro) hs he (qC3 hz hd (rk.merge .nil) dd')
structure M1(X:Cx)(o:Expr)(m:Str)(apos:Pos)(e:Expr)(cpos:Pos):Prop where
 base:attributeBase o m X.env (eval o X.env)=eval o X.env
 few:((backTo cpos (starEach [e] X.env)).all (λx=>!x.1)&&(backToKw cpos (keywordEach [] X.env)).all (λx=>x.1.isSome)
  &&decide (([e]:List Expr).length+([]:List Keyword).length+(if([]:List Keyword).isEmpty then 0 else 1)<30))=true
 line:(apos.endLine==cpos.line)=true
 trees:backTo cpos (starEach [e] X.env)=[(false,eval e X.env)]
noncomputable def IsD(H:Hp)(a:Addr):Prop:=(∃kvs,Rd H a (.dK kvs))∨∃kvs,Rd H a (.dT kvs)
theorem qIS{X:Cx}{pins:List (Addr×Obj)}{σ:St}{H:Hp}{s:Shared}{a:Addr}(I:Inv X pins σ H s)(d:IsD H a):
 s.TypeIs (.ref a) "dict"∧(∀b,Value.ref a=.ref b→∃ob,s.heap.get? b=some ob∧ob.dict=none)∧(a==sysModules)=false:=by
 rcases d with⟨kvs,e⟩|⟨kvs,e⟩
 ·obtain⟨_,hd,vs,_,dd⟩:=qAN I.hok e
  refine⟨dd.typeIs,λb q=>?_,hd⟩
  cases q
  obtain⟨ob,_,_,h1,h2,_⟩:=dd
  exact⟨ob,h1,h2.2.1⟩
 ·obtain⟨_,hd,xs,_,dd⟩:=qAO I.hok e
  refine⟨dd.typeIs,λb q=>?_,hd⟩
  cases q
  obtain⟨ob,_,_,h1,h2,_⟩:=dd
  exact⟨ob,h1,h2.2.1⟩
noncomputable def qIT(td ty:TE):TE:=λσ H Q=>td σ H λx H1=>∃a,x=.ref a∧IsD H1 a∧ty σ H1 λy H2=>∃kvs k v,H2 a=some (.dK kvs)∧y=kV k∧valV kvs k=some v∧Q v (upd H2 a (.dK (q6F kvs k)))
section
variable{X:Cx}{o e f:Expr}{apos cpos:Pos}{td ty tx:TE}
theorem qFA(ho:PE X o td)(he:PE X e ty)(m:M1 X o "pop" apos e cpos):PE X (.Call (.Attribute o "pop" apos) [e] [] cpos) (qIT td ty):=by
 intro pins s σ H Q I h
 refine wpAny_Call_method m.base m.few m.line PySem.F.plainAttrs_dict PySem.F.slot_dict_pop PySem.F.type_dict_pop (thn (ho pins s σ H _ I h) λu s1 hZ=>?_)
 obtain⟨x,H1,I1,rx,a,ex,d,q1⟩:=hZ
 subst ex
 obtain rfl:u=Value.ref a:=rx
 obtain⟨t1,t2,_⟩:=qIS I1 d
 refine⟨t1,t2,?_⟩
 rw[m.trees]
 refine PySem.Calls.callWith_builtin rfl (PySem.Calls.evalArgs_plain (Calls.spliced_cons (thn (he pins s1 σ H1 _ I1 q1) λiv s2 ⟨y,H2,I2,ry,kvs,k,v,ea,ey,l,q2⟩=>Calls.spliced_nil ?_)))
 subst ey
 exact qKP I2 ea ry l (.inl rfl) λw' s3 I3 rw'=>⟨v,_,I3,rw',q2⟩
end
end L2
namespace Att
open PySem PySem.W PySem.Calls PyProof.Rows
theorem q5E{P:Params}{h:Heap}:∀(ns:List Int) (vs:List Value),WellAll P h vs (ns.map WData.int)→IntsAre vs ns:=by
 intro ns
 induction ns with
 |nil=>
  intro vs w
  rw[List.map_nil]at w
  cases w
  exact .nil
 |cons n ns ih=>
  intro vs w
  rw[mJ]at w
  cases w with
  |cons a b=>
   cases a
   exact .cons _ _ (ih _ b)
theorem qDZ{l:OpenLaw}{n:Nat}(hn:l.most=some n){P:Params}{h:Heap}{args:List WData}{vals:List Value}
 (hpre:l.row.toRowW.claim.pre args=true) (hwl:WellAll P h vals args):
 ∃a vs ns,vals=[Value.ref a]∧args=[WData.list (ns.map WData.int)]∧h.get? a=some { cls:=.type "list",data:=.seq vs.toArray }∧IntsAre vs ns∧ns.length≤n:=by
 have hsh:WShape.hasAll [] args [.list .int]=true:=(pre_splitW hpre).1
 have hc:l.pre.holds [] { args:=args } =true:=(pre_splitW hpre).2
 obtain⟨d,r,rfl,h1,h2⟩:=hasAllW_cons hsh
 obtain rfl:=hasAllW_nil h2
 obtain⟨xs,rfl,h3⟩:=hasW_list h1
 obtain⟨ns,rfl⟩:=items_int h3
 have hlen:ns.length≤n:=by
  unfold OpenLaw.pre at hc
  have h4:(WTm.not (.lt (.lit (.int (n:Int))) (.len (.arg 0)))).holds [] { args:=[.list (ns.map .int)] } =true:=by
   have h4:=(holds_andW hc).1
   rw[hn]at h4
   exact h4
  have h5:=condW_of h4 (w_not (w_lt w_lit (w_len_list (w_arg rfl))))
  rw[hC]at h5
  refine Nat.le_of_not_lt λq=>?_
  have q':(n:Int)<((ns.length:Nat):Int):=by omega
  first
   |(rw[hI q']at h5;exact absurd h5 (by decide))
   |(simp at h5;omega)
 cases hwl with
 |cons w1 w2=>
  cases w2
  cases w1 with
  |list ho hall=>exact⟨_,_,ns,rfl,rfl,ho,q5E ns _ hall,hlen⟩
theorem qE0(l:OpenLaw)(args:List WData):l.row.toRowW.claim.post args (.bool true) args=true:=
 postW_of (r:=l.row.toRowW) (X:=(true==true))
  (show WShape.has [] (.bool true) .bool=true by first|rfl|decide|simp[WShape.has,WShape.arms,WShape.armsAll])
  (show(WTm.eq .res (.lit (.bool true))).value [] { args:=args,res:=some (.bool true),after:=args } =some (.bool (true==true))from w_eq_bool (w_res rfl) w_lit) rfl
theorem attach_call{l:OpenLaw}{n:Nat}{q:Program}{loose:List Str}{XP:(Str→Option Value)→Heap→Prop}{YP:World→Heap→Prop}{d:DefRec}
 (hn:l.most=some n) (hdf:d.params.defaults=[])
 (call:∀(w:World) (s₀ s₁:Shared) (mg mb:Str→Option Value) (fa:Addr) (o:Obj) (pm cd doc:Value) (a:Addr) (vs:List Value) (ns:List Int),
  Ground q loose [] XP w s₀ mg mb s₁.heap→YP w s₁.heap→
  s₁.heap.get? fa=some o→o.data=.func (docDef d.name d.params d.body d.scope pm cd doc)→s₁.heap.CodeRec cd d.name→mg d.name=some (.ref fa)→
  s₁.heap.get? a=some { cls:=.type "list",data:=.seq vs.toArray }→IntsAre vs ns→ns.length≤n→s₁.gens=#[]→
  codeAny (model l.prog w) callerA (.call (.ref fa) ⟨[.ref a],[]⟩) (λr s'=>r=.ok (.ret (.bool true))∧OldK s₁.heap s'.heap∧s'.os=s₁.os∧AllBare s'.gens) s₁):
 WalkO q loose XP YP l.row.toRowW d [] (λf vs=>PySem.call f vs):=by
 intro w s₀ s₁ mg mb G Y fa o pm cd doc dV kV ho hd hcd hD hmg hg args vals as hpre hlay hrd hwl hlo
 obtain rfl:dV=.none:=Dflts.none hD hdf
 obtain rfl:kV=.none:=Dflts.noKw hD
 obtain⟨a,vs,ns,rfl,rfl,hobj,hints,hlen⟩:=qDZ hn hpre hwl
 refine enter_call (PySem.codeAny_mono (call w s₀ s₁ mg mb fa o pm cd doc a vs ns G Y ho (fd_plain hd) hcd hmg hobj hints hlen hg) λr s' hq=>?_)
 obtain⟨rfl,h2,h3,h4⟩:=hq
 exact⟨.inl ⟨.bool true,.bool true,[],rfl,λ_=>rfl,.bool true,qE0 l _,λ_=>⟨List.Pairwise.nil,λ_ hm=>(nomatch hm)⟩⟩,h2,h3,h4⟩
end Att
namespace L2
open PySem PySem.Spec PyProof.Rows
theorem q8V:∀{vs:List Value} {ns:List Int},IntsAre vs ns→Vals (ns.map V.int) vs
 |_,_,.nil=>.nil
 |_,_,.cons n t h=>.cons ⟨t,rfl⟩ (q8V h)
noncomputable def qO(s:Stmt)(j:Nat):Stmt:=match s with
 | .ClassDef _ _ _ body _ _ _ _ _ _ _=>body.getD j (.Pass ⟨0,0,0,0⟩)
 |_=>.Pass ⟨0,0,0,0⟩
noncomputable def yK(s:Stmt):Arguments:=match s with
 | .FunctionDef _ a _ _ _ _ _ _ _ _=>a
 |_=>{ posonlyargs:=[],args:=[],vararg:=none,kwonlyargs:=[],kw_defaults:=[],kwarg:=none,defaults:=[] }
noncomputable def yD(s:Stmt):List Stmt:=match s with
 | .FunctionDef _ _ b _ _ _ _ _ _ _=>b
 |_=>[]
noncomputable def qF(s:Stmt):Scope:=match s with
 | .FunctionDef _ _ _ _ _ _ sc _ _ _=>sc
 |_=>{ kind:=.function,names:=[],isGenerator:=false,isCoroutine:=false }
noncomputable abbrev CX0:CXT:=λ_ _ _ _ _ _=>False
noncomputable abbrev E0:XK:=λ_ _ _=>False
theorem qK{X:Cx}:q07 CX0 X E0:=λ_ _ _ _ _ _ _ h=>h.elim
theorem q1X{A:Around}{k:Nat}(hr:Room k A):A.units+1<cLine:=Nat.lt_of_le_of_lt (Nat.add_le_add_left (by decide:1≤64) _) hr.units
section
variable{X:Cx}
theorem pv(i:Nat){x:Str}{pos:Pos}(hN:X.N[i]?=some x:=by rfl)(hv:Vis X.env.scope x:=by first|exact Or.inl rfl|exact Or.inr (Or.inl rfl)|exact Or.inr (Or.inr rfl))(hd:(x==("__debug__":Str))=false:=by decide)
 (hcd:(x==("__classdict__":Str))=false:=by decide):PE X (.Name x pos) (tVar i):=qIH hN hv hd hcd
end
theorem iteF{A B:Prop}(h:B):if false=true then A else B:=by
 rw[hX kJ]
 exact h
theorem iteT{A B:Prop}(h:A):if true=true then A else B:=by
 rw[kG rfl]
 exact h
theorem ite2{c A B:Prop}[Decidable c](h1:c→A)(h2:¬c→B):if c then A else B:=by
 by_cases h:c
 ·rw[kG h]
  exact h1 h
 ·rw[hX h]
  exact h2 h
noncomputable def Same(H H':Hp):Prop:=∀b o,H b=some o→H' b=some o
theorem Same.refl(H:Hp):Same H H:=λ_ _ h=>h
theorem Same.trans{H H1 H2:Hp}(a:Same H H1)(b:Same H1 H2):Same H H2:=λc o h=>b c o (a c o h)
theorem Same.free{H H':Hp}(e:Same H H'){l:Addr}(h:H' l=Option.none):H l=Option.none:=by
 cases q:H l with
 |none=>rfl
 |some o=>
  rw[e l o q]at h
  cases h
theorem Same.seq{K:PySem.W.Frag}{H H':Hp}{a:Addr}{xs:List V}(e:Same H H')(h:SqL K H a xs):SqL K H' a xs:=by
 rcases h with(h|⟨o,h⟩)|h
 ·exact .inl (.inl (e _ _ h))
 ·exact .inl (.inr ⟨o,e _ _ h⟩)
 ·exact .inr h
section
variable{X:Cx}
theorem q0W:PGet X (rIxL X.K):=by
 intro pins s σ H o i ov iv Q I ro ri h
 obtain⟨p,xs,k,z,rfl,rfl,hq,he,q⟩:=h
 cases ro
 obtain⟨t,rfl⟩:=ri
 obtain⟨its,r,pl,hz⟩:=I.list hq
 obtain⟨j,h1,h2,h3,h4,h5⟩:=q95 he
 obtain⟨w,ew,rw'⟩:=r.get h2
 have hl:=r.length
 have hn:=q68
 have fin:EP X pins σ Q w s:=⟨z,H,I,rw',q⟩
 by_cases h0:0≤k
 ·have hj:k.toNat=j:=by
   rw[seqIndex_of h0 h5]at h1
   exact kF h1
  exact wpAny_getItem_list pl.isList h0 (by omega) (by rw[hj];simpa using ew) fin
 ·have hj:(k+(its.toArray.size:Int)).toNat=j:=by
   rw[seqIndex_neg (by omega) h4]at h1
   rw[kQ,←hl]
   exact kF h1
  exact wpAny_getItem_list_neg pl.isList (by omega) (by rw[kQ]<;>omega) (by omega) (by rw[hj];simpa using ew) fin
end
noncomputable def isW:V→Bool
 | .int _=>true
 |_=>false
noncomputable def isI:V→Bool
 | .int _=>true
 | .bl _=>true
 |_=>false
noncomputable def isB:V→Bool
 | .bl _=>true
 |_=>false
noncomputable def isS:V→Bool
 | .str _=>true
 |_=>false
inductive Knd(H:Hp):V→Prop where
 |non:Knd H .non
 |bl (b:Bool):Knd H (.bl b)
 |int (i:Int):Knd H (.int i)
 |str (x:Str):Knd H (.str x)
 |lst {a:Addr} {xs:List V} (e:H a=some (.lst xs)):Knd H (.ref a)
 |tup {a:Addr} {xs:List V} (e:H a=some (.tup xs)):Knd H (.ref a)
section
variable{K:PySem.W.Frag}{H:Hp}{x:V}
theorem qIU:PySem.W.kitOne K (.type "NoneType") (.type "int")=some false:=by kernel_rfl
theorem qIV:PySem.W.kitOne K (.type "bool") (.type "int")=some true:=by kernel_rfl
theorem qIW:PySem.W.kitOne K (.type "int") (.type "int")=some true:=by kernel_rfl
theorem qIX:PySem.W.kitOne K (.type "str") (.type "int")=some false:=by kernel_rfl
theorem qIY:PySem.W.kitOne K (.type "list") (.type "int")=some false:=by kernel_rfl
theorem qIZ:PySem.W.kitOne K (.type "tuple") (.type "int")=some false:=by kernel_rfl
theorem qJ0:PySem.W.kitOne K (.type "NoneType") (.type "bool")=some false:=by kernel_rfl
theorem qJ1:PySem.W.kitOne K (.type "bool") (.type "bool")=some true:=by kernel_rfl
theorem qJ2:PySem.W.kitOne K (.type "int") (.type "bool")=some false:=by kernel_rfl
theorem qJ3:PySem.W.kitOne K (.type "str") (.type "bool")=some false:=by kernel_rfl
theorem qJ4:PySem.W.kitOne K (.type "list") (.type "bool")=some false:=by kernel_rfl
theorem qJ5:PySem.W.kitOne K (.type "tuple") (.type "bool")=some false:=by kernel_rfl
theorem qJ6:PySem.W.kitOne K (.type "NoneType") (.type "str")=some false:=by kernel_rfl
theorem qJ7:PySem.W.kitOne K (.type "bool") (.type "str")=some false:=by kernel_rfl
theorem qJ8:PySem.W.kitOne K (.type "int") (.type "str")=some false:=by kernel_rfl
theorem qJ9:PySem.W.kitOne K (.type "str") (.type "str")=some true:=by kernel_rfl
theorem qJA:PySem.W.kitOne K (.type "list") (.type "str")=some false:=by kernel_rfl
theorem qJB:PySem.W.kitOne K (.type "tuple") (.type "str")=some false:=by kernel_rfl
theorem qJC:PySem.W.kitOne K (.type "tuple") (.type "tuple")=some true:=by kernel_rfl
theorem qFB:PySem.W.kitOne K (.type "list") (.type "list")=some true:=by kernel_rfl
theorem Knd.ty(k:Knd H x):∃t,TyOf K H x t∧PySem.W.kitOne K t (.type "int")=some (isI x)∧PySem.W.kitOne K t (.type "bool")=some (isB x)∧PySem.W.kitOne K t (.type "str")=some (isS x):=by
 cases k with
 |non=>exact⟨_,.non,qIU,qJ0,qJ6⟩
 |bl b=>exact⟨_,.bl b,qIV,qJ1,qJ7⟩
 |int i=>exact⟨_,.int i,qIW,qJ2,qJ8⟩
 |str y=>exact⟨_,.str y,qIX,qJ3,qJ9⟩
 |lst e=>exact⟨_,.lst e,qIY,qJ4,qJA⟩
 |tup e=>exact⟨_,.tup e,qIZ,qJ5,qJB⟩
theorem qFC(x:V):(if isI x=true then !isB x else false)=isW x:=by cases x<;>rfl
end
theorem Same.upd{H:Hp}{p:Addr}{o:HO}(h:H p=none):Same H (upd H p o):=λb u e=>by
 rw[qD (qI e h)]
 exact e
noncomputable abbrev NewO(H:Hp)(o:HO)(Q:VK):Prop:=∀p H',H p=none→Same H H'→H' p=some o→Q (.ref p) H'
theorem NewO.at{H:Hp}{o:HO}{Q:VK}(q:NewO H o Q)(p:Addr)(n:H p=none):Q (.ref p) (upd H p o):=q p _ n (Same.upd n) qH
section
variable{X:Cx}{e:Expr}{es:List Expr}{t:TA}{pos:Pos}
noncomputable def qKU(t:TA):TE:=λσ H Q=>t σ H λxs H1=>xs.length≤sizeLine∧NewO H1 (.tup xs) Q
noncomputable def qKV(t:TA):TE:=λσ H Q=>t σ H λxs H1=>xs.length≤sizeLine∧NewO H1 (.lst xs) Q
theorem yP{x1}(h:PA X es t):PE X (.Tuple es x1 pos) (qKU t):=by
 intro pins s σ H Q I hq
 refine wpAny_Tuple_spliced (thn (h pos pins s σ H _ I hq) λus s1 ⟨xs,H1,I1,r,z,q⟩=>⟨by rw[←r.length];exact z,?_⟩)
 have hf:H1 s1.heap.objs.size=none:=I1.hok.fresh (kM _)
 refine⟨.ref s1.heap.objs.size,upd H1 s1.heap.objs.size (.tup xs),I1.laid (t':=s1.toks) (λb u e=>hZ _ e) (kM _) ?_,rfl,q.at _ hf⟩
 exact⟨z,us,r,⟨_,mI _ rfl,rfl,_,rfl⟩⟩
theorem jF(h:PA X es t):PE X (.List es pos) (qKV t):=by
 intro pins s σ H Q I hq
 refine wpAny_List_spliced (thn (h pos pins s σ H _ I hq) λus s1 ⟨xs,H1,I1,r,z,q⟩=>⟨by rw[←r.length];exact z,?_⟩)
 have hf:H1 s1.heap.objs.size=none:=I1.hok.fresh (kM _)
 refine⟨.ref s1.heap.objs.size,upd H1 s1.heap.objs.size (.lst xs),I1.laid (t':=s1.toks) (λb u e=>hZ _ e) (kM _) ?_,rfl,q.at _ hf⟩
 exact⟨z,us,0,r,mI _ rfl⟩
noncomputable def qKW:R2:=λx y H Q=>∃l b xs zs,x=.ref l∧y=.ref b∧H l=some (.lst xs)∧H b=some (.lst zs)∧xs.length+zs.length≤sizeLine∧NewO H (.lst (xs++zs)) Q
theorem qH0:OpR X (binaryOp .Add) qKW:=by
 intro pins s σ H x y v u Q I rx ry hZ
 obtain⟨l,b,xs,zs,e1,e2,h1,h2,h3,q⟩:=hZ
 exact qIP pins s σ H x y v u Q I rx ry ⟨l,b,xs,zs,e1,e2,h1,h2,h3,q.at⟩
noncomputable def qKX:R2:=λx y H Q=>∃l k v,x=.ref l∧y=.int k∧H l=some (.lst [v])∧0≤k∧k≤100000∧NewO H (.lst (List.replicate k.toNat v)) Q
theorem qAR{α:Type}(v:α):∀k:Nat,(List.replicate k [v]).flatten=List.replicate k v
 |0=>rfl
 |k+1=>by rw[List.replicate_succ,List.flatten_cons,qAR v k,List.replicate_succ];rfl
theorem q00:OpR X (binaryOp .Mult) qKX:=by
 intro pins s σ H x y v u Q I rx ry hZ
 obtain⟨l,k,z,e1,e2,h1,h2,h3,q⟩:=hZ
 refine qIQ pins s σ H x y v u Q I rx ry ⟨l,k,[z],e1,e2,h1,by omega,by omega,?_,?_⟩
 ·rw[gD,List.length_singleton]
  omega
 ·rw[qAR]
  exact q.at
theorem q08:zY X (.type "list") (λxs H Q=>∃p ys,xs=[.ref p]∧(SqL X.K H p ys∨SqT X.K H p ys)∧NewO H (.lst ys) Q):=by
 intro pins s σ H xs us Q I r hZ
 obtain⟨p,ys,e,h,q⟩:=hZ
 exact q99 pins s σ H xs us Q I r ⟨p,ys,e,h,q.at⟩
end
noncomputable def qCY:Sp:=λvs H Q _=>∃x,vs=[x]∧Knd H x∧Q (.bl (isW x)) H
noncomputable def inB(x:V)(lo hi:Int):Bool:=match x with
 | .int i=>decide (lo≤i)&&decide (i≤hi)
 |_=>false
noncomputable def qFD:Sp:=λvs H Q _=>∃x lo hi,vs=[x,.int lo,.int hi]∧Knd H x∧Q (.bl (inB x lo hi)) H
structure FunD(K:PySem.W.Frag)(x qual:Str)(st:Stmt)(dV:Value)(f:Addr)(fd:FuncData):Prop where
 ex:∃(oc:Value) (od:Option Addr) (kV doc pm:Value) (an:Option Addr) (cdv ct:Value) (osl:Array (Option Value)),
  fd=PySem.W.fnOf x qual (yK st) (yD st) (qF st) dV kV doc pm an cdv ct∧K.lookup f=some ⟨oc,od,.func fd,osl⟩∧PySem.W.codeIn K cdv qual=true
section
variable{P:Program}{w:World}{K:PySem.W.Frag}{mg:Str→Option Value}{base:Heap}{dV:Value}
theorem FunD.mk'{x qual:Str}{st:Stmt}{f:Addr}{oc:Value}{od an:Option Addr}{osl:Array (Option Value)}{kV doc pm cdv ct:Value}(l:K.lookup f=some ⟨oc,od,.func (PySem.W.fnOf x qual (yK st) (yD st) (qF st) dV kV doc pm an cdv ct),osl⟩)
 (c:PySem.W.codeIn K cdv qual=true):FunD K x qual st dV f (PySem.W.fnOf x qual (yK st) (yD st) (qF st) dV kV doc pm an cdv ct):=⟨⟨oc,od,kV,doc,pm,an,cdv,ct,osl,rfl,l,c⟩⟩
theorem FunD.ok0{x qual:Str}{st:Stmt}{f:Addr}{fd:FuncData}{N ps:List Str}{k:Nat}{sp:Sp}(F:FunD K x qual st dV f fd)(S:FnScope N ps (qF st))
 (hbody:∀(cdv:Value) (A:Around) (outer:List Env) (s:Shared) (H:Hp) (vs:List V) (Q:VK) (E:XK),Room k (A.deeper (envOfC qual (qF st) s.heap.objs.size f cdv))→sp vs H Q E→
  ∃t,PSs (cxOf CX0 P w K mg base N qual (qF st) f cdv A outer s H E).nox (yD st) t∧t { nx:=λ_ H'=>Q .non H',rt:=Q } (q1W N vs) H)(len:∀vs H Q E,sp vs H Q E→vs.length=ps.length:=by intro _ _ _ _ h;(repeat obtain⟨_,h⟩:=h);all_goals subst_vars;rfl):FnOk P w K mg base CX0 (k+1) f fd ps sp:=by
 obtain⟨oc,od,kV,doc,pm,an,cdv,ct,osl,rfl,lk,hcd⟩:=F.ex
 refine qI4 lk hcd S len λA outer s H vs Q E hr hsp=>?_
 obtain⟨t,h,q⟩:=hbody cdv A outer s H vs Q E hr hsp
 exact⟨t,h.nox,q⟩
end
noncomputable abbrev bmVE:List Value:=[.type "ValueError",.type "Exception",.type "BaseException",.type "object"]
noncomputable def qKY(ea:Addr)(C:Value)(od:Option Addr):Heap→Prop:=λh=>∃o vs,h.get? ea=some o∧o.cls=C∧o.dict=od∧o.data=.fields vs
noncomputable abbrev XO(ea:Addr)(C:Value)(od:Option Addr):HO:=.ext (qKY ea C od)
noncomputable def NewX(ea:Addr)(C:Value)(od:Option Addr):Heap→Prop:=λh=>∃vs sl,h.get? ea=some ⟨C,od,.fields vs,sl⟩∧1<vs.size∧vs[1]?=some .none
noncomputable abbrev XN(ea:Addr)(C:Value)(od:Option Addr):HO:=.ext (NewX ea C od)
noncomputable def qI6(X:Cx)(pins:List (Addr×Obj))(a:Addr):Prop:=(X.s₀.heap.get? a=none∨a∈X.ex)∧∀p∈X.pn++pins,p.1≠a
section
variable{X:Cx}{pins:List (Addr×Obj)}{σ:St}{H:Hp}{s:Shared}{a:Addr}
theorem Inv.young(I:Inv X pins σ H s)(e:s.heap.get? a=none):qI6 X pins a:=by
 refine⟨?_,λp hp z=>?_⟩
 ·by_cases y:a∈X.ex
  ·exact .inr y
  ·refine .inl ?_
   cases z:X.s₀.heap.get? a with
   |none=>rfl
   |some ob=>
    obtain⟨o',z'⟩:=I.base.there a ob z y
    rw[e]at z'
    cases z'
 ·have y:=(I.pin p hp).1
  rw[z,e]at y
  cases y
theorem Inv.trackG{o:HO}(I:Inv X pins σ H s)(n:H a=none)(y:qI6 X pins a)(nl:a≠X.env.locals)(nc:∀x c,X.env.cells.lookup x=some c→c≠a)(new:jN X.prog X.w (upd H a o) s.heap a o):Inv X pins σ (upd H a o) s:=by
 have ne:∀b o',X.s₀.heap.get? b=some o'→b∉X.ex→b≠a:=λb o' z x q=>by
  subst q
  rcases y.1 with w|w
  ·rw[z]at w;cases w
  ·exact x w
 have nt:∀b u,H b=some u→b≠a:=λb u z q=>by rw[q,n]at z;cases z
 refine⟨I.ok,I.os,I.bare,⟨I.base.keep,I.base.slot,λb o' z m x=>?_,I.base.there,λb xs z=>?_,λb o' u z=>?_,λb ps z=>?_⟩,I.loc,I.cell,?_,λx c z=>?_,λp hp=>?_,λb u z=>?_,I.len⟩
 ·rw[qD (ne b o' z x)]
  exact I.base.free b o' z m x
 ·have w:=I.base.tups b xs z
  rw[qD (nt _ _ w)]
  exact w
 ·have w:=I.base.frzs b o' u z
  rw[qD (nt _ _ w)]
  exact w
 ·obtain⟨more,w⟩:=I.base.tbls b ps z
  exact⟨more,by rw[qD (nt _ _ w)];exact w⟩
 ·rw[qD (Ne.symm nl)]
  exact I.free
 ·rw[qD (nc x c z)]
  exact I.freeC x c z
 ·obtain⟨p1,p2,p3,p4,p5⟩:=I.pin p hp
  exact⟨p1,by rw[qD (y.2 p hp)];exact p2,p3,p4,p5⟩
 ·by_cases q:b=a
  ·subst q
   rw[qH]at z
   cases z
   exact new
  ·rw[qD q]at z
   refine(I.hok b u z).stay (λ_ _ _ g=>g) (λc g=>?_) λc xs g=>?_
   ·rw[qD (nt _ _ g)];exact g
   ·rw[qD (nt _ _ g)];exact g
end
noncomputable def qFE:List Value→Bool
 | .ref _::r=>qFE r
 |l=>l==bmVE
noncomputable def veIn(K:PySem.W.Frag)(C:Addr):Bool:=(PySem.W.clsIn K C).any (λcd=>qFE cd.mro)
structure XAt(K:PySem.W.Frag)(C:Addr):Prop where
 hd:PySem.W.hasDictIn K C=true
 sa:PySem.W.findIn K (.ref C) "__setattr__"=some (some (.builtin "object.__setattr__"))
 mro:veIn K C=true
structure XRd(K:PySem.W.Frag)(C:Addr):Prop where
 ga:PySem.W.findIn K (.ref C) "__getattribute__"=some (some (.builtin "BaseException.__getattribute__"))
 gn:PySem.W.findIn K (.ref C) "__getattr__"=some none
 mb:PySem.W.mroIn K C (.type "BaseException")=some true
 hd:PySem.W.hasDictIn K C=true
 cls:PySem.W.findIn K (.ref C) "__class__"=some (some (.builtin "object.__class__"))
 cget:PySem.W.specialIn K (.builtin "object.__class__") "__get__"=some (some (.builtin "getset_descriptor.__get__"))
 ctk:PySem.W.takesIn K (.builtin "object.__class__")=some true
 mo:PySem.W.mroIn K C (.type "object")=some true
noncomputable def XAny(H:Hp)(ea:Addr)(C:Value)(od:Option Addr):Prop:=H ea=some (XO ea C od)∨H ea=some (XN ea C od)
section
variable{X:Cx}{pins:List (Addr×Obj)}{σ:St}{H:Hp}{s:Shared}{ea C:Addr}{od:Option Addr}
theorem XAny.at{C:Value}(x:XAny H ea C od)(I:Inv X pins σ H s):∃o vs,s.heap.get? ea=some o∧o.cls=C∧o.dict=od∧o.data=.fields vs:=by
 rcases x with e|e
 ·exact(I.hok ea _ e).1
 ·obtain⟨vs,sl,z,_⟩:=(I.hok ea _ e).1
  exact⟨_,vs,z,rfl,rfl,rfl⟩
theorem qH1{A:Around}{E:Value→Shared→Prop}{K:PySem.W.Frag}{prog:Program}{w:World}{s:Shared}{x:Addr}{ox:Obj}{od:Option Obj}{name:Str}{tk:Tok}{fill b:Bool}{Q:Value→Shared→Prop}(X:K.In s.heap)(J:PySem.W.InstAt s.heap x ox C od)(c:XRd K C)
 (h:∀A',wpAny (model prog w) A' (Builtin.«object.__getattribute__» ⟨[.ref x,.str name tk],[]⟩) (λfin s'=>∃v,fin=.done (.ret v)∧PySem.W.handedIn v=true∧Q v s') (λ_ _=>False) s):wpAny (model prog w) A (getAttrBy (.ref x) (.str name tk) fill b) Q E s:=by
 obtain⟨hh,g,d,t,os⟩:=s
 have L0:=J.type (M:=model prog w)
 have L1:=PySem.W.looks_findIn (M:=model prog w) X c.ga
 have L2:=PySem.W.looks_findIn (M:=model prog w) X c.gn
 have SF:=PySem.F.excAttr_ValueError.ga
 unfold getAttrBy
 refine gU (kD (L0.at (kD (L1.at ?_))))
 show wpAny _ _ (getAttrByItsOwn (.ref x) (.str name tk) (.ref C) (.builtin "BaseException.__getattribute__") fill b) _ _ _
 unfold getAttrByItsOwn
 refine kD ?_
 show wpAny _ _ (typeLookup (.ref C) "__getattr__") _ _ _
 refine L2.at ?_
 refine kD (wpAny_attempt (gU ?_))
 have e1:callGetattribute (.ref x) (.str name tk) (.builtin "BaseException.__getattribute__") b=boundAndCalled (.builtin "BaseException.__getattribute__") (.ref x) (.str name tk):=by
  unfold callGetattribute
  rw[hX (by cases b<;>exact Bool.noConfusion)]
 rw[e1]
 unfold boundAndCalled
 rw[SF.bind (.ref x)]
 refine kD (kZ ?_)
 refine PySem.wpAny_call (codeAny_call_builtin SF.plain PySem.F.entry_bexc_ga ?_)
 have su:PySem.W.Looks (model prog w) hh (isInstance (.ref x) (.type "BaseException")) true:=J.type.andThen (PySem.W.looks_mroIn X c.mb)
 have hk:builtinKind "BaseException.__getattribute__"=some .slot:=by decide+kernel
 have hs:splitId "BaseException.__getattribute__"=some ("BaseException","__getattribute__"):=by decide+kernel
 refine @PySem.W.check_slot (model prog w) _ _ ⟨hh,g,d,t,os⟩ "BaseException.__getattribute__" "BaseException" "__getattribute__" (.ref x) [.str name tk] [] _ hk hs su (PySem.F.args_bexc_ga (.ref x) (.str name tk)) ?_
 refine dY (h _) (λfin s' z=>?_) (λ_ _ z=>z.elim)
 obtain⟨v,rfl,z1,z2⟩:=z
 exact PySem.W.handed_on z1 z2
end
noncomputable def clsV:V→Option Value
 | .ref a=>some (.ref a)
 | .ty n=>some (.type n)
 |_=>none
theorem qFF{c:V}{cv u:Value}(h:clsV c=some cv)(r:RelV c u):u=cv:=by
 cases c<;>first|(cases h;exact r)|cases h
noncomputable def KndT(K:PySem.W.Frag)(H:Hp)(x:V)(t:Value):Prop:=TyOf K H x t∨∃ea C od,x=.ref ea∧t=.ref C∧XAny H ea (.ref C) od∧XRd K C∧(od=none∨∃dx fs,od=some dx∧H dx=some (.xd fs))
theorem qJD{K:PySem.W.Frag}{x D:Addr}{ox:Obj}{od:Option Obj}(c:XRd K D):PySem.W.KitX K (.ref x) (.ref D) (λh=>PySem.W.InstAt h x ox D od) where
 ty:=λ_ _ _ I=>I.type
 it:=λ_ _ X _=>by
  obtain⟨cd,hc,_⟩:=PySem.W.any_some c.hd
  unfold PySem.W.clsIn at hc
  split at hc
  ·rename_i ho
   intro A' Q' E' s' k q
   unfold isType loadHead
   exact kD (wpAny_loadPart (k _ _ (X _ _ ho)) (kZ q))
  ·cases hc
 ne:=λh tp dd its n sl X htp=>by
  obtain⟨cd,hc,_⟩:=PySem.W.any_some c.hd
  refine Bool.eq_false_iff.mpr λq=>?_
  have e:D=tp:=Value.ref.inj (beq_iff_eq.mp q)
  subst e
  unfold PySem.W.clsIn at hc
  split at hc
  ·rename_i ho
   have z:=(X _ _ ho).symm.trans htp
   cases z
  ·cases hc
 ca:=fun {prog w _ _ _ s} X I k=>by
  have hf:PySem.W.findObj K D od "__class__"=some (.bind (.builtin "getset_descriptor.__get__") (.builtin "object.__class__")):=by
   obtain⟨cd,hc,_⟩:=PySem.W.any_some c.hd
   unfold PySem.W.findObj
   rw[hc,Option.bind_some,c.cls,Option.bind_some]
   dsimp only
   rw[c.cget,Option.bind_some]
   dsimp only
   rw[c.ctk,Option.bind_some]
  unfold getAttr? getAttrBy?
  refine kD (wpAny_mkText (kD (wpAny_attempt (qH1 (s:={ s with toks:=s.toks+1 }) X I c λA'=>?_))))
  have L0:=I.type (M:=model prog w)
  have L1:=PySem.W.looks_find (M:=model prog w) X I hf
  obtain⟨hh,gg,d,t,os⟩:=s
  refine kD (kZ (kD (kZ (kD (L0.at (kD (L1.at ?_)))))))
  show wpAny _ _ (holding [.builtin "object.__class__"] (call (.builtin "getset_descriptor.__get__") [.builtin "object.__class__",.ref x,.ref D]) >>= ret) _ _ _
  exact kD (gU (PySem.wpAny_call (PySem.W.class_get (s:=⟨hh,gg,d,t+1,os⟩) (ox:=ox) (od:=od) X I c.mo (kZ ⟨_,rfl,rfl,kZ k⟩))))
theorem yQ{X:Cx}:zY X (.builtin "isinstance") (λxs H Q=>∃x c cv t b,xs=[x,c]∧clsV c=some cv∧KndT X.K H x t∧PySem.W.kitOne X.K t cv=some b∧Q (.bl b) H):=by
 intro pins s σ H xs us Q I r h
 obtain⟨x,c,cv,t,b,rfl,hc,ty,e,q⟩:=h
 obtain⟨u,w',rfl,ru,rw'⟩:=qKK r
 cases qFF hc rw'
 rcases ty with ty|⟨ea,C,od,rfl,rfl,hx,ca,hd⟩
 ·exact qDY I ru ty e λtk=>⟨.bl b,H,I.tok tk,rfl,q⟩
 ·obtain rfl:u=Value.ref ea:=ru
  obtain⟨o,vs,e1,e2,e3,e4⟩:=hx.at I
  have hno:PySem.W.notCls o=true:=by rw[PySem.W.notCls,e4]
  have J:∃oD,PySem.W.InstAt s.heap ea o C oD:=by
   rcases hd with rfl|⟨dx,fs,rfl,hdx⟩
   ·exact⟨none,e1,e2,hno,by rw[e3];exact True.intro⟩
   ·obtain⟨mA,n1,rl⟩:=I.hok dx _ hdx
    obtain⟨oD,g1,g2⟩:=q8I n1
    exact⟨some oD,e1,e2,hno,by rw[e3];exact g1⟩
  obtain⟨oD,J⟩:=J
  exact gQ (qJD ca) I.kIn J e (λz=>nomatch z) λtk=>⟨.bl b,H,I.tok tk,rfl,q⟩
structure BIni(K:PySem.W.Frag)(W:Addr):Prop where
 rd:PySem.W.readsIn K W (.type "type")=true
 fd:PySem.W.findCls K (.ref W) (.type "type") "__init__"=some (.val (.builtin "ValueError.__init__"))
 ga:PySem.W.specialIn K (.ref W) "__getattribute__"=some (some (.builtin "type.__getattribute__"))
end L2
namespace L2
open PySem
structure Keep(F:List Addr)(H H':Hp):Prop where
 k:∀b o,b∉F→H b=some o→H' b=some o
 tp:∀b xs,H b=some (.tup xs)→H' b=some (.tup xs)
theorem Keep.refl{F:List Addr}{H:Hp}:Keep F H H:=⟨λ_ _ _ e=>e,λ_ _ e=>e⟩
theorem Keep.trans{F:List Addr}{H H1 H2:Hp}(a:Keep F H H1)(b:Keep F H1 H2):Keep F H H2:=⟨λx o n e=>b.k x o n (a.k x o n e),λx xs e=>b.tp x xs (a.tp x xs e)⟩
theorem Keep.mono{F F':List Addr}{H H':Hp}(a:Keep F H H')(s:∀b∈F,b∈F'):Keep F' H H':=⟨λx o n e=>a.k x o (λm=>n (s x m)) e,a.tp⟩
theorem Keep.upd{F:List Addr}{H:Hp}{p:Addr}{o u:HO}(h:H p=some u)(nt:∀xs,u≠ .tup xs)(m:p∈F):Keep F H (upd H p o):=by
 refine⟨λb x n e=>?_,λb xs e=>?_⟩
 ·rw[qD (λ(z:b=p)=>n (z▸m))];exact e
 ·rw[qD (jV e h (λz=>nt xs z.symm))];exact e
theorem Keep.same{F:List Addr}{H H':Hp}(s:Same H H'):Keep F H H':=⟨λb o _ e=>s b o e,λb xs e=>s b _ e⟩
theorem Keep.none{F:List Addr}{H H':Hp}(a:Keep F H H'){b:Addr}(n:b∉F)(e:H' b=Option.none):H b=Option.none:=by
 cases q:H b with
 |none=>rfl
 |some o=>rw[a.k b o n q]at e;cases e
structure CM where
 bl:Int
 pg:Int
 mo:Int
 lim:List (Key×V)
 bo:List V
 cl:List Int
 dc:List Int
 br:List Bool
 lf:Option Int
 rc:List (Str×Int×Bool)
structure CA where
 dx:Addr
 li:Addr
 bo:Addr
 cl:Addr
 dc:Addr
 br:Addr
 rc:Addr
noncomputable def lfV:Option Int→V
 | .none=>.non
 | .some i=>.int i
noncomputable def chF(a:CA)(m:CM):List (Str×V):=[("blocks",.int m.bl),("pages",.int m.pg),("most",.int m.mo),("limits",.ref a.li),("borne",.ref a.bo),("clearings",.ref a.cl),("deed_counts",.ref a.dc),("broken",.ref a.br),("deeds_left",lfV m.lf),("record",.ref a.rc)]
noncomputable def trip(H:Hp)(v:V)(d:Str×Int×Bool):Prop:=∃p,v=.ref p∧H p=some (.tup [.str d.1,.int d.2.1,.bl d.2.2])
noncomputable abbrev Recd(H:Hp):List V→List (Str×Int×Bool)→Prop:=Paired (trip H)
theorem Recd.keep{F:List Addr}{H H':Hp}(k:Keep F H H'){rs:List V}{ds:List (Str×Int×Bool)}(r:Recd H rs ds):Recd H' rs ds:=Paired.mapP r λv d ⟨p,e,h⟩=>⟨p,e,k.tp _ _ h⟩
theorem _root_.PySem.Paired.len{α β:Type}{F:α→β→Prop}:∀{l₁:List α} {l₂:List β},Paired F l₁ l₂→l₁.length=l₂.length
 |_,_,.nil=>rfl
 |_,_,.cons _ t=>dB (· + 1) t.len
theorem Paired.snoc{α β:Type}{F:α→β→Prop}:∀{l₁:List α} {l₂:List β} {a:α} {b:β},Paired F l₁ l₂→F a b→Paired F (l₁++[a]) (l₂++[b])
 |_,_,_,_,.nil,h=>.cons h .nil
 |_,_,_,_,.cons r t,h=>.cons r (Paired.snoc t h)
noncomputable def foot(c:Addr)(a:CA):List Addr:=[c,a.bo,a.cl,a.dc,a.br,a.rc]
structure ChipAt(C:Addr)(H:Hp)(c:Addr)(a:CA)(m:CM):Prop where
 ins:H c=some (.ins C a.dx (chF a m))
 li:H a.li=some (.dK m.lim)
 bo:H a.bo=some (.lst m.bo)
 cl:H a.cl=some (.lst (m.cl.map V.int))
 dc:H a.dc=some (.lst (m.dc.map V.int))
 br:H a.br=some (.lst (m.br.map V.bl))
 rc:∃rs,H a.rc=some (.lst rs)∧Recd H rs m.rc
 nd:[a.bo,a.cl,a.dc,a.br,a.rc].Nodup
structure CM.Ok(m:CM):Prop where
 bl1:2≤m.bl
 bl2:m.bl≤16
 pg1:1≤m.pg
 pg2:m.pg≤16
 nbo:(m.bo.length:Int)=m.bl*m.pg
 ncl:(m.cl.length:Int)=m.bl
 ndc:(m.dc.length:Int)=m.bl
 nbr:(m.br.length:Int)=m.bl
 lim:∀b v,valV m.lim (Sum.inl b)=some v→∃n,v=.int n
 nrc:m.rc.length≤1000000
section
variable{C c:Addr}{a:CA}{m:CM}{H H':Hp}
theorem ChipAt.ne(h:ChipAt C H c a m):c≠a.bo∧c≠a.cl∧c≠a.dc∧c≠a.br∧c≠a.rc:=by
 obtain⟨rs,e,_⟩:=h.rc
 exact⟨jV h.ins h.bo (by intro z;cases z),jV h.ins h.cl (by intro z;cases z),jV h.ins h.dc (by intro z;cases z),jV h.ins h.br (by intro z;cases z),jV h.ins e (by intro z;cases z)⟩
theorem ChipAt.nel(h:ChipAt C H c a m):a.li≠c∧a.li≠a.bo∧a.li≠a.cl∧a.li≠a.dc∧a.li≠a.br∧a.li≠a.rc:=by
 obtain⟨rs,e,_⟩:=h.rc
 exact⟨jV h.li h.ins (by intro z;cases z),jV h.li h.bo (by intro z;cases z),jV h.li h.cl (by intro z;cases z),jV h.li h.dc (by intro z;cases z),jV h.li h.br (by intro z;cases z),jV h.li e (by intro z;cases z)⟩
theorem ChipAt.dst(h:ChipAt C H c a m):(a.bo≠a.cl∧a.bo≠a.dc∧a.bo≠a.br∧a.bo≠a.rc)∧(a.cl≠a.dc∧a.cl≠a.br∧a.cl≠a.rc)∧(a.dc≠a.br∧a.dc≠a.rc)∧a.br≠a.rc:=by
 have:=h.nd
 simp only[mQ,kI,gG,not_or,or_false]at this
 obtain⟨⟨a1,a2,a3,a4⟩,⟨b1,b2,b3⟩,⟨c1,c2⟩,d1,_⟩:=this
 exact⟨⟨a1,a2,a3,a4⟩,⟨b1,b2,b3⟩,⟨c1,c2⟩,d1⟩
theorem ChipAt.keep{F:List Addr}(h:ChipAt C H c a m)(k:Keep F H H')(n:∀b∈a.li::foot c a,b∉F):ChipAt C H' c a m:=by
 obtain⟨rs,e,r⟩:=h.rc
 exact⟨k.k _ _ (n _ (by simp[foot])) h.ins,k.k _ _ (n _ (by simp)) h.li,k.k _ _ (n _ (by simp[foot])) h.bo,k.k _ _ (n _ (by simp[foot])) h.cl,k.k _ _ (n _ (by simp[foot])) h.dc,k.k _ _ (n _ (by simp[foot])) h.br,
  ⟨rs,k.k _ _ (n _ (by simp[foot])) e,r.keep k⟩,h.nd⟩
theorem ChipAt.same(h:ChipAt C H c a m)(s:Same H H'):ChipAt C H' c a m:=h.keep (F:=[]) (Keep.same s) (by simp)
theorem ChipAt.setBo(h:ChipAt C H c a m)(v:List V):ChipAt C (upd H a.bo (.lst v)) c a { m with bo:=v }:=by
 obtain⟨n1,n2,n3,n4,n5⟩:=h.ne
 obtain⟨l0,l1,l2,l3,l4,l5⟩:=h.nel
 obtain⟨⟨a1,a2,a3,a4⟩,⟨b1,b2,b3⟩,⟨c1,c2⟩,d1⟩:=h.dst
 obtain⟨rs,e,r⟩:=h.rc
 have k:Keep [a.bo] H (upd H a.bo (.lst v)):=Keep.upd h.bo (λ_ z=>by cases z) (by simp)
 exact⟨by rw[qD n1];exact h.ins,by rw[qD l1];exact h.li,qH,by rw[qD a1.symm];exact h.cl,by rw[qD a2.symm];exact h.dc,by rw[qD a3.symm];exact h.br,⟨rs,by rw[qD a4.symm];exact e,r.keep k⟩,h.nd⟩
theorem ChipAt.setCl(h:ChipAt C H c a m)(v:List Int):ChipAt C (upd H a.cl (.lst (v.map V.int))) c a { m with cl:=v }:=by
 obtain⟨n1,n2,n3,n4,n5⟩:=h.ne
 obtain⟨l0,l1,l2,l3,l4,l5⟩:=h.nel
 obtain⟨⟨a1,a2,a3,a4⟩,⟨b1,b2,b3⟩,⟨c1,c2⟩,d1⟩:=h.dst
 obtain⟨rs,e,r⟩:=h.rc
 have k:Keep [a.cl] H (upd H a.cl (.lst (v.map V.int))):=Keep.upd h.cl (λ_ z=>by cases z) (by simp)
 exact⟨by rw[qD n2];exact h.ins,by rw[qD l2];exact h.li,by rw[qD a1];exact h.bo,qH,by rw[qD b1.symm];exact h.dc,by rw[qD b2.symm];exact h.br,⟨rs,by rw[qD b3.symm];exact e,r.keep k⟩,h.nd⟩
theorem ChipAt.setDc(h:ChipAt C H c a m)(v:List Int):ChipAt C (upd H a.dc (.lst (v.map V.int))) c a { m with dc:=v }:=by
 obtain⟨n1,n2,n3,n4,n5⟩:=h.ne
 obtain⟨l0,l1,l2,l3,l4,l5⟩:=h.nel
 obtain⟨⟨a1,a2,a3,a4⟩,⟨b1,b2,b3⟩,⟨c1,c2⟩,d1⟩:=h.dst
 obtain⟨rs,e,r⟩:=h.rc
 have k:Keep [a.dc] H (upd H a.dc (.lst (v.map V.int))):=Keep.upd h.dc (λ_ z=>by cases z) (by simp)
 exact⟨by rw[qD n3];exact h.ins,by rw[qD l3];exact h.li,by rw[qD a2];exact h.bo,by rw[qD b1];exact h.cl,qH,by rw[qD c1.symm];exact h.br,⟨rs,by rw[qD c2.symm];exact e,r.keep k⟩,h.nd⟩
theorem ChipAt.addRc{p:Addr}{rs:List V}{d:Str×Int×Bool}(h:ChipAt C H c a m)(e:H a.rc=some (.lst rs))(hp:H p=some (.tup [.str d.1,.int d.2.1,.bl d.2.2])):ChipAt C (upd H a.rc (.lst (rs++[.ref p]))) c a { m with rc:=m.rc++[d] }:=by
 obtain⟨n1,n2,n3,n4,n5⟩:=h.ne
 obtain⟨l0,l1,l2,l3,l4,l5⟩:=h.nel
 obtain⟨⟨a1,a2,a3,a4⟩,⟨b1,b2,b3⟩,⟨c1,c2⟩,d1⟩:=h.dst
 obtain⟨rs',e',r⟩:=h.rc
 rw[e]at e'
 cases e'
 have k:Keep [a.rc] H (upd H a.rc (.lst (rs++[.ref p]))):=Keep.upd e (λ_ z=>by cases z) (by simp)
 exact⟨by rw[qD n5];exact h.ins,by rw[qD l5];exact h.li,by rw[qD a4];exact h.bo,by rw[qD b3];exact h.cl,by rw[qD c2];exact h.dc,by rw[qD d1];exact h.br,⟨_,qH,Paired.snoc (r.keep k) ⟨p,rfl,k.tp _ _ hp⟩⟩,h.nd⟩
end
noncomputable def CM.deed(m:CM)(w:Str)(pl b:Int)(f:Bool):CM:={ m with lf:=m.lf.map (· - 1),dc:=m.dc.set b.toNat (m.dc.getD b.toNat 0+1),rc:=m.rc++[(w,pl,!f)],br:=if f then m.br.set b.toNat true else m.br }
noncomputable def clr(xs:List V)(i n:Nat):List V:=match n with
 |0=>xs
 |n+1=>(clr xs i n).set (i+n) .non
noncomputable def CM.new(bl pg mo:Int)(lim:List (Key×V)):CM:=⟨bl,pg,mo,lim,List.replicate (bl*pg).toNat .non,List.replicate bl.toNat 0,List.replicate bl.toNat 0,List.replicate bl.toNat false,none,[]⟩
theorem qH2{x:V}{lo hi:Int}(h:inB x lo hi=true):∃p,x=.int p∧lo≤p∧p≤hi:=by
 cases x with
 |int p=>
  have h:(decide (lo≤p)&&decide (p≤hi))=true:=h
  rw[mT]at h
  exact⟨p,rfl,kP h.1,kP h.2⟩
 |_=>cases h
theorem qJE{m:CM}{p:Int}(ok:m.Ok)(p0:0≤p)(p1:p≤m.bl*m.pg-1):0≤p / m.pg∧p / m.pg<m.bl:=by
 have:=ok.pg1
 exact⟨Int.ediv_nonneg p0 (by omega),Int.ediv_lt_of_lt_mul (by omega) (by omega)⟩
theorem lf0{m:CM}:decide (lfV m.lf=V.int 0)=decide (m.lf=some 0):=by
 cases e:m.lf with
 |none=>rfl
 |some i=>
  show decide (V.int i=V.int 0)=_
  by_cases z:i=0
  ·subst z;rfl
  ·rw[hV (λq=>z (by injection q)),hV (λq=>z (by injection q))]
theorem qH3{m:CM}:scal (lfV m.lf) (.int 0)=true:=by
 cases m.lf<;>rfl
theorem getB{m:CM}{b:Int}(h0:0≤b)(h:b<(m.br.length:Int)):atI (m.br.map V.bl) b=some (.bl (m.br.getD b.toNat false)):=by
 obtain⟨j,rfl⟩:=Int.eq_ofNat_of_zero_le h0
 refine yC ?_
 have hj:j<m.br.length:=by omega
 simp[hj]
theorem getI{xs:List Int}{b:Int}(h0:0≤b)(h:b<(xs.length:Int)):atI (xs.map V.int) b=some (.int (xs.getD b.toNat 0)):=by
 obtain⟨j,rfl⟩:=Int.eq_ofNat_of_zero_le h0
 refine yC ?_
 have hj:j<xs.length:=by omega
 simp[hj]
theorem getV{xs:List V}{b:Int}(h0:0≤b)(h:b<(xs.length:Int)):atI xs b=some (xs.getD b.toNat .non):=by
 obtain⟨j,rfl⟩:=Int.eq_ofNat_of_zero_le h0
 refine yC ?_
 have hj:j<xs.length:=by omega
 simp[hj]
theorem ixOk{n:Nat}{b:Int}(h0:0≤b)(h:b<(n:Int)):ixN n b=some b.toNat:=by
 unfold ixN
 rw[kG h0,kG h]
theorem CM.Ok.deed{m:CM}(ok:m.Ok){w:Str}{pl b:Int}{f:Bool}(h:m.rc.length<1000000):(m.deed w pl b f).Ok:=by
 refine⟨ok.bl1,ok.bl2,ok.pg1,ok.pg2,ok.nbo,ok.ncl,?_,?_,ok.lim,?_⟩
 ·show((m.dc.set _ _).length:Int)=m.bl
  rw[mV]
  exact ok.ndc
 ·show(((if f then m.br.set b.toNat true else m.br)).length:Int)=m.bl
  cases f with
  |true=>
   rw[kG rfl,mV]
   exact ok.nbr
  |false=>
   exact ok.nbr
 ·show(m.rc++[_]).length≤1000000
  rw[k8,List.length_singleton]
  omega
noncomputable def qH4:Sp:=λvs H Q _=>∃x y,vs=[x,y]∧Knd H x∧Knd H y∧Q (.bl (inB x 2 16&&inB y 1 16)) H
theorem Paired.at{α β:Type}{F:α→β→Prop}:∀{l₁:List α} {l₂:List β} {i:Nat} {a:α},Paired F l₁ l₂→l₁[i]?=some a→∃b,l₂[i]?=some b∧F a b
 |_,_,0,_,.cons r _,e=>by simp at e;subst e;exact⟨_,rfl,r⟩
 |_,_,i+1,_,.cons _ t,e=>by
  have e2:=List.getElem?_cons_succ.symm.trans e
  obtain⟨b,h1,h2⟩:=Paired.at t e2
  exact⟨b,List.getElem?_cons_succ.trans h1,h2⟩
 |_,_,_,_,.nil,e=>by simp at e
theorem q5X(xs:List V)(i:Nat):∀n,(clr xs i n).length=xs.length
 |0=>rfl
 |n+1=>by
  show((clr xs i n).set (i+n) .non).length=xs.length
  rw[mV,q5X xs i n]
theorem qJF{bl pg mo:Int}{lim:List (Key×V)}(b1:2≤bl)(b2:bl≤16)(p1:1≤pg)(p2:pg≤16)(hl:∀b v,valV lim (Sum.inl b)=some v→∃n,v=V.int n):(CM.new bl pg mo lim).Ok:=by
 have h:0≤bl*pg:=Int.mul_nonneg (by omega) (by omega)
 refine⟨b1,b2,p1,p2,?_,?_,?_,?_,hl,by show 0≤1000000;decide⟩
 ·show((List.replicate (bl*pg).toNat V.non).length:Int)=bl*pg
  rw[mS]
  omega
 ·show((List.replicate bl.toNat (0:Int)).length:Int)=bl
  rw[mS]
  omega
 ·show((List.replicate bl.toNat (0:Int)).length:Int)=bl
  rw[mS]
  omega
 ·show((List.replicate bl.toNat false).length:Int)=bl
  rw[mS]
  omega
noncomputable def Up(x:Addr)(H H':Hp):Prop:=∀b o,b≠x→H b=some o→H' b=some o
section
variable{x C dx:Addr}{fs:List (Str×V)}{H H':Hp}
theorem Up.of{o:HO}(s:Same H H'):Up x H (upd H' x o):=λb u n e=>by rw[qD n];exact s b u e
theorem Up.free(u:Up x H H'){b:Addr}(n:b≠x)(e:H' b=none):H b=none:=by
 cases q:H b with
 |none=>rfl
 |some o=>rw[u b o n q]at e;cases e
end
end L2
namespace L2
open PySem PySem.Spec PyProof.Rows
noncomputable def tMid(t u:TS):TS:=λD σ H=>∃M:St→Hp→Prop,t { D with nx:=M } σ H∧∀σ' H',M σ' H'→u D σ' H'
noncomputable def qKZ(t:TE):TE:=λσ H Q=>∃M:VK,t σ H M∧∀v H',M v H'→Q v H'
section
variable{X:Cx}{st:Stmt}{rest:List Stmt}{t u:TS}{e:Expr}{te:TE}{tt:TT}
theorem q48(h1:PS X st t)(h2:PSs X rest u):PSs X (st::rest) (tMid t u):=by
 intro pins s σ H D I hZ
 obtain⟨M,a,b⟩:=hZ
 refine kD (thn (h1 pins s σ H _ I a) λf s1 z=>?_)
 cases f with
 |next=>obtain⟨σ',H',I',q⟩:=z;exact h2 pins s1 σ' H' D I' (b σ' H' q)
 |brk=>exact kZ z
 |cont=>exact kZ z
 |ret v=>exact kZ z
theorem qJG(h:PE X e te):PE X e (qKZ te):=λpins s σ H Q I ⟨M,a,b⟩=>thn (h pins s σ H M I a) λc s1 ⟨v,H',I',r,q⟩=>⟨v,H',I',r,b v H' q⟩
end
theorem yM{a b:Int}:decide (V.int a=V.int b)=decide (a=b):=by
 by_cases e:a=b
 ·subst e;simp
 ·rw[hV e,hV (λz=>e (by injection z))]
theorem ChipAt.some{C:Addr}{H:Hp}{c:Addr}{a:CA}{m:CM}(h:ChipAt C H c a m){b:Addr}(hb:b∈a.li::foot c a):∃o,H b=some o:=by
 have hb:b=a.li∨b=c∨b=a.bo∨b=a.cl∨b=a.dc∨b=a.br∨b=a.rc:=by simpa[foot]using hb
 obtain⟨rs,e,_⟩:=h.rc
 rcases hb with rfl|rfl|rfl|rfl|rfl|rfl|rfl
 ·exact⟨_,h.li⟩
 ·exact⟨_,h.ins⟩
 ·exact⟨_,h.bo⟩
 ·exact⟨_,h.cl⟩
 ·exact⟨_,h.dc⟩
 ·exact⟨_,h.br⟩
 ·exact⟨_,e⟩
theorem vT(x n:Int)(h:0<n):0≤x%n∧x%n<n:=⟨Int.emod_nonneg _ (by omega),Int.emod_lt_of_pos _ h⟩
section
variable{X:Cx}{pins:List (Addr×Obj)}{σ:St}{H:Hp}{s:Shared}{h':Heap}
theorem Inv.turnedN{t':Nat}{fp:List Addr}(I:Inv X pins σ H s)(k:∀b o,b∉fp→s.heap.get? b=some o→h'.get? b=some o)(hf:∀b∈fp,FpOk X pins H b):Inv X pins σ H { s with heap:=h',toks:=t' }:=by
 have nit:∀b u,H b=some u→b∉fp:=λb u e z=>by rw[(hf b z).1]at e;cases e
 refine I.step (g':=s.gens) (d':=s.drawn) (ch:=fp) (λb hb=>?_) (λb o _ _ hc e _=>k b o hc e) (λb o _ _ hc e _=>⟨o.slots,k b o hc e⟩) (λ_ _ _ _ n=>n)
  (λb o hc e=>⟨o,k b o hc e⟩) (λ_ _ e=>e) (λ_ _ _ e=>e) (λb ps e=>⟨#[],by rw[e];simp⟩) (λm hm=>?_) (λb u e=>?_) I.bare
 ·obtain⟨f0,f1,f2,f3,f4,f5⟩:=hf b hb
  exact⟨f3,f1,f4,f5⟩
 ·obtain⟨o,es,ep,ho,r⟩:=hm
  exact⟨o,es,ep,k _ o (λz=>(hf _ z).2.1 rfl) ho,r⟩
 ·refine(I.hok b u e).stay (λc v hc q=>k c v ?_ q) (λ_ q=>q) λ_ _ q=>q
  rcases hc with z|z
  ·rw[z];exact nit b u e
  ·exact nit c _ z
end
end L2
namespace L2
open PySem
theorem q49{es rest:List Expr}{x1}{p:Pos}{env:Env}:starEach (.Tuple es x1 p::rest) env=(false,eval (.Tuple es x1 p) env)::starEach rest env:=rfl
end L2
namespace L2
open PySem PySem.Spec PyProof.Rows
inductive Eqv(K:PySem.W.Frag)(H:Hp):Nat→V→V→Prop where
 |flat {n:Nat} {x:V} (f:q0V x=true):Eqv K H n x x
 |lst {n:Nat} {a b:Addr} {xs ys:List V} (ha:SqL K H a xs) (hb:SqL K H b ys) (hl:xs.length=ys.length) (hi:∀(i:Nat) x y,xs[i]?=some x→ys[i]?=some y→Eqv K H n x y):Eqv K H (n+1) (.ref a) (.ref b)
 |tup {n:Nat} {a b:Addr} {xs ys:List V} (ha:SqT K H a xs) (hb:SqT K H b ys) (hl:xs.length=ys.length) (hi:∀(i:Nat) x y,xs[i]?=some x→ys[i]?=some y→Eqv K H n x y):Eqv K H (n+1) (.ref a) (.ref b)
theorem qFG{x:V}(f:q0V x=true):eqV x x=true:=by
 cases x with
 |non=>rfl
 |bl b=>cases b<;>rfl
 |int i=>show(i==i)=true;exact beq_self_eq_true i
 |str z=>show(z==z)=true;exact beq_self_eq_true z
 |_=>exact absurd (show false=true from f) kJ
theorem q26{n:Nat}:(List.range n).all (λ_=>true)=true:=by simp
section
variable{X:Cx}{pins:List (Addr×Obj)}{σ:St}{H:Hp}{s:Shared}
theorem Vals.atN{xs:List V}{us:List Value}(r:Vals xs us){j:Nat}(h:j<us.length):∃x,xs[j]?=some x∧RelV x us[j]:=by
 have e:xs[j]?=some (xs[j]'(by rw[r.length];exact h)):=hE _
 obtain⟨u,hu,ru⟩:=r.get e
 rw[hE h]at hu
 cases hu
 exact⟨_,e,ru⟩
theorem Eqv.at(I:Inv X pins σ H s){n:Nat}{y x:V}(h:Eqv X.K H n y x):∀{A:Around} {u v:Value},RelV y u→RelV x v→A.units+n<cLine→SeqAt.EqAt A s u v true:=by
 induction h with
 |flat f=>
  intro A u v ru rv _
  have e:=qF4 (A:=A) (s:=s) ru rv f f
  rw[qFG f]at e
  exact e
 |@lst n a b xs ys ha hb hl hi ih=>
  intro A u v ru rv hu
  cases ru
  cases rv
  by_cases hab:a=b
  ·subst hab
   exact SeqAt.EqAt.same _
  ·obtain⟨i1,r1,p1,_⟩:=I.list ha
   obtain⟨i2,r2,p2,_⟩:=I.list hb
   have l1:=r1.length
   have l2:=r2.length
   refine SeqAt.EqAt.of_refs hab ?_
   have e:=SeqAt.RcAt.lists (A:=A) (e:=λ_=>true) p1.isList p2.isList (by simp;omega) (by omega) (λj h1 h2=>?_)
   ·rw[q26]at e
    exact e
   ·obtain⟨x1,e1,q1⟩:=r1.atN (j:=j) (by simpa using h1)
    obtain⟨x2,e2,q2⟩:=r2.atN (j:=j) (by simpa using h2)
    exact ih j x1 x2 e1 e2 (by simpa using q1) (by simpa using q2) (by show A.units+1+n<cLine;omega)
 |@tup n a b xs ys ha hb hl hi ih=>
  intro A u v ru rv hu
  cases ru
  cases rv
  by_cases hab:a=b
  ·subst hab
   exact SeqAt.EqAt.same _
  ·obtain⟨i1,r1,p1,_⟩:=I.tuple ha
   obtain⟨i2,r2,p2,_⟩:=I.tuple hb
   have l1:=r1.length
   have l2:=r2.length
   refine SeqAt.EqAt.of_refs hab ?_
   have e:=SeqAt.RcAt.tuples (A:=A) (e:=λ_=>true) (show s.heap.IsTuple a i1.toArray from p1) (show s.heap.IsTuple b i2.toArray from p2) (by omega) (λj h1 h2=>?_)
   ·rw[q26,Bool.true_and,show(i1.toArray.size==i2.toArray.size)=true by simp;omega]at e
    exact e
   ·obtain⟨x1,e1,q1⟩:=r1.atN (j:=j) (by simpa using h1)
    obtain⟨x2,e2,q2⟩:=r2.atN (j:=j) (by simpa using h2)
    exact ih j x1 x2 e1 e2 (by simpa using q1) (by simpa using q2) (by show A.units+1+n<cLine;omega)
theorem qE1{x:V}(f:q0V x=true):scal x x=true:=by
 cases x with
 |non=>rfl
 |bl b=>rfl
 |int i=>rfl
 |str z=>rfl
 |_=>exact absurd (show false=true from f) kJ
noncomputable def qL0(K:PySem.W.Frag)(r:Bool):R2:=λx y H Q=>Eqv K H 6 x y∧Q (.bl r) H
theorem qFH(hu:X.A.units+64<cLine):OpR X (compareOp .NotEq) (qL0 X.K false):=by
 intro pins s σ H x y v u Q I rx ry hZ
 obtain⟨h,q⟩:=hZ
 cases h with
 |flat f=>exact qAI pins s σ H x x v u Q I rx ry ⟨qE1 f,by rw[hI rfl];exact q⟩
 |@lst _ a b xs ys ha hb hl hi=>
  cases rx
  cases ry
  obtain⟨i1,r1,p1,_⟩:=I.list ha
  obtain⟨i2,r2,p2,_⟩:=I.list hb
  have l1:=r1.length
  have l2:=r2.length
  refine SeqAt.RcNeAt.lists (e:=λ_=>true) p1.isList p2.isList (by simp;omega) (by omega) (λj h1 h2=>?_) _ _ _ _ ⟨.bl false,H,I,by rw[q26];rfl,q⟩
  obtain⟨x1,e1,q1⟩:=r1.atN (j:=j) (by simpa using h1)
  obtain⟨x2,e2,q2⟩:=r2.atN (j:=j) (by simpa using h2)
  exact(hi j x1 x2 e1 e2).at I (by simpa using q1) (by simpa using q2) (by show X.A.units+1+5<cLine;omega)
 |@tup _ a b xs ys ha hb hl hi=>
  cases rx
  cases ry
  obtain⟨i1,r1,p1,_⟩:=I.tuple ha
  obtain⟨i2,r2,p2,_⟩:=I.tuple hb
  have l1:=r1.length
  have l2:=r2.length
  refine SeqAt.RcNeAt.tuples (e:=λ_=>true) (show s.heap.IsTuple a i1.toArray from p1) (show s.heap.IsTuple b i2.toArray from p2) (by omega) (λj h1 h2=>?_) _ _ _ _ ⟨.bl false,H,I,by rw[q26,Bool.true_and,show(i1.toArray.size==i2.toArray.size)=true by simp;omega];rfl,q⟩
  obtain⟨x1,e1,q1⟩:=r1.atN (j:=j) (by simpa using h1)
  obtain⟨x2,e2,q2⟩:=r2.atN (j:=j) (by simpa using h2)
  exact(hi j x1 x2 e1 e2).at I (by simpa using q1) (by simpa using q2) (by show X.A.units+1+5<cLine;omega)
end
noncomputable def clOf(env:Env):List (Str×NameKind)→List (Str×Addr)→List (Str×Addr)
 | [],cs=>cs
 |(n,k)::r,cs=>clOf env r (if(k==NameKind.free)=true then(match env.cells.lookup n with|some a=>(n,a)::cs|none=>cs)else cs)
theorem q6J{scope:Scope}{env:Env}(h:∀y∈scope.names,y.2=.free→∃c,env.cells.lookup y.1=some c):closureFor scope env=pure (clOf env scope.names []):=by
 unfold closureFor
 have go:∀(l:List (Str×NameKind)) (cs:List (Str×Addr)),(∀y∈l,y.2=.free→∃c,env.cells.lookup y.1=some c)→
  (forIn l cs λx r=>(match x with|(name,kind)=>if(kind==NameKind.free)=true then do let a←cellOf env name;pure (ForInStep.yield ((name,a)::r))else pure (ForInStep.yield r):Sem (ForInStep (List (Str×Addr)))))=pure (clOf env l cs):=by
  intro l
  induction l with
  |nil=>intro cs _;rfl
  |cons y r ih=>
   intro cs hl
   obtain⟨n,k⟩:=y
   rw[List.forIn_cons]
   by_cases hk:(k==NameKind.free)=true
   ·obtain⟨c,e⟩:=hl (n,k) mL (by simpa using hk)
    have e2:cellOf env n=pure c:=by unfold cellOf;rw[e]
    show(bind (if(k==NameKind.free)=true then _ else _) _:Sem _)=_
    rw[kG hk,e2]
    show(forIn r ((n,c)::cs) _:Sem _)=pure (clOf env r (if(k==NameKind.free)=true then(match env.cells.lookup n with|some a=>(n,a)::cs|none=>cs)else cs))
    rw[kG hk,e]
    exact ih _ λy hy=>hl y (kE _ hy)
   ·show(bind (if(k==NameKind.free)=true then _ else _) _:Sem _)=_
    rw[hX hk]
    show(forIn r cs _:Sem _)=pure (clOf env r (if(k==NameKind.free)=true then(match env.cells.lookup n with|some a=>(n,a)::cs|none=>cs)else cs))
    rw[hX hk]
    exact ih _ λy hy=>hl y (kE _ hy)
 exact(dB (λz:Sem (List (Str×Addr))=>z >>= λs=>pure s) (go scope.names [] h)).trans rfl
theorem q6K{env:Env}{x:Str}{c:Addr}:∀(l:List (Str×NameKind)) (cs:List (Str×Addr)),(cs.lookup x=some c→env.cells.lookup x=some c)→(clOf env l cs).lookup x=some c→env.cells.lookup x=some c
 | [],cs,hcs,h=>hcs h
 |(n,k)::r,cs,hcs,h=>by
  refine q6K r _ ?_ h
  intro q
  split at q
  ·cases e:env.cells.lookup n with
   |none=>rw[e]at q;exact hcs q
   |some a=>
    rw[e]at q
    have q:List.lookup x ((n,a)::cs)=some c:=q
    rw[List.lookup_cons]at q
    cases z:x==n with
    |true=>
     rw[z]at q
     have z':x=n:=by simpa using z
     rw[z',e,←q]
    |false=>
     rw[z]at q
     exact hcs q
  ·exact hcs q
theorem q6L{env:Env}{x:Str}{c:Addr}(e:env.cells.lookup x=some c):∀(l:List (Str×NameKind)) (cs:List (Str×Addr)),((x,NameKind.free)∈l∨cs.lookup x=some c)→(clOf env l cs).lookup x=some c
 | [],cs,h=>h.resolve_left (by simp)
 |(n,k)::r,cs,h=>by
  refine q6L e r _ ?_
  by_cases hn:(x==n)=true
  ·have z':x=n:=by simpa using hn
   by_cases hk:(k==NameKind.free)=true
   ·refine .inr ?_
    rw[kG hk,←z',e]
    show List.lookup x ((x,c)::cs)=some c
    simp
   ·rcases h with h|h
    ·rcases kI.mp h with q|q
     ·cases q
      exact absurd (by simp) hk
     ·exact .inl q
    ·rw[hX hk];exact .inr h
  ·have nx:x≠n:=λz=>hn (by simp[z])
   rcases h with h|h
   ·rcases kI.mp h with q|q
    ·cases q
     exact absurd rfl nx
    ·exact .inl q
   ·refine .inr ?_
    split
    ·cases en:env.cells.lookup n with
     |none=>exact h
     |some a=>
      show List.lookup x ((n,a)::cs)=some c
      have hn:(x==n)=false:=by simpa using nx
      rw[List.lookup_cons,hn]
      exact h
    ·exact h
theorem qAS{env:Env}{x:Str}:∀{names:List (Str×NameKind)},(∀y∈names,y.2≠ .cell)→
 ((names.map λ(n,k)=>if(k==NameKind.free&&env.scope.kind== .function&&env.kindOf n==some .cell)then(n,NameKind.cell)else(n,k)).lookup x=some .cell∨
  (names.map λ(n,k)=>if(k==NameKind.free&&env.scope.kind== .function&&env.kindOf n==some .cell)then(n,NameKind.cell)else(n,k)).lookup x=some .free)→(x,NameKind.free)∈names
 | [],_,h=>by simp at h
 |(n,k)::r,hc,h=>by
  have ih:=@qAS env x r λy hy=>hc y (kE _ hy)
  rw[mJ]at h
  by_cases hq:(k==NameKind.free&&env.scope.kind== .function&&env.kindOf n==some .cell)=true
  ·have hk:k=.free:=by
    rw[mT,mT]at hq
    simpa using hq.1.1
   simp only[kG hq,List.lookup_cons]at h
   cases hx:x==n with
   |true=>
    have e:x=n:=by simpa using hx
    rw[e,hk]
    exact mL
   |false=>
    simp only[hx]at h
    exact kE _ (ih h)
  ·simp only[hX hq,List.lookup_cons]at h
   cases hx:x==n with
   |true=>
    simp only[hx]at h
    have e:x=n:=by simpa using hx
    rcases h with h|h
    ·cases h
     exact absurd rfl (hc _ mL)
    ·cases h
     rw[e]
     exact mL
   |false=>
    simp only[hx]at h
    exact kE _ (ih h)
theorem qAT{env:Env}{x:Str}(hk:env.scope.kind=.function)(he:env.kindOf x=some .cell):∀{names:List (Str×NameKind)},names.lookup x=some .free→
 (names.map λ(n,k)=>if(k==NameKind.free&&env.scope.kind== .function&&env.kindOf n==some .cell)then(n,NameKind.cell)else(n,k)).lookup x=some .cell
 | [],h=>by simp at h
 |(n,k)::r,h=>by
  have ih:=@qAT env x hk he r
  rw[mJ]
  rw[List.lookup_cons]at h
  cases hx:x==n with
  |true=>
   simp only[hx]at h
   have e:x=n:=by simpa using hx
   cases h
   subst e
   show List.lookup x ((if(NameKind.free==NameKind.free&&env.scope.kind==ScopeKind.function&&env.kindOf x==some NameKind.cell)=true then(x,NameKind.cell)else(x,NameKind.free))::_)=_
   rw[kG (by rw[hk,he];rfl),List.lookup_cons]
   simp
  |false=>
   simp only[hx]at h
   show List.lookup x ((if(k==NameKind.free&&env.scope.kind==ScopeKind.function&&env.kindOf n==some NameKind.cell)=true then(n,NameKind.cell)else(n,k))::_)=_
   by_cases hq:(k==NameKind.free&&env.scope.kind== .function&&env.kindOf n==some .cell)=true
   ·rw[kG hq,List.lookup_cons]
    simp only[hx]
    exact ih h
   ·rw[hX hq,List.lookup_cons]
    simp only[hx]
    exact ih h
noncomputable abbrev vZ(X:Cx)(N:List Str)(scope:Scope)(C:Addr)(fp:List Addr)(s:Shared)(H:Hp)(xe:Value→Shared→Prop):Cx:=
 { X with N:=N,s₀:=s,H₀:=H,env:=compEnvC scope (clOf X.env scope.names []) C X.env,outer:=X.stack,ex:=fp,fn:=λ_=>false,pn:=[],xe:=xe }
noncomputable def pick(ix:List Nat)(σ:St):St:=ix.map λi=>σ.getD i none
noncomputable def q8W(XN:List Str)(kd:Str→Option NameKind)(names:List (Str×NameKind))(N:List Str)(ix:List Nat):Bool:=
 (List.range ix.length).all λj=>match N[j]?,ix[j]? with
  |some x,some i=>decide (XN[i]?=some x)&&decide (names.lookup x=some .free)&&decide (kd x=some .cell)
  |_,_=>false
theorem qFI{XN:List Str}{kd:Str→Option NameKind}{names:List (Str×NameKind)}{N:List Str}{ix:List Nat}(h:q8W XN kd names N ix=true){j:Nat}(hj:j<ix.length){x:Str}(hx:N[j]?=some x):
 ∃i,ix[j]?=some i∧XN[i]?=some x∧names.lookup x=some .free∧kd x=some .cell:=by
 unfold q8W at h
 rw[gW]at h
 have q:=h j (mK.mpr hj)
 rw[hx,hE hj]at q
 simp only[mT,kW]at q
 exact⟨_,hE hj,q.1.1,q.1.2,q.2⟩
theorem qH5{X:Cx}{pins:List (Addr×Obj)}{σ:St}{H:Hp}{s:Shared}(I:Inv X pins σ H s){N:List Str}{ix:List Nat}{scope:Scope}{fp:List Addr}{xe:Value→Shared→Prop}(hf:∀b∈fp,FpOk X pins H b)(ho:∀b∈fp,∃o,s.heap.get? b=some o)
 (hk:scope.kind=.function) (hc:∀y∈scope.names,y.2≠ .cell) (hfr:∀y∈scope.names,y.2=.free→X.env.kindOf y.1=some .cell) (hcap:q8W X.N X.env.kindOf scope.names N ix=true) (hN:ix.length≤N.length) {h₁:Heap} {tk n:Nat} {m:Str→Option Value}
 (hn:h₁.Ns (s.heap.objs.size+1) m) (hkp:∀b u,s.heap.get? b=some u→h₁.get? b=some u) (hD:h₁.get? s.heap.objs.size=some { cls:=.type "list",data:=.seq ([]:List Value).toArray n }):
 Inv (vZ X N scope (s.heap.objs.size+1) fp s H xe) [] (pick ix σ++List.replicate (N.length-ix.length) none) (upd H s.heap.objs.size (.lst [])) { s with heap:=h₁,toks:=tk }:=by
 have fresh:H s.heap.objs.size=none:=I.hok.fresh (kM _)
 have fresh1:H (s.heap.objs.size+1)=none:=I.hok.fresh (dC _)
 have cel:∀x c,(clOf X.env scope.names []).lookup x=some c→X.env.cells.lookup x=some c:=λx c e=>q6K _ _ (by intro q;simp at q) e
 have clt:∀x c,(clOf X.env scope.names []).lookup x=some c→c<s.heap.objs.size:=λx c e=>by
  obtain⟨v,q⟩:=I.cell x c (cel x c e)
  exact q.lt
 refine⟨⟨I.ok.mod,hk,I.ok.glob,I.ok.blt,dC _,λx y c h1 h2=>I.ok.inj x y c (cel x c h1) (cel y c h2),λx hx=>?_,λx c h=>absurd h kJ,I.ok.hd,I.ok.frames,.inl rfl,λb hb=>⟨?_,λx c e=>?_⟩,I.bs,mD I.ok.bsz I.sz,λb o e hb=>?_,λb hb z=>?_,I.stack,I.stkFree⟩,
  rfl,I.bare,Un.laid hkp (kM _) fresh,⟨m,hn,λi x v e1 e2 e3=>?_⟩,λx c e=>?_,?_,λx c e=>?_,λp hp=>?_,I.hok.laid hkp (kM _) ⟨by simp,[],n,.nil,hD⟩,?_⟩
 ·have hx:(x,NameKind.free)∈scope.names:=qAS hc hx
  obtain⟨c,e⟩:=I.ok.has x (.inl (hfr _ hx rfl))
  exact⟨c,q6L e _ _ (.inl hx)⟩
 ·obtain⟨o,e⟩:=ho b hb
  exact mM (Nat.lt_succ_of_lt (kO e))
 ·exact(hf b hb).2.2.2.2.1 x c (cel x c e)
 ·rcases(hf b hb).2.2.2.1 with z|z
  ·exact I.ok.noex b o e z
  ·exact absurd (mC (kO e) (mD I.ok.bsz z)) (gX _)
 ·rcases kI.mp (I.stkSub b z)with z|z
  ·exact(hf b hb).2.1 z
  ·exact(hf b hb).2.2.1 z
 ·have hi:i<ix.length:=by
   by_cases hi:i<ix.length
   ·exact hi
   ·rw[wH (by simpa[pick]using hi),gE]at e2
    split at e2<;>cases e2
  obtain⟨i0,q1,q2,q3,q4⟩:=qFI hcap hi e1
  rw[List.getElem?_append_left (by simpa[pick]using hi)]at e2
  have e2:σ[i0]?=some (some v):=by
   unfold pick at e2
   rw[kN,q1]at e2
   have e2:σ.getD i0 none=some v:=kF e2
   rw[hU]at e2
   cases z:σ[i0]? with
   |none=>rw[z]at e2;cases e2
   |some y=>rw[z]at e2;exact dB some e2
  obtain⟨mX,_,lX⟩:=I.loc
  obtain⟨u,r,l⟩:=lX i0 x v q2 e2 (.inr (.inl q4))
  refine⟨u,r,.inr ⟨.inl (qAT I.ok.kind q4 q3),?_⟩⟩
  rcases l with⟨l,_⟩|⟨_,c,e,z⟩
  ·rw[q4]at l;cases l
  ·obtain⟨o,e',d⟩:=z
   exact⟨c,q6L e _ _ (.inl (gJ q3)),o,hkp _ _ e',d⟩
 ·obtain⟨v,o,e',d⟩:=I.cell x c (cel x c e)
  exact⟨v,o,hkp _ _ e',d⟩
 ·show upd H s.heap.objs.size (.lst []) (s.heap.objs.size+1)=none
  rw[qD (g7 (Nat.lt_succ_self _))]
  exact fresh1
 ·rw[qD (mM (clt x c e))]
  exact I.freeC x c (cel x c e)
 ·exact absurd (show p∈([]:List (Addr×Obj))from hp) (by simp)
 ·show _=N.length
  rw[k8,mS]
  simp only[pick,hC]
  omega
noncomputable def PIf(X:Cx)(ifs:List Expr)(t:TT):Prop:=
 ∀(pins:List (Addr×Obj)) (s:Shared) (σ:St) (H:Hp) (Q:Bool→Hp→Prop),Inv X pins σ H s→t σ H Q→
  wpAny (model X.prog X.w) X.A (forIn ifs true λc r=>if r=true then do let ok←isTrue c X.env (eval c X.env);pure (ForInStep.yield ok)else pure (ForInStep.yield r)) (TP X pins σ Q) X.xe s
noncomputable def q4A:TT:=λ_ H Q=>Q true H
theorem qAU{A B:Hp→Prop}{σ:St}{H:Hp}(h:A H):q4A σ H (λb H6=>if b=true then A H6 else B H6):=by
 show if true=true then A H else B H
 rw[kG rfl]
 exact h
theorem uW{X:Cx}:PIf X [] q4A:=λpins s σ H Q I h=>kZ ⟨H,I,h⟩
theorem uJ{X:Cx}{c:Expr}{t:TT}(hc:PT X c t):PIf X [c] t:=λpins s σ H Q I h=>by
 rw[List.forIn_cons]
 show wpAny _ _ (bind (if true=true then _ else _) _) _ _ _
 rw[kG rfl]
 refine kD (kD (thn (hc pins s σ H Q I h) λb s1 q=>?_))
 exact kZ (kZ q)
noncomputable def tLC(wi:TI)(g:TG)(tc:TT)(te:TE)(ix:List Nat)(k:Nat):TE:=λσ H Q=>wi σ H λJ H1=>∀D H2,H1 D=none→Same H1 H2→H2 D=some (.lst [])→
 ∃W:Nat→Nat→Hp→Prop,(∃m,W 0 m H2)∧∀i m H3,W i m H3→(J.stop i H3∧Q (.ref D) H3)∨
  (J.go i H3∧∃N:Hp→Prop,(∀H',N H'→∃m',m'<m∧W (i+1) m' H')∧∀x H4,J.yld i H3 x H4→g x (pick ix σ++List.replicate k none) H4 λσ5 H5=>tc σ5 H5 λb H6=>
   if b=true then te σ5 H6 (λv H7=>∃vs,H7 D=some (.lst vs)∧vs.length<sizeLine∧N (upd H7 D (.lst (vs++[v]))))else N H6)
noncomputable def Own(g:TG)(k:Nat):Prop:=∀x σ H Q,g x σ H Q→g x σ H λσ' H'=>Q σ' H'∧σ'.length=σ.length∧∀j,j<k→σ'[j]?=σ[j]?
noncomputable def OwnS(g:TGs)(k:Nat):Prop:=∀(xs:List V) (σ:St) (H:Hp) (Q:St→Hp→Prop) (σ0:St),σ.length=σ0.length→(∀j,j<k→σ[j]?=σ0[j]?)→g xs σ H Q→g xs σ H λσ' H'=>Q σ' H'∧σ'.length=σ0.length∧∀j,j<k→σ'[j]?=σ0[j]?
theorem q9B{k:Nat}:OwnS gNil k:=λxs σ H Q σ0 h1 h2 ⟨e,q⟩=>⟨e,q,h1,h2⟩
theorem q0X{i k:Nat}{u:TGs}(h:k≤i)(hu:OwnS u k):OwnS (qI0 (q0U i) u) k:=λxs σ H Q σ0 h1 h2 ⟨v,r,e,q⟩=>
 ⟨v,r,e,hu r (σ.set i (some v)) H Q σ0 (mV.trans h1) (λj hj=>by rw[rO (by omega)];exact h2 j hj) q⟩
theorem q9C{K:PySem.W.Frag}{n k:Nat}{g:TGs}(h:OwnS g k):Own (gTup K n g) k:=λx σ H Q ⟨a,xs,e1,e2,e3,q⟩=>⟨a,xs,e1,e2,e3,h xs σ H Q σ rfl (λ_ _=>rfl) q⟩
theorem jM{i k:Nat}(h:k≤i):Own (q0U i) k:=λx σ H Q q=>⟨q,mV,λj hj=>by rw[rO (by omega)]⟩
theorem qH6{P:Program}{w:World}{A:Around}{R:Result→Shared→Prop}{s:Shared}{elt tg iter:Expr}{ifs:List Expr}{sc:Scope}{pos:Pos}{it acc:Value}{env:Env}(J:Nat→Shared→Prop)
 (turn:∀n s1,J n s1→wpAny (model P w) A (pyNext it) (λr s2=>match r with
  |none=>R (.ok .next) s2
  |some v=>wpAny (model P w) A (letOwnedTupleGo tg it v) (λ_ s3=>wpAny (model P w) A (assign tg env v) (λ_ s4=>
   wpAny (model P w) A (forIn ifs true λc r=>if r=true then do let ok←isTrue c env (eval c env);pure (ForInStep.yield ok)else pure (ForInStep.yield r)) (λok s5=>
    if ok=true then wpAny (model P w) A (eval elt env) (λx s6=>wpAny (model P w) A (call (.builtin "list.append") [acc,x]) (λ_ s7=>∃m,m<n∧J m s7) (notedBy (model P w) A env λe s'=>R (.error e) s') s6) (notedBy (model P w) A env λe s'=>R (.error e) s') s5
    else ∃m,m<n∧J m s5) (notedBy (model P w) A env λe s'=>R (.error e) s') s4) (notedBy (model P w) A env λe s'=>R (.error e) s') s3) (notedBy (model P w) A env λe s'=>R (.error e) s') s2) (notedBy (model P w) A env λe s'=>R (.error e) s') s1)
 (n:Nat) (h:J n s):codeAny (model P w) A (.compLoop (.ListComp elt [⟨tg,iter,ifs,0⟩] sc pos) 0 it acc env) R s:=by
 refine codeAny_loop rfl J (λm s1 hJ=>?_) n h
 show wpAny _ A ((compTurn _ 0 it acc env).onRaise (λx=>do noteFrame x env;theTreesLotGoes x)) _ _ s1
 refine wpAny_noted ?_
 rw[compTurn_list]
 refine kD (PySem.wpAny_standAt (kD (thn (turn m s1 hJ) λr s2 h2=>?_)))
 cases r with
 |none=>exact kZ h2
 |some v=>
  refine kD (thn h2 λ_ s3 h3=>kD (thn h3 λ_ s4 h4=>kD (thn h4 λok s5 h5=>?_)))
  cases ok with
  |false=>exact kZ ⟨rfl,h5⟩
  |true=>exact kD (kD (thn h5 λx s6 h6=>kD (thn h6 λ_ s7 h7=>kZ (kZ ⟨rfl,h7⟩))))
theorem qCZ{X:Cx}{elt iter tg:Expr}{ifs:List Expr}{scope:Scope}{pos cp:Pos}{wi:TI}{g:TG}{tc:TT}{te:TE}{use:Option (Value→Sem Unit)}{QQ:Value→Shared→Prop}{pins:List (Addr×Obj)}{s:Shared}{σ:St}{H:Hp}{Q:VK}(N:List Str)(ix:List Nat)(hcalm:X.calm=true)(hi:PI X tg iter wi)
 (hg:∀C fp s H xe,PG (vZ X N scope C fp s H xe) tg g) (hif:∀C fp s H xe,PIf (vZ X N scope C fp s H xe) ifs tc) (he:∀C fp s H xe,PE (vZ X N scope C fp s H xe) elt te)
 (hk:scope.kind=.function) (hc:∀y∈scope.names,y.2≠ .cell) (hfr:∀y∈scope.names,y.2=.free→X.env.kindOf y.1=some .cell) (hcap:q8W X.N X.env.kindOf scope.names N ix=true) (hN:ix.length≤N.length)
 (hnames:∀x∈scope.names,x.2=.local→scope.names.lookup x.1=some .local) (hown:Own g ix.length) (I:Inv X pins σ H s) (h:tLC wi g tc te ix (N.length-ix.length) σ H Q)
 (hfin:∀(C D:Addr) (H':Hp) (s':Shared) (m:Str→Option Value),s'.heap.Ns C m→FpOk X pins H' C→(∀h',Heap.SameBut C s'.heap h'→Inv X pins σ H' { s' with heap:=h' })→Q (.ref D) H'→compPost (model X.prog X.w) X.A X.xe use QQ (.ref D) C (.ok .next) s')
 (hs:∀x,foldedSetIterable iter X.env x=pure x:=by intro _;rfl):
 wpAny (model X.prog X.w) X.A (comprehension (.ListComp elt [⟨tg,iter,ifs,0⟩] scope pos) scope X.env cp (newList []) false (eval iter X.env) use) QQ X.xe s:=by
 refine wpAny_comprehension_free (use:=use) (cl:=clOf X.env scope.names []) rfl hs (q6J λy hy hyf=>I.ok.has _ (.inl (hfr y hy hyf))) hk hnames (thn (hi pins s σ H _ I h) λv s1 h1=>thn h1 λitv s2 h2=>?_)
 obtain⟨it,fp,tn,J,H2,e,I2,T,st2,f2,q2⟩:=h2
 subst e
 refine wpAny_newObj_type (wpAny_newFunctionEnv hc (by intro y hy;simp at hy) (λh₁ hns₁ hsb₁=>?_) hk)
 dsimp only at hns₁ hsb₁ ⊢
 rw[PySem.Heap.size_push]at hns₁ hsb₁ ⊢
 have old:∀b o,s2.heap.get? b=some o→h₁.get? b=some o:=λb o e=>hsb₁.extBut b o (mM (Nat.lt_succ_of_lt (kO e))) (hZ _ (hZ _ e))
 have hacc:h₁.get? s2.heap.objs.size=some { cls:=.type "list",data:=.seq ([]:List Value).toArray }:=hsb₁.extBut _ _ (mM (Nat.lt_succ_self _)) (hZ _ (mI _ rfl))
 have fob:∀b∈fp,∃o,s2.heap.get? b=some o:=λb hb=>let⟨o,e,_⟩:=T.obj _ _ st2 b hb;⟨o,e⟩
 have fresh:H2 s2.heap.objs.size=none:=I2.hok.fresh (kM _)
 obtain⟨W,⟨m0,w0⟩,turn⟩:=q2 s2.heap.objs.size (upd H2 s2.heap.objs.size (.lst [])) fresh (Same.upd fresh) qH
 have fin:∀{pY σ' H' s'},Inv (vZ X N scope (s2.heap.objs.size+1) fp s2 H2 (notedBy (model X.prog X.w) X.A (compEnvC scope (clOf X.env scope.names []) (s2.heap.objs.size+1) X.env) λe s'=>compPost (model X.prog X.w) X.A X.xe use QQ (.ref s2.heap.objs.size) (s2.heap.objs.size+1) (.error e) s')) pY σ' H' s'→Q (.ref s2.heap.objs.size) H'→
  compPost (model X.prog X.w) X.A X.xe use QQ (.ref s2.heap.objs.size) (s2.heap.objs.size+1) (.ok .next) s':=fun {pY σ' H' s'} J q=>by
  obtain⟨m,hm,_⟩:=id J.loc
  refine hfin (s2.heap.objs.size+1) s2.heap.objs.size H' s' m hm (I2.fpOk (dC _) J.free) (λh' sb=>?_) q
  have eb:∀b o,b≠s2.heap.objs.size+1→s'.heap.get? b=some o→h'.get? b=some o:=λb o nb e=>sb.extBut b o nb e
  have low:∀b o,s2.heap.get? b=some o→b≠s2.heap.objs.size+1:=λb o e=>mM (Nat.lt_succ_of_lt (kO e))
  have u:=J.base
  have nC:H' (s2.heap.objs.size+1)=none:=J.free
  refine I2.call' (ch:=fp) (s':={ s' with heap:=h' }) J.os ⟨λb o e n1 n2 n3=>eb b o (low b o e) (u.keep b o e n1 n2 n3),λb o e n1 n2 n3=>?_,u.free,λb o e n1=>?_,u.tups,u.frzs,u.tbls⟩ (λb o e=>?_) J.bare λb hb=>⟨(f2 b hb).2.2.2.1,(f2 b hb).2.1,(f2 b hb).2.2.2.2.1,(f2 b hb).2.2.2.2.2⟩
  ·obtain⟨sl,q1⟩:=u.slot b o e n1 n2 n3
   exact⟨sl,eb b _ (low b o e) q1⟩
  ·obtain⟨o',q1⟩:=u.there b o e n1
   exact⟨o',eb b _ (low b o e) q1⟩
  ·refine(J.hok b o e).stay (λc v hc q1=>eb c v ?_ q1) (λ_ q1=>q1) λ_ _ q1=>q1
   rcases hc with rfl|z
   ·exact qI e nC
   ·exact qI z nC
 have IY:Inv (vZ X N scope (s2.heap.objs.size+1) fp s2 H2 (notedBy (model X.prog X.w) X.A (compEnvC scope (clOf X.env scope.names []) (s2.heap.objs.size+1) X.env) λe s'=>compPost (model X.prog X.w) X.A X.xe use QQ (.ref s2.heap.objs.size) (s2.heap.objs.size+1) (.error e) s')) [] (pick ix σ++List.replicate (N.length-ix.length) none) (upd H2 s2.heap.objs.size (.lst [])) { s2 with heap:=h₁,toks:=s2.toks+([]:List (Str×Value)).length }:=
  qH5 I2 f2 fob hk hc hfr hcap hN hns₁ old hacc
 generalize hY:vZ X N scope (s2.heap.objs.size+1) fp s2 H2 (notedBy (model X.prog X.w) X.A (compEnvC scope (clOf X.env scope.names []) (s2.heap.objs.size+1) X.env) λe s'=>compPost (model X.prog X.w) X.A X.xe use QQ (.ref s2.heap.objs.size) (s2.heap.objs.size+1) (.error e) s')=Y at IY fin
 have hgY:PG Y tg g:=hY▸hg _ _ _ _ _
 have hifY:PIf Y ifs tc:=hY▸hif _ _ _ _ _
 have heY:PE Y elt te:=hY▸he _ _ _ _ _
 have hP:Y.prog=X.prog:=by rw[←hY]
 have hw:Y.w=X.w:=by rw[←hY]
 have hK:Y.K=X.K:=by rw[←hY]
 have hcl:Y.calm=true:=by rw[←hY];exact hcalm
 have stat:∀{H':Hp},(∀b∈fp,H' b=none)→∀b∈fp,FpOk Y [] H' b:=fun {H'} hn b hb=>by
  rw[←hY]
  refine⟨hn b hb,?_,λz=>?_,.inl hb,λx c e=>?_,λp hp=>absurd (show p∈([]:List (Addr×Obj))from hp) (by simp)⟩
  ·obtain⟨o,e⟩:=fob b hb
   exact mM (Nat.lt_succ_of_lt (kO e))
  ·rcases kI.mp (I2.stkSub b z)with z|z
   ·exact(f2 b hb).2.1 z
   ·exact(f2 b hb).2.2.1 z
  ·exact(f2 b hb).2.2.2.2.1 x c (q6K _ _ (by intro q;simp at q) e)
 have loop:codeAny (model X.prog X.w) X.A (.compLoop (.ListComp elt [⟨tg,iter,ifs,0⟩] scope pos) 0 (.ref it) (.ref s2.heap.objs.size) (compEnvC scope (clOf X.env scope.names []) (s2.heap.objs.size+1) X.env))
  (compPost (model X.prog X.w) X.A X.xe use QQ (.ref s2.heap.objs.size) (s2.heap.objs.size+1)) { s2 with heap:=h₁,toks:=s2.toks+([]:List (Str×Value)).length }:=by
  refine qH6 (λn s'=>∃i H',Inv Y [] (pick ix σ++List.replicate (N.length-ix.length) none) H' s'∧tn i s'.heap∧(∀b∈fp,H' b=none)∧W i n H') ?_ m0
   ⟨0,_,IY,T.keep _ _ _ st2 (λb hb o e=>old b o e),λb hb=>by obtain⟨o,e⟩:=fob b hb;rw[qD (mM (kO e))];exact(f2 b hb).1,w0⟩
  rintro n s3 ⟨i,H3,I3,st3,fr3,w3⟩
  rcases turn i n H3 w3 with⟨stop,qn⟩|⟨go,NN,hNN,step⟩
  ·have d:=T.done Y hP hw hK hcl i [] s3 _ H3 Y.xe I3 (stat fr3) st3 stop
   subst hY
   refine thn d λr s4 hZ=>?_
   obtain⟨hr,I4⟩:=hZ
   subst hr
   exact fin I4 qn
  ·have d:=T.item Y hP hw hK hcl i [] s3 _ H3 Y.xe I3 (stat fr3) st3 go
   have again:∀{p5:List (Addr×Obj)} {s5 s8:Shared} {σ6:St} {H8:Hp},p5=q66 fp s5.heap→tn (i+1) s5.heap→σ6.length=(pick ix σ++List.replicate (N.length-ix.length) none).length→(∀j,j<ix.length→σ6[j]?=(pick ix σ++List.replicate (N.length-ix.length) none)[j]?)→Inv Y ([]++p5) σ6 H8 s8→NN H8→
    ∃m',m'<n∧∃i H',Inv Y [] (pick ix σ++List.replicate (N.length-ix.length) none) H' s8∧tn i s8.heap∧(∀b∈fp,H' b=none)∧W i m' H':=fun {p5 s5 s8 σ6 H8} e5 st5 l6 k6 I8 q8=>by
    subst e5
    obtain⟨m',hm,w8⟩:=hNN _ q8
    refine⟨m',hm,i+1,H8,I8.unpinned.weak l6.symm (λj v e=>?_),T.keep _ _ _ st5 λb hb o e=>(I8.pin (b,o) (mO _ (mO _ (vC hb e)))).1,λb hb=>?_,w8⟩
    ·by_cases hj:j<ix.length
     ·rw[k6 j hj];exact e
     ·rw[wH (by simpa[pick]using hj),gE]at e
      split at e<;>cases e
    ·obtain⟨o,e,_⟩:=T.obj _ _ st5 b hb
     exact(I8.pin (b,o) (mO _ (mO _ (vC hb e)))).2.1
   have tail:∀(r:Option Value) (s4:Shared),(∃u,r=some u∧wpAny (model Y.prog Y.w) Y.A (letOwnedTupleGo tg (.ref it) u) (λ_ s2=>∃x H',Inv Y [] (pick ix σ++List.replicate (N.length-ix.length) none) H' s2∧RelV x u∧J.yld i H3 x H'∧tn (i+1) s2.heap∧∀b∈fp,H' b=none) Y.xe s4)→
    (match r with
    |none=>compPost (model X.prog X.w) X.A X.xe use QQ (.ref s2.heap.objs.size) (s2.heap.objs.size+1) (.ok .next) s4
    |some v=>wpAny (model Y.prog Y.w) Y.A (letOwnedTupleGo tg (.ref it) v) (λ_ s₁=>wpAny (model Y.prog Y.w) Y.A (assign tg Y.env v) (λ_ s₂=>
     wpAny (model Y.prog Y.w) Y.A (forIn ifs true λc r=>if r=true then do let ok←isTrue c Y.env (eval c Y.env);pure (ForInStep.yield ok)else pure (ForInStep.yield r)) (λok s₃=>
      if ok=true then wpAny (model Y.prog Y.w) Y.A (eval elt Y.env) (λx s₄=>
       wpAny (model Y.prog Y.w) Y.A (call (.builtin "list.append") [.ref s2.heap.objs.size,x]) (λ_ s₅=>∃m,m<n∧∃i H',Inv Y [] (pick ix σ++List.replicate (N.length-ix.length) none) H' s₅∧tn i s₅.heap∧(∀b∈fp,H' b=none)∧W i m H') Y.xe s₄) Y.xe s₃
      else ∃m,m<n∧∃i H',Inv Y [] (pick ix σ++List.replicate (N.length-ix.length) none) H' s₃∧tn i s₃.heap∧(∀b∈fp,H' b=none)∧W i m H') Y.xe s₂) Y.xe s₁) Y.xe s4):=by
    rintro r s4 ⟨u,rfl,h4⟩
    dsimp only
    refine thn h4 λ_ s5 hZ=>?_
    obtain⟨x,H5,I5,r5,y5,st5,fr5⟩:=hZ
    have I5':=I5.pinned (stat fr5) (T.obj _ _ st5)
    refine thn (hgY _ s5 _ H5 x u _ I5' r5 (hown _ _ _ _ (step x H5 y5))) λ_ s6 hZ=>?_
    obtain⟨σ6,H6,I6,q6,l6,k6⟩:=hZ
    refine thn (hifY _ s6 σ6 H6 _ I6 q6) λb s7 hZ=>?_
    obtain⟨H7,I7,q7⟩:=hZ
    cases b with
    |false=>
     rw[hX (by decide)]at q7 ⊢
     exact again rfl st5 l6 k6 I7 q7
    |true=>
     rw[kG rfl]at q7 ⊢
     refine thn (heY _ s7 σ6 H7 _ I7 q7) λy s8 hZ=>?_
     obtain⟨v,H8,I8,r8,vs,e8,hz,q8⟩:=hZ
     refine thn (vD (X:=Y) _ s8 σ6 H8 (.ref s2.heap.objs.size) [v] (.ref s2.heap.objs.size) [y] (λ_ H9=>NN H9) I8 rfl (.cons r8 .nil) ⟨s2.heap.objs.size,vs,v,rfl,rfl,e8,hz,q8⟩) λ_ s9 hZ=>?_
     obtain⟨_,H9,I9,_,q9⟩:=hZ
     exact again rfl st5 l6 k6 I9 q9
   subst hY
   exact thn d tail
 exact codeAny_compStart_list loop (T.self X.A 0 _ _ _ (T.keep _ _ _ st2 λb hb o e=>old b o e) loop)
theorem qL1{X:Cx}{elt iter tg:Expr}{ifs:List Expr}{scope:Scope}{pos:Pos}{wi:TI}{g:TG}{tc:TT}{te:TE}(N:List Str)(ix:List Nat)(hcalm:X.calm=true)(hi:PI X tg iter wi)
 (hg:∀C fp s H xe,PG (vZ X N scope C fp s H xe) tg g) (hif:∀C fp s H xe,PIf (vZ X N scope C fp s H xe) ifs tc) (he:∀C fp s H xe,PE (vZ X N scope C fp s H xe) elt te)
 (hk:scope.kind=.function) (hc:∀y∈scope.names,y.2≠ .cell) (hfr:∀y∈scope.names,y.2=.free→X.env.kindOf y.1=some .cell) (hcap:q8W X.N X.env.kindOf scope.names N ix=true) (hN:ix.length≤N.length)
 (hnames:∀x∈scope.names,x.2=.local→scope.names.lookup x.1=some .local) (hown:Own g ix.length) (hs:∀x,foldedSetIterable iter X.env x=pure x:=by intro _;rfl):
 PE X (.ListComp elt [⟨tg,iter,ifs,0⟩] scope pos) (tLC wi g tc te ix (N.length-ix.length)):=by
 intro pins s σ H Q I h
 rw[eval_ListComp]
 exact qCZ N ix hcalm hi hg hif he hk hc hfr hcap hN hnames hown I h (λC D H' s' m hm fok inv q=>⟨m,hm,λh' sb=>⟨.ref D,H',inv h' sb,rfl,q⟩⟩) hs
noncomputable def qD0(XN:List Str)(kd:Str→Option NameKind)(sc:Scope)(N:List Str)(ix:List Nat):Bool:=
 decide (sc.kind=.function)&&sc.names.all (λy=>decide (y.2≠ .cell)&&(decide (y.2≠ .free)||decide (kd y.1=some .cell))&&(decide (y.2≠ .local)||decide (sc.names.lookup y.1=some .local)))&&q8W XN kd sc.names N ix&&decide (ix.length≤N.length)
theorem yH{X:Cx}{elt iter tg:Expr}{ifs:List Expr}{scope:Scope}{pos:Pos}{wi:TI}{g:TG}{tc:TT}{te:TE}(N:List Str)(ix:List Nat)(hcalm:X.calm=true)(hi:PI X tg iter wi)
 (hg:∀C fp s H xe,PG (vZ X N scope C fp s H xe) tg g) (hif:∀C fp s H xe,PIf (vZ X N scope C fp s H xe) ifs tc) (he:∀C fp s H xe,PE (vZ X N scope C fp s H xe) elt te)
 (ok:qD0 X.N X.env.kindOf scope N ix=true) (hown:Own g ix.length) (hs:∀x,foldedSetIterable iter X.env x=pure x:=by intro _;rfl):
 PE X (.ListComp elt [⟨tg,iter,ifs,0⟩] scope pos) (tLC wi g tc te ix (N.length-ix.length)):=by
 unfold qD0 at ok
 rw[mT,mT,mT,gW]at ok
 obtain⟨⟨⟨h1,h2⟩,h3⟩,h4⟩:=ok
 have h2':∀y∈scope.names,y.2≠ .cell∧(y.2≠ .free∨X.env.kindOf y.1=some .cell)∧(y.2≠ .local∨scope.names.lookup y.1=some .local):=λy hy=>by
  have q:=h2 y hy
  rw[mT,mT,Bool.or_eq_true,Bool.or_eq_true,kW,kW,kW,kW,kW]at q
  exact⟨q.1.1,q.1.2,q.2⟩
 exact qL1 N ix hcalm hi hg hif he (kP h1) (λy hy=>(h2' y hy).1) (λy hy e=>(h2' y hy).2.1.resolve_left (λz=>z e)) h3 (kP h4) (λy hy e=>(h2' y hy).2.2.resolve_left (λz=>z e)) hown hs
theorem qAV{lo:Int}{n:Nat}{D:Addr}{H2:Hp}{g:TG}{tc:TT}{te:TE}{σ0:St}{Q:VK}(Pv:Nat→Hp→Prop)(h0:Pv 0 H2)
 (hs:∀(i:Nat) H,i<n→Pv i H→g (.int (lo+i)) σ0 H λσ5 H5=>tc σ5 H5 λb H6=>if b=true then te σ5 H6 (λv H7=>∃vs,H7 D=some (.lst vs)∧vs.length<sizeLine∧Pv (i+1) (upd H7 D (.lst (vs++[v]))))else Pv (i+1) H6) (hd:∀H,Pv n H→Q (.ref D) H):
 ∃W:Nat→Nat→Hp→Prop,(∃m,W 0 m H2)∧∀i m H3,W i m H3→((Itr lo n).stop i H3∧Q (.ref D) H3)∨
  ((Itr lo n).go i H3∧∃N:Hp→Prop,(∀H',N H'→∃m',m'<m∧W (i+1) m' H')∧∀x H4,(Itr lo n).yld i H3 x H4→g x σ0 H4 λσ5 H5=>tc σ5 H5 λb H6=>
   if b=true then te σ5 H6 (λv H7=>∃vs,H7 D=some (.lst vs)∧vs.length<sizeLine∧N (upd H7 D (.lst (vs++[v]))))else N H6):=by
 refine⟨λi m H=>m=n-i∧i≤n∧Pv i H,⟨n,by simp,mN _,h0⟩,?_⟩
 rintro i m H ⟨rfl,hi,p⟩
 by_cases hlt:i<n
 ·refine .inr ⟨hlt,Pv (i+1),λH' z=>⟨n-(i+1),by omega,rfl,by omega,z⟩,?_⟩
  rintro x H4 ⟨rfl,rfl⟩
  exact hs i _ hlt p
 ·obtain rfl:i=n:=by omega
  exact .inl ⟨kM _,hd _ p⟩
theorem qD1{K:PySem.W.Frag}{a:Addr}{xs:List V}{D:Addr}{H2:Hp}{g:TG}{tc:TT}{te:TE}{σ0:St}{Q:VK}(Pv:Nat→Hp→Prop)(h0:Pv 0 H2)(hl:∀i H,Pv i H→SqL K H a xs)
 (hs:∀(i:Nat) x H,xs[i]?=some x→Pv i H→g x σ0 H λσ5 H5=>tc σ5 H5 λb H6=>if b=true then te σ5 H6 (λv H7=>∃vs,H7 D=some (.lst vs)∧vs.length<sizeLine∧Pv (i+1) (upd H7 D (.lst (vs++[v]))))else Pv (i+1) H6) (hd:∀H,Pv xs.length H→Q (.ref D) H):
 ∃W:Nat→Nat→Hp→Prop,(∃m,W 0 m H2)∧∀i m H3,W i m H3→((Itl K a).stop i H3∧Q (.ref D) H3)∨
  ((Itl K a).go i H3∧∃N:Hp→Prop,(∀H',N H'→∃m',m'<m∧W (i+1) m' H')∧∀x H4,(Itl K a).yld i H3 x H4→g x σ0 H4 λσ5 H5=>tc σ5 H5 λb H6=>
   if b=true then te σ5 H6 (λv H7=>∃vs,H7 D=some (.lst vs)∧vs.length<sizeLine∧N (upd H7 D (.lst (vs++[v]))))else N H6):=by
 refine⟨λi m H=>m=xs.length-i∧i≤xs.length∧Pv i H,⟨xs.length,by simp,mN _,h0⟩,?_⟩
 rintro i m H ⟨rfl,hi,p⟩
 have hq:=hl i H p
 by_cases hlt:i<xs.length
 ·have e1:xs[i]?=some xs[i]:=hE hlt
  refine .inr ⟨⟨xs,_,hq,e1⟩,Pv (i+1),λH' z=>⟨xs.length-(i+1),by omega,rfl,by omega,z⟩,?_⟩
  rintro x H4 ⟨rfl,hx⟩
  exact hs i x _ (hx xs hq) p
 ·obtain rfl:i=xs.length:=by omega
  exact .inl ⟨⟨xs,hq,kM _⟩,hd _ p⟩
theorem qE2{lo:Int}{n k:Nat}{D:Addr}{H2:Hp}{te:TE}{σ0:St}{Q:VK}(Pv:Nat→Hp→Prop)(h0:Pv 0 H2)
 (hs:∀(i:Nat) H,i<n→Pv i H→te (σ0.set k (some (.int (lo+i)))) H (λv H7=>∃vs,H7 D=some (.lst vs)∧vs.length<sizeLine∧Pv (i+1) (upd H7 D (.lst (vs++[v]))))) (hd:∀H,Pv n H→Q (.ref D) H):
 ∃W:Nat→Nat→Hp→Prop,(∃m,W 0 m H2)∧∀i m H3,W i m H3→((Itr lo n).stop i H3∧Q (.ref D) H3)∨
  ((Itr lo n).go i H3∧∃N:Hp→Prop,(∀H',N H'→∃m',m'<m∧W (i+1) m' H')∧∀x H4,(Itr lo n).yld i H3 x H4→q0U k x σ0 H4 λσ5 H5=>q4A σ5 H5 λb H6=>
   if b=true then te σ5 H6 (λv H7=>∃vs,H7 D=some (.lst vs)∧vs.length<sizeLine∧N (upd H7 D (.lst (vs++[v]))))else N H6):=
 qAV (g:=q0U k) (tc:=q4A) Pv h0 (λi H hi p=>qAU (σ:=σ0.set k (some (.int (lo+i)))) (A:=λH6=>te (σ0.set k (some (.int (lo+i)))) H6 _) (B:=λH6=>Pv (i+1) H6) (hs i H hi p)) hd
theorem qFJ{K:PySem.W.Frag}{a:Addr}{xs:List V}{k:Nat}{D:Addr}{H2:Hp}{te:TE}{σ0:St}{Q:VK}(Pv:Nat→Hp→Prop)(h0:Pv 0 H2)(hl:∀i H,Pv i H→SqL K H a xs)
 (hs:∀(i:Nat) x H,xs[i]?=some x→Pv i H→te (σ0.set k (some x)) H (λv H7=>∃vs,H7 D=some (.lst vs)∧vs.length<sizeLine∧Pv (i+1) (upd H7 D (.lst (vs++[v]))))) (hd:∀H,Pv xs.length H→Q (.ref D) H):
 ∃W:Nat→Nat→Hp→Prop,(∃m,W 0 m H2)∧∀i m H3,W i m H3→((Itl K a).stop i H3∧Q (.ref D) H3)∨
  ((Itl K a).go i H3∧∃N:Hp→Prop,(∀H',N H'→∃m',m'<m∧W (i+1) m' H')∧∀x H4,(Itl K a).yld i H3 x H4→q0U k x σ0 H4 λσ5 H5=>q4A σ5 H5 λb H6=>
   if b=true then te σ5 H6 (λv H7=>∃vs,H7 D=some (.lst vs)∧vs.length<sizeLine∧N (upd H7 D (.lst (vs++[v]))))else N H6):=
 qD1 (g:=q0U k) (tc:=q4A) Pv h0 hl (λi x H hx p=>qAU (σ:=σ0.set k (some x)) (A:=λH6=>te (σ0.set k (some x)) H6 _) (B:=λH6=>Pv (i+1) H6) (hs i x H hx p)) hd
noncomputable def rEmp(K:PySem.W.Frag):R2:=λx y H Q=>∃p xs e,x=.ref p∧y=.ref e∧SqL K H p xs∧SqL K H e []∧Q (.bl (decide (xs=[]))) H
theorem q9D{X:Cx}(hu:X.A.units+64<cLine):OpR X (compareOp .Eq) (rEmp X.K):=by
 intro pins s σ H x y v u Q I rx ry hZ
 obtain⟨p,xs,e,ex,ey,hp,he,q⟩:=hZ
 subst ex ey
 cases rx
 cases ry
 obtain⟨i1,r1,p1,_⟩:=I.list hp
 obtain⟨i2,r2,p2,_⟩:=I.list he
 have l1:=r1.length
 have l2:=r2.length
 cases xs with
 |nil=>exact SeqAt.eq_listAt (e:=λ_=>true) p1.isList p2.isList (by simp at l1 l2 ⊢;omega) (by omega) (λj h1 h2=>by simp at l1 h1;omega) ⟨.bl true,H,I,by rw[q26];rfl,q⟩
 |cons z zs=>exact SeqAt.eq_list_lengthsAt p1.isList p2.isList (by simp at l1 l2 ⊢;omega) (by omega) ⟨.bl false,H,I,rfl,q⟩
section
variable{X:Cx}{o e f:Expr}{apos cpos:Pos}{td ty tx:TE}
theorem qI7{P:Program}{w:World}{k:Key}{u:Value}(h:(jZ P w).is k u=true):RelV (kV k) u:=by
 cases k with
 |inl i=>exact Value.isInt_shape h
 |inr x=>exact Value.isStrOf_shape h
theorem zG{α β:Type}{F:α→β→Prop}:∀{l₁:List α} {l₂:List β},l₁.length=l₂.length→(∀(j:Nat) a b,l₁[j]?=some a→l₂[j]?=some b→F a b)→Paired F l₁ l₂
 | [],[],_,_=>.nil
 |a::l,b::l',h,k=>.cons (k 0 a b rfl rfl) (zG (by simpa using h) λj x y hx hy=>k (j+1) x y (by simpa using hx) (by simpa using hy))
 | [],_::_,h,_=>by simp at h
 |_::_,[],h,_=>by simp at h
end
theorem q4B:∀{ns:List Int} {vs:List Value},Vals (ns.map V.int) vs→IntsAre vs ns
 | [],_,.nil=>.nil
 |n::ns,_,.cons h t=>by
  obtain⟨t0,rfl⟩:=h
  exact .cons n t0 (q4B t)
section
variable{X:Cx}
theorem qE3(hc:X.calm=true):zY X (.builtin "sum") (λxs H Q=>∃(p:Addr) (ns:List Int),xs=[.ref p]∧SqL X.K H p (ns.map V.int)∧Q (.int ns.sum) H):=by
 intro pins s σ H xs us Q I r hZ
 obtain⟨p,ns,ex,hq,q⟩:=hZ
 subst ex
 obtain⟨u,rfl,rx⟩:=zH r
 cases rx
 obtain⟨its,rv,pl,hz⟩:=I.list hq
 have hi:=q4B rv
 obtain⟨xs,e⟩:=hi.allInts.items
 have hn:numsOf its.toArray.toList=ns:=by rw[show its.toArray.toList=its from rfl,hi.numsOf]
 have hl:=pl.isList
 rw[e]at hl hn
 rw[nums_intItems]at hn
 have hh:=I.ok.hd hc
 have hsz:(intItems xs).size=xs.size:=by simp[intItems]
 refine call_sum_walkAnyS (iter_intList hl λs₂ e2 st hfp hlI=>?_)
 subst e2
 have W:=(Walks.list (prog:=X.prog) (w:=X.w) (A:=X.A.in1) hh s.heap.objs.size p hlI (intItems xs)).toS
 rw[hsz]at W
 refine⟨s.heap.objs.size,_,_,_,_,_,_,numAt xs,rfl,W,st,hfp,λi v hP=>intItems_at hP,λs' t' hm=>?_⟩
 obtain⟨h',g',d',tk',os'⟩:=s'
 have e1:g'=s.gens:=hm.gens
 have e2:d'=s.drawn:=hm.drawn
 have e3:os'=s.os:=hm.os
 subst e1 e2 e3
 refine⟨.int _,H,I.kept λb o e=>hm.heap b o (λhb=>absurd (kO e) ((kC.mp hb)▸gX _)) (hZ _ e),⟨t',rfl⟩,?_⟩
 rw[preSum_eq,List.take_of_length_le (by simp),hn]
 exact q
theorem q4C:∀{vs:List Value} {ns:List Int},IntsAre vs ns→Vals (ns.map V.int) vs
 |_,_,.nil=>.nil
 |_,_,.cons n t h=>.cons ⟨t,rfl⟩ (q4C h)
theorem q9E:zY X (.builtin "sorted") (λxs H Q=>∃(p:Addr) (ns:List Int),xs=[.ref p]∧SqL X.K H p (ns.map V.int)∧ns.length<64∧∀ns':List Int,ns'.Perm ns→ns'.Pairwise (·≤·)→NewO H (.lst (ns'.map V.int)) Q):=by
 intro pins s σ H xs us Q I r hZ
 obtain⟨p,ns,ex,hq,h64,q⟩:=hZ
 subst ex
 obtain⟨u,rfl,rx⟩:=zH r
 cases rx
 obtain⟨its,rv,pl,hz⟩:=I.list hq
 have hi:=q4B rv
 have hlen:its.length<64:=by rw[←rv.length,hC];exact h64
 refine sorted_ints pl.isList hi hlen λout ns' a1 a2 a3=>?_
 obtain⟨e,he⟩:=sortedAll_at s.heap its out
 have hz':(ns'.map V.int).length≤sizeLine:=by rw[hC,a2.length_eq,gD];omega
 exact⟨.ref (s.heap.objs.size+1),_,I.laid (t':=s.toks) (λ_ _ h=>sortedAll_old h) (dC _) (show jN X.prog X.w _ _ _ (.lst _)from⟨hz',out.toList,e,q4C a1,by simpa[seqObj]using he⟩),rfl,(q ns' a2 a3).at _ (I.hok.fresh (dC _))⟩
theorem q8X(hc:X.calm=true):zY X (.builtin "all") (λxs H Q=>∃(p:Addr) (bs:List Bool),xs=[.ref p]∧SqL X.K H p (bs.map V.bl)∧Q (.bl (bs.all id)) H):=by
 intro pins s σ H xs us Q I r hZ
 obtain⟨p,bs,ex,hq,q⟩:=hZ
 subst ex
 obtain⟨u,rfl,rx⟩:=zH r
 cases rx
 obtain⟨its,rv,pl,hz⟩:=I.list hq
 have hl:=pl.isList
 have hlt:p<s.heap.objs.size:=by obtain⟨_,e,_⟩:=hl;exact kO e
 have hln:=rv.length
 refine call_all_walk (wpAny_pyIter_list hl ?_)
 have W:=Walks.list (prog:=X.prog) (w:=X.w) (A:=X.A.in1) (I.ok.hd hc) s.heap.objs.size p (mM hlt) its.toArray
 refine⟨s.heap.objs.size,_,_,_,_,_,λi=>bs.getD i false,rfl,W,⟨⟨_,mI _ rfl,rfl,rfl⟩,hl.push _⟩,λi v s1 Q1 E1 hP hQ=>?_,λh' tk hk=>?_⟩
 ·have hP:its[i]?=some v:=by simpa using hP
  obtain⟨x,hx,rx⟩:=rv.atN (j:=i) (hG.mp hP).1
  rw[kN]at hx
  obtain⟨b,hb,rfl⟩:=mF.mp hx
  have ev:its[i]'(hG.mp hP).1=v:=(hG.mp hP).2
  rw[ev]at rx
  have rx:v=.bool b:=rx
  subst rx
  have eb:bs.getD i false=b:=by rw[hU,hb];rfl
  have hQ:Q1 (bs.getD i false) s1:=hQ
  rw[eb]at hQ
  exact gL hQ
 ·have e:(List.range its.toArray.size).all (λi=>bs.getD i false)=bs.all id:=by
   have hs:its.toArray.size=bs.length:=by simp at hln ⊢;omega
   rw[hs]
   apply Bool.eq_iff_iff.mpr
   rw[gW,gW]
   constructor
   ·intro h b hb
    obtain⟨i,hi,rfl⟩:=gK hb
    have:=h i (mK.mpr hi)
    rw[hU,hE hi]at this
    exact this
   ·intro h i hi
    have hi:=mK.mp hi
    rw[hU,hE hi]
    exact h _ (mU hi)
  rw[e]
  exact⟨.bl _,H,I.kept λb o eo=>hk b o (λhb=>absurd (kO eo) ((kC.mp hb)▸gX _)) (hZ _ eo),rfl,q⟩
end
noncomputable def Ite(K:PySem.W.Frag)(l:Addr):It:=
 ⟨λi H=>∃xs x,SqL K H l xs∧xs[i]?=some x,
  λi H v H'=>∃T x,v=.ref T∧H T=none∧H'=upd H T (.tup [.int (i:Nat),x])∧∀xs,SqL K H l xs→xs[i]?=some x,
  λi H=>∃xs,SqL K H l xs∧xs.length≤i⟩
theorem qE4{P:Program}{w:World}{K:PySem.W.Frag}{elts:List Expr}{x1}{pos:Pos}(e it l:Addr)(ne:e≠it):
 Turn P w K (.Tuple elts x1 pos) (Ite K l) [e,it] e (λi h=>(∃old,IsEnum h e it (i:Nat) old)∧h.IsListIter it l i) where
 mem:=by simp
 obj:=λi h st b hb=>by
  obtain⟨⟨old,a1⟩,o2,e2,c2,d2⟩:=st
  simp only[kI,gG,or_false]at hb
  rcases hb with rfl|rfl
  ·exact⟨_,a1,λv z=>by cases z⟩
  ·exact⟨_,e2,λv z=>by rw[d2]at z;cases z⟩
 keep:=λi h h' st k=>by
  obtain⟨⟨old,a1⟩,a2⟩:=st
  exact⟨⟨old,k e (by simp) _ a1⟩,a2.at λo q=>k it (by simp) o q⟩
 item:=by
  intro X hP hw hK hc i pins s σ H E I hf st hg
  subst hP hw hK
  obtain⟨xs,x,hq,hx⟩:=hg
  obtain⟨its,rv,p1,hz⟩:=I.list hq
  obtain⟨u,hu,ru⟩:=rv.get hx
  obtain⟨⟨old,a1⟩,a2⟩:=st
  refine wpAny_pyNext_enum_item a1 a2 p1.isList (x:=u) (by simpa using hu) ne λh' b1 b2 b3 b4 b5=>?_
  refine⟨_,rfl,wpAny_letOwnedTupleGo_enum (s:={ s with heap:=h',toks:=s.toks+1 }) b1 λh'' c1 c2=>?_⟩
  have lt:∀{c o},s.heap.get? c=some o→s.heap.objs.size≠c:=λe=>g7 (kO e)
  have kk:∀b o,b∉[e,it]→s.heap.get? b=some o→h''.get? b=some o:=λb o hb q=>by
   simp only[kI,gG,or_false,not_or]at hb
   exact c2.extBut _ _ hb.1 (b5 b o hb.1 hb.2 q)
  have I1:Inv X pins σ H { s with heap:=h'',toks:=s.toks+1 }:=I.turnedN (t':=s.toks+1) kk hf
  have fr:H s.heap.objs.size=none:=I.hok.fresh (kM _)
  have yg:=I.young (a:=s.heap.objs.size) (cT (kM _))
  have pr:h''.get? s.heap.objs.size=some { cls:=.type "tuple",data:=.seq #[.int (i:Nat) s.toks,u] }:=c2.extBut _ _ (lt a1) b3
  have I2:=I1.trackG (o:=.tup [.int (i:Nat),x]) fr yg (g7 I.lt) (λx' c' w q'=>by
   obtain⟨v,o',ho,_⟩:=I.cell x' c' w
   exact absurd (kO ho) (by rw[q'];exact gX _)) ⟨by rw[gD,mP,mP,List.length_nil];omega,[.int (i:Nat) s.toks,u],.cons ⟨_,rfl⟩ (.cons ru .nil),⟨_,pr,rfl,_,rfl⟩⟩
  refine⟨.ref s.heap.objs.size,_,I2,rfl,⟨_,x,rfl,fr,rfl,λxs' h=>by rw[I.list_inj h hq];exact hx⟩,⟨⟨u,c1⟩,b2.extBut c2.extBut (Ne.symm ne)⟩,λb hb=>?_⟩
  have ob:∃o,s.heap.get? b=some o:=by
   obtain⟨o2,e2,_⟩:=a2
   simp only[kI,gG,or_false]at hb
   rcases hb with rfl|rfl
   ·exact⟨_,a1⟩
   ·exact⟨_,e2⟩
  obtain⟨o,q⟩:=ob
  rw[qD (Ne.symm (lt q))]
  exact(hf b hb).1
 done:=by
  intro X hP hw hK hc i pins s σ H E I hf st hg
  subst hP hw hK
  obtain⟨xs,hq,hx⟩:=hg
  obtain⟨its,rv,p1,hz⟩:=I.list hq
  obtain⟨⟨old,a1⟩,a2⟩:=st
  have e1:=rv.length
  refine wpAny_pyNext_enum_end (I.ok.hd hc) a1 a2 p1.isList (by simp;omega) λh' k=>⟨rfl,I.turnedN (t':=s.toks) (λb o hb q=>?_) hf⟩
  simp only[kI,gG,or_false,not_or]at hb
  exact k b o hb.2 q
 self:=λ_ _ _ _ _ st h=>let⟨_,a⟩:=st.1;wpAny_pyIter_enum a h
section
variable{X:Cx}
noncomputable def iEnm(K:PySem.W.Frag)(ta:TA):TI:=λσ H R=>ta σ H λvs H1=>∃a,vs=[.ref a]∧(∃xs,SqL K H1 a xs)∧R (Ite K a) H1
theorem qH7{a:Expr}{ta:TA}{p pos:Pos}{elts:List Expr}{x1}{pz:Pos}(hg:Gl X "enumerate")(hm:X.mg "enumerate"=none)(ha:PA X [a] ta)(hs:starEach [a] X.env=[(false,eval a X.env)]:=by rfl)(hs2:starEach ([]:List Expr) X.env=[]:=by rfl):
 PI X (.Tuple elts x1 pz) (.Call (.Name "enumerate" p) [a] [] pos) (iEnm X.K ta):=by
 intro pins s σ H R I h
 refine Call_ (q22 I hg hm (u:=.type "enumerate") (by kernel_rfl) (PyProof.Rows.callWith_type1 (thn (ha pos pins s σ H _ I h) λus s1 ⟨vs,H1,I1,r1,q1⟩=>?_) (by rw[hs,hs2]) (by rw[hs2];rfl)))
 obtain⟨a,ex,⟨xs,hq⟩,q⟩:=q1
 subst ex
 obtain⟨u,rfl,rx⟩:=zH r1
 cases rx
 obtain⟨its,rv,pl,hz⟩:=I1.list hq
 refine call_enumerate_list pl.isList λh' b1 b2 b3 b4=>?_
 have I2:Inv X pins σ H1 { s1 with heap:=h' }:=I1.kept (t':=s1.toks) b4
 have ne:s1.heap.objs.size+1≠s1.heap.objs.size:=Nat.succ_ne_self _
 refine wpAny_pyIter_enum (s:={ s1 with heap:=h' }) b1 ?_
 refine⟨s1.heap.objs.size+1,[s1.heap.objs.size+1,s1.heap.objs.size],_,_,H1,rfl,I2,qE4 _ _ a ne,⟨⟨_,b1⟩,b2⟩,λb hb=>?_,q⟩
 simp only[kI,gG,or_false]at hb
 rcases hb with rfl|rfl
 ·exact I1.fpOk (dC _) (I1.hok.fresh (dC _))
 ·exact I1.fpOk (kM _) (I1.hok.fresh (kM _))
theorem qFK{K:PySem.W.Frag}{l:Addr}{xs:List V}{g:TG}{tb:TS}{D:Ends}{σ:St}{H:Hp}(Pv:Nat→St→Hp→Prop)(h0:Pv 0 σ H)(hl:∀i σ H,Pv i σ H→SqL K H l xs)
 (hs:∀(i:Nat) σ H x T,xs[i]?=some x→Pv i σ H→H T=none→g (.ref T) σ (upd H T (.tup [.int i,x])) λσ2 H2=>tb { D with nx:=Pv (i+1),ct:=Pv (i+1),bk:=D.nx } σ2 H2) (hd:∀σ H,Pv xs.length σ H→D.nx σ H):
 ∃W:Nat→Nat→St→Hp→Prop,(∃m,W 0 m σ H)∧∀i m σ H,W i m σ H→
  ((Ite K l).stop i H∧D.nx σ H)∨((Ite K l).go i H∧∃N:St→Hp→Prop,(∀σ' H',N σ' H'→∃m',m'<m∧W (i+1) m' σ' H')∧∀x H',(Ite K l).yld i H x H'→g x σ H' λσ2 H2=>tb { D with nx:=N,ct:=N,bk:=D.nx } σ2 H2):=by
 refine⟨λi m σ H=>m=xs.length-i∧i≤xs.length∧Pv i σ H,⟨xs.length,by simp,mN _,h0⟩,?_⟩
 rintro i m σ H ⟨rfl,hi,p⟩
 have q:=hl i σ H p
 by_cases hlt:i<xs.length
 ·have e1:xs[i]?=some xs[i]:=hE hlt
  refine .inr ⟨⟨xs,_,q,e1⟩,Pv (i+1),λσ' H' z=>⟨xs.length-(i+1),by omega,rfl,by omega,z⟩,?_⟩
  rintro v H' ⟨T,x,rfl,nT,rfl,hx⟩
  exact hs i σ H x T (hx xs q) p nT
 ·obtain rfl:i=xs.length:=by omega
  exact .inl ⟨⟨xs,q,kM _⟩,hd σ H p⟩
end
structure Mk0(K:PySem.W.Frag)(C:Addr):Prop where
 makes:PySem.W.makesIn K C=true
 init:PySem.W.findIn K (.ref C) "__init__"=some (some (.builtin "object.__init__"))
 kp:PySem.W.keepIn K (.ref C)=true
section
variable{X:Cx}{C:Addr}{x:Str}{p pos:Pos}
noncomputable def tMk0(C:Addr):TE:=λσ H Q=>∀x dx,H x=none→H dx=none→dx≠x→Q (.ref x) (upd (upd H dx (.own x)) x (.ins C dx []))
theorem qFL{pins:List (Addr×Obj)}{σ:St}{H:Hp}{s:Shared}{Q:VK}(M:Mk0 X.K C)(I:Inv X pins σ H s)(h:tMk0 C σ H Q):wpAny (model X.prog X.w) X.A (call (.ref C) []) (EP X pins σ Q) X.xe s:=by
 have hq:=h (s.heap.objs.size+1) s.heap.objs.size (I.hok.fresh (dC _)) (I.hok.fresh (kM _)) (mM (Nat.lt_succ_self _))
 have I2:=Inv.made (C:=C) I
 have kin:=I.kIn
 obtain⟨hp,g,d,t,os⟩:=s
 have Y:=PySem.W.makes_of (M:=model X.prog X.w) kin M.makes
 have hx:((hp.push PySem.W.emptyDict).push (PySem.W.instObj C hp.objs.size)).get? (hp.objs.size+1)=some (PySem.W.instObj C hp.objs.size):=by
  have:=mI (hp.push PySem.W.emptyDict) (o:=PySem.W.instObj C hp.objs.size) rfl
  rwa [PySem.Heap.size_push]at this
 have ty:PySem.W.Looks (model X.prog X.w) ((hp.push PySem.W.emptyDict).push (PySem.W.instObj C hp.objs.size)) (typeOf (.ref (hp.objs.size+1))) (.ref C):=(PySem.W.Looks.ld hx).andThen .now
 have top:PySem.W.Looks (model X.prog X.w) ((hp.push PySem.W.emptyDict).push (PySem.W.instObj C hp.objs.size)) (isInstance (.ref (hp.objs.size+1)) (.type "object")) true:=ty.andThen (Y.top.keeps λb o e=>hZ _ (hZ _ e))
 refine PySem.wpAny_call (PySem.W.make_core Y (PySem.W.looks_findIn kin M.init) (λself=>PySem.W.Looks.of_pure (PySem.W.oi_bind self)) (.inr ⟨rfl,rfl⟩) ?_)
 refine codeAny_call_builtin PySem.W.oi_plain PySem.W.entry_oi (@PySem.W.check_slot (model X.prog X.w) _ _ _ "object.__init__" "object" "__init__" (.ref (hp.objs.size+1)) [] [] _ PySem.W.oi_kind PySem.W.oi_split top (PySem.W.oi_args (.ref (hp.objs.size+1))) ?_)
 rw[PySem.W.oi_run]
 exact kZ ⟨rfl,⟨.ref (hp.objs.size+1),_,I2,rfl,hq⟩⟩
theorem q4Q(M:Mk0 X.K C)(hg:Gl X x)(hm:X.mg x=some (.ref C))(hdb:(x==("__debug__":Str))=false:=by decide):PE X (.Call (.Name x p) [] [] pos) (tMk0 C):=by
 intro pins s σ H Q I h
 exact dA (q46 I hg hm (PySem.W.callWith_K0 I.kIn M.kp (qFL M I h)) hdb)
theorem vE{e:Expr}{t1 t2:TE}(h1:PE X e t1)(h2:PE X e t2):PE X e (λσ H Q=>t1 σ H Q∨t2 σ H Q):=λpins s σ H Q I h=>h.elim (h1 pins s σ H Q I) (h2 pins s σ H Q I)
end
section
variable{X:Cx}{pins:List (Addr×Obj)}{σ:St}{H:Hp}{s:Shared}{a:Addr}
theorem Inv.freeze{kvs:List (Key×V)}{o:Obj}(I:Inv X pins σ H s)(e:H a=some (.dK kvs))(ho:s.heap.get? a=some o):Inv X pins σ (upd H a (.frz o (.dK kvs))) s:=by
 have ne:∀b u,H b=some u→u≠ .dK kvs→b≠a:=λb u q n z=>by rw[z,e]at q;exact n (kF q).symm
 have nn:∀b,H b=none→b≠a:=λb q z=>by rw[z,e]at q;cases q
 refine⟨I.ok,I.os,I.bare,I.base.trans ⟨λb u q _ _ _=>q,λb u q _ _ _=>⟨u.slots,q⟩,λb u q n _=>by rw[qD (nn b n)];exact n,λb u q _=>⟨u,q⟩,
  λb xs q=>by rw[qD (ne b _ q (by intro z;cases z))];exact q,λb u v q=>by rw[qD (ne b _ q (by intro z;cases z))];exact q,λb ps q=>⟨#[],by rw[qD (ne b _ q (by intro z;cases z)),q];simp⟩⟩,
  I.loc,I.cell,by rw[qD (nn _ I.free)];exact I.free,λx c q=>by rw[qD (nn _ (I.freeC x c q))];exact I.freeC x c q,λp hp=>?_,λb u q=>?_,I.len⟩
 ·obtain⟨q1,q2,q3⟩:=I.pin p hp
  exact⟨q1,by rw[qD (nn _ q2)];exact q2,q3⟩
 ·have st:∀b u,jN X.prog X.w H s.heap b u→jN X.prog X.w (upd H a (.frz o (.dK kvs))) s.heap b u:=λb u q=>
   q.stay (λ_ _ _ z=>z) (λc z=>by rw[qD (ne c _ z (by intro z;cases z))];exact z) (λc xs z=>by rw[qD (ne c _ z (by intro z;cases z))];exact z)
  by_cases hb:b=a
  ·subst hb
   rw[qH]at q
   cases q
   exact⟨ho,st b _ (I.hok b _ e)⟩
  ·rw[qD hb]at q
   exact st b u (I.hok b u q)
theorem Inv.thaw{o:Obj}{u:HO}(I:Inv X pins σ H s)(hne:∀o u,X.H₀ a≠some (.frz o u))(e:H a=some (.frz o u)):Inv X pins σ (upd H a u) s:=by
 have ne:∀b v,H b=some v→v≠ .frz o u→b≠a:=λb v q n z=>by rw[z,e]at q;exact n (kF q).symm
 have nn:∀b,H b=none→b≠a:=λb q z=>by rw[z,e]at q;cases q
 have nf:∀b v,X.H₀ b=some v→(∃o' u',v=.frz o' u')→b≠a:=λb v q ⟨o',u',z⟩ w=>by rw[w,z]at q;exact hne o' u' q
 refine⟨I.ok,I.os,I.bare,⟨I.base.keep,I.base.slot,λb v q n hx=>?_,I.base.there,λb xs q=>?_,λb v w q=>?_,λb ps q=>?_⟩,
  I.loc,I.cell,by rw[qD (nn _ I.free)];exact I.free,λx c q=>by rw[qD (nn _ (I.freeC x c q))];exact I.freeC x c q,λp hp=>?_,λb v q=>?_,I.len⟩
 ·have:=I.base.free b v q n hx
  rw[qD (nn b this)]
  exact this
 ·have:=I.base.tups b xs q
  rw[qD (ne b _ this (by intro z;cases z))]
  exact this
 ·rw[qD (nf b _ q ⟨_,_,rfl⟩)]
  exact I.base.frzs b v w q
 ·obtain⟨more,q2⟩:=I.base.tbls b ps q
  exact⟨more,by rw[qD (ne b _ q2 (by intro z;cases z))];exact q2⟩
 ·obtain⟨q1,q2,q3⟩:=I.pin p hp
  exact⟨q1,by rw[qD (nn _ q2)];exact q2,q3⟩
 ·have st:∀b v,jN X.prog X.w H s.heap b v→jN X.prog X.w (upd H a u) s.heap b v:=λb v q=>
   q.stay (λ_ _ _ z=>z) (λc z=>by rw[qD (ne c _ z (by intro z;cases z))];exact z) (λc xs z=>by rw[qD (ne c _ z (by intro z;cases z))];exact z)
  by_cases hb:b=a
  ·subst hb
   rw[qH]at q
   cases q
   exact st b _ (I.hok b _ e).2
  ·rw[qD hb]at q
   exact st b v (I.hok b v q)
end
noncomputable def Itd(a:Addr)(o:Obj)(kvs:List (Key×V)):It:=
 ⟨λi H=>H a=some (.frz o (.dK kvs))∧i<kvs.length,λi H x H'=>H'=H∧∃kv,kvs[i]?=some kv∧x=kV kv.1,λi H=>H a=some (.frz o (.dK kvs))∧kvs.length≤i⟩
theorem qE5{P:Program}{w:World}{K:PySem.W.Frag}{tg:Expr}(a it:Addr)(o:Obj){kvs:List (Key×V)}{vs:List (Key×Value)}{ep:Nat}(rel:KV kvs vs)(hD:∀h:Heap,h.get? a=some o→h.DictAt (jZ P w) a vs ep):
 Turn P w K tg (Itd a o kvs) [it] it (λi h=>h.IsKeyIter it a i vs.length ep) where
 mem:=by simp
 obj:=λi h st b hb=>by
  have e:b=it:=by simpa using hb
  subst e
  obtain⟨o',e,c,d⟩:=st
  exact⟨o',e,λv z=>by rw[d]at z;cases z⟩
 keep:=λi h h' st k=>st.at λo e=>k it (by simp) o e
 item:=by
  intro X hP hw hK hc i pins s σ H E I hf st hg
  subst hP hw hK
  obtain⟨ha,hi⟩:=hg
  obtain⟨ho,_⟩:=I.hok a _ ha
  have hl:=rel.length
  have hi':i<vs.length:=by omega
  obtain⟨f0,f1,f2,f3,f4,f5⟩:=hf it (by simp)
  refine wpAny_pyNext_dict_item (k:=vs[i].1) (v:=vs[i].2) st (hD _ ho) (hE hi') λkey h' hk st' sb=>?_
  have I1:Inv X pins σ H { s with heap:=h' }:=I.turned (t':=s.toks) (λb o hb e=>(sb.2 b hb).trans e) f0 f1 f3 f4 f5
  obtain⟨o',e',c',d'⟩:=id st'
  refine⟨key,rfl,qES (s:={ s with heap:=h' }) e' c' d' (by decide) ⟨kV kvs[i].1,H,I1,?_,⟨rfl,kvs[i],hE hi,rfl⟩,st',λb hb=>(hf b hb).1⟩⟩
  have ek:=dB (λl=>l[i]?) rel.keys
  simp only[kN,hE hi,hE hi',Option.map_some]at ek
  rw[kF ek]
  exact qI7 hk
 done:=by
  intro X hP hw hK hc i pins s σ H E I hf st hg
  subst hP hw hK
  obtain⟨ha,hi⟩:=hg
  obtain⟨ho,_⟩:=I.hok a _ ha
  have hl:=rel.length
  obtain⟨f0,f1,f2,f3,f4,f5⟩:=hf it (by simp)
  exact wpAny_pyNext_dict_end (I.ok.hd hc) st (hD _ ho) (rH (by omega)) λh' eb=>⟨rfl,I.turned (t':=s.toks) (λb o hb e=>eb b o hb e) f0 f1 f3 f4 f5⟩
 self:=λ_ _ _ _ _ st h=>wpAny_pyIter_keyiter st h
section
variable{X:Cx}{tg:Expr}
noncomputable def iDct(td:TE):TI:=λσ H R=>td σ H λx H1=>∃a kvs,x=.ref a∧H1 a=some (.dK kvs)∧∀o,R (Itd a o kvs) (upd H1 a (.frz o (.dK kvs)))
theorem qH8{d:Expr}{td:TE}(hd:PE X d td):PI X tg d (iDct td):=by
 intro pins s σ H R I h
 refine thn (hd pins s σ H _ I h) λv s1 hZ=>?_
 obtain⟨x,H1,I1,r1,q1⟩:=hZ
 obtain⟨a,kvs,e,ha,q⟩:=q1
 subst e
 cases r1
 obtain⟨z,lo,vs,rel,dd⟩:=q8S I1.hok ha
 obtain⟨ep,hat⟩:=dd.dictAt
 obtain⟨o,es,ho,hr⟩:=id hat
 have I2:=I1.freeze ha ho
 refine wpAny_pyIter_dict lo hat ?_
 refine⟨s1.heap.objs.size,[s1.heap.objs.size],_,_,_,rfl,I2.kept (t':=s1.toks) λb o e=>hZ _ e,qE5 a _ o rel (λh' h=>⟨o,es,h,hr⟩),⟨_,mI _ rfl,rfl,rfl⟩,λb hb=>?_,q o⟩
 have e:b=s1.heap.objs.size:=by simpa using hb
 subst e
 exact I2.fpOk (kM _) (I2.hok.fresh (kM _))
theorem qJH{pins:List (Addr×Obj)}{σ:St}{H:Hp}{s:Shared}{a:Addr}{kvs:List (Key×V)}(I:Inv X pins σ H s)(e:H a=some (.dK kvs)):∀o u,X.H₀ a≠some (.frz o u):=λo u q=>by
 have:=I.base.frzs a o u q
 rw[e]at this
 cases this
noncomputable def qL2(t:TE):TE:=λσ H Q=>∃a kvs,H a=some (.dK kvs)∧t σ H λv H'=>∃o u,H' a=some (.frz o u)∧Q v (upd H' a u)
theorem qD2{e:Expr}{t:TE}(h:PE X e t):PE X e (qL2 t):=by
 intro pins s σ H Q I hZ
 obtain⟨a,kvs,ha,q⟩:=hZ
 have nf:=qJH I ha
 refine thn (h pins s σ H _ I q) λu s' ⟨v,H',I',r,o,w,e,q⟩=>⟨v,_,I'.thaw nf e,r,q⟩
theorem qH9{a:Addr}{o:Obj}{kvs:List (Key×V)}{D:Addr}{H2:Hp}{g:TG}{tc:TT}{te:TE}{σ0:St}{Q:VK}(Pv:Nat→Hp→Prop)(h0:Pv 0 H2)(hl:∀i H,Pv i H→H a=some (.frz o (.dK kvs)))
 (hs:∀(i:Nat) kv H,kvs[i]?=some kv→Pv i H→g (kV kv.1) σ0 H λσ5 H5=>tc σ5 H5 λb H6=>if b=true then te σ5 H6 (λv H7=>∃vs,H7 D=some (.lst vs)∧vs.length<sizeLine∧Pv (i+1) (upd H7 D (.lst (vs++[v]))))else Pv (i+1) H6) (hd:∀H,Pv kvs.length H→Q (.ref D) H):
 ∃W:Nat→Nat→Hp→Prop,(∃m,W 0 m H2)∧∀i m H3,W i m H3→((Itd a o kvs).stop i H3∧Q (.ref D) H3)∨
  ((Itd a o kvs).go i H3∧∃N:Hp→Prop,(∀H',N H'→∃m',m'<m∧W (i+1) m' H')∧∀x H4,(Itd a o kvs).yld i H3 x H4→g x σ0 H4 λσ5 H5=>tc σ5 H5 λb H6=>
   if b=true then te σ5 H6 (λv H7=>∃vs,H7 D=some (.lst vs)∧vs.length<sizeLine∧N (upd H7 D (.lst (vs++[v]))))else N H6):=by
 refine⟨λi m H=>m=kvs.length-i∧i≤kvs.length∧Pv i H,⟨kvs.length,by simp,mN _,h0⟩,?_⟩
 rintro i m H ⟨rfl,hi,p⟩
 have q:=hl i H p
 by_cases hlt:i<kvs.length
 ·refine .inr ⟨⟨q,hlt⟩,Pv (i+1),λH' z=>⟨kvs.length-(i+1),by omega,rfl,by omega,z⟩,?_⟩
  rintro v H' ⟨rfl,kv,hk,rfl⟩
  exact hs i kv _ hk p
 ·obtain rfl:i=kvs.length:=by omega
  exact .inl ⟨⟨q,kM _⟩,hd _ p⟩
end
section
variable{X:Cx}
theorem qAW{ns:List Int}{us:List Value}(r:Vals (ns.map V.int) us){j:Nat}(h:j<us.length):∃t,us[j]=.int (ns.getD j 0) t:=by
 obtain⟨x,e,q⟩:=r.atN h
 rw[kN]at e
 cases z:ns[j]? with
 |none=>rw[z]at e;cases e
 |some i=>
  rw[z]at e
  obtain rfl:V.int i=x:=kF e
  obtain⟨t,q⟩:=q
  refine⟨t,?_⟩
  rw[hU,z]
  exact q
theorem qFM{ns ms:List Int}(h:ns.length=ms.length):(List.range ns.length).all (λj=>ns.getD j 0==ms.getD j 0)=decide (ns=ms):=by
 rw[Bool.eq_iff_iff,gW,kW]
 constructor
 ·intro z
  refine List.ext_getElem h λj h1 h2=>?_
  have:=z j (mK.mpr h1)
  rw[beq_iff_eq,hU,hU,hE h1,hE h2]at this
  exact this
 ·rintro rfl j _
  exact beq_self_eq_true _
noncomputable def qL3(K:PySem.W.Frag):R2:=λx y H Q=>∃(a b:Addr) (ns ms:List Int),x=.ref a∧y=.ref b∧SqT K H a (ns.map V.int)∧SqT K H b (ms.map V.int)∧ns.length=ms.length∧Q (.bl (!decide (ns=ms))) H
theorem qHA(hu:X.A.units+64<cLine):OpR X (compareOp .NotEq) (qL3 X.K):=by
 intro pins s σ H x y v u Q I rx ry h
 obtain⟨a,b,ns,ms,rfl,rfl,ha,hb,hl,q⟩:=h
 cases rx
 cases ry
 obtain⟨i1,r1,p1,_⟩:=I.tuple ha
 obtain⟨i2,r2,p2,_⟩:=I.tuple hb
 have l1:=r1.length
 have l2:=r2.length
 rw[hC]at l1 l2
 refine SeqAt.RcNeAt.tuples (e:=λj=>ns.getD j 0==ms.getD j 0) (show s.heap.IsTuple a i1.toArray from p1) (show s.heap.IsTuple b i2.toArray from p2) (by omega) (λj h1 h2=>?_) _ _ _ _ ⟨.bl _,H,I,?_,q⟩
 ·obtain⟨t1,e1⟩:=qAW r1 (j:=j) (by simpa using h1)
  obtain⟨t2,e2⟩:=qAW r2 (j:=j) (by simpa using h2)
  have z:=PySem.SeqAt.EqAt.int_int (A:=X.A.in1) (s:=s) (ns.getD j 0) t1 (ms.getD j 0) t2
  rw[←e1,←e2]at z
  simpa using z
 ·rw[show min i1.toArray.size i2.toArray.size=ns.length by simp;omega,qFM hl,show(i1.toArray.size==i2.toArray.size)=true by simp;omega,Bool.and_true]
  rfl
end
end L2
namespace W1
open PySem L2
structure Tl where
 b:Int
 lv:Int
 cl:Int
 bo:Int
noncomputable abbrev Tl.ns(T:Tl):List Int:=[T.b,T.lv,T.cl,T.bo]
noncomputable def TlAt(H:Hp)(v:V)(T:Tl):Prop:=∃a,v=.ref a∧H a=some (.tup (T.ns.map V.int))
theorem TlAt.same{H H':Hp}{v:V}{T:Tl}(s:Same H H')(h:TlAt H v T):TlAt H' v T:=let⟨a,e,z⟩:=h;⟨a,e,s _ _ z⟩
noncomputable abbrev Tls(H:Hp):List V→List Tl→Prop:=Paired (TlAt H)
theorem Tls.same{H H':Hp}{vs:List V}{ts:List Tl}(s:Same H H')(h:Tls H vs ts):Tls H' vs ts:=Paired.mapP h λ_ _ z=>z.same s
theorem Tl.eq_of{A B:Tl}(h:A.ns=B.ns):A=B:=by
 cases A;cases B
 simp[Tl.ns]at h
 simp[h]
structure Tl.Ok(pg nw:Int)(T:Tl):Prop where
 b0:0≤T.b
 b1:T.b<16
 l0:0≤T.lv
 l1:T.lv≤pg
 c0:0≤T.cl
 c1:T.cl<10 ^ 30
 o0:0≤T.bo
 o1:T.bo<nw
noncomputable def unb(f:Tl→Int)(ts:List Tl)(T:Tl):Bool:=ts.all λo=>!decide (f o<f T)
theorem q6M(f:Tl→Int):∀ts:List Tl,ts≠[]→∃T∈ts,∀o∈ts,f T≤f o
 | [],h=>absurd rfl h
 | [T],_=>⟨T,kC.mpr rfl,λo ho=>by rw[kC.mp ho];exact dD _⟩
 |T::U::r,_=>by
  obtain⟨M,hm,hl⟩:=q6M f (U::r) (by simp)
  by_cases h:f T≤f M
  ·refine⟨T,mL ..,λo ho=>?_⟩
   rcases kI.mp ho with rfl|ho
   ·exact dD _
   ·have:=hl o ho
    omega
  ·refine⟨M,kE _ hm,λo ho=>?_⟩
   rcases kI.mp ho with rfl|ho
   ·omega
   ·exact hl o ho
theorem q32{f:Tl→Int}{ts:List Tl}{T:Tl}:unb f ts T=true↔∀o∈ts,f T≤f o:=by
 unfold unb
 rw[gW]
 constructor
 ·intro h o ho
  have:=h o ho
  rw[dW,decide_eq_false_iff_not]at this
  omega
 ·intro h o ho
  have:=h o ho
  rw[dW,decide_eq_false_iff_not]
  omega
theorem q6N(f:Tl→Int)(ts:List Tl)(h:ts≠[]):∃i,∃hi:i<ts.length,unb f ts ts[i]=true∧∀j,∀hj:j<i,unb f ts (ts[j]'(by omega))=false:=by
 obtain⟨T,hT,hm⟩:=q6M f ts h
 obtain⟨k,hk,e⟩:=gK hT
 have key:∀n,n<ts.length→(∃z:n<ts.length,unb f ts ts[n]=true)→∃i,∃hi:i<ts.length,unb f ts ts[i]=true∧∀j,∀hj:j<i,unb f ts (ts[j]'(by omega))=false:=by
  intro n
  induction n using Nat.strongRecOn with
  |ind n ih=>
   intro hn hZ
   obtain⟨z,hu⟩:=hZ
   by_cases g:∃j,∃hj:j<n,unb f ts (ts[j]'(by omega))=true
   ·obtain⟨j,hj,u⟩:=g
    exact ih j hj (by omega) ⟨by omega,u⟩
   ·refine⟨n,hn,hu,λj hj=>?_⟩
    cases u:unb f ts (ts[j]'(by omega))with
    |false=>rfl
    |true=>exact absurd ⟨j,hj,u⟩ g
 exact key k hk ⟨hk,q32.mpr (by rw[e];exact hm)⟩
noncomputable def pk(f:Tl→Int)(ts:List Tl):Int:=((ts.find? (unb f ts)).map Tl.b).getD 0
theorem qFN{f:Tl→Int}{ts:List Tl}{i:Nat}(hi:i<ts.length)(u:unb f ts ts[i]=true)(n:∀j,∀hj:j<i,unb f ts (ts[j]'(by omega))=false):pk f ts=ts[i].b:=by
 have e:ts.find? (unb f ts)=some ts[i]:=by
  rw[List.find?_eq_some_iff_getElem]
  exact⟨u,i,hi,rfl,λj hj=>by rw[n j hj];rfl⟩
 unfold pk
 rw[e]
 rfl
theorem qFO{xs:List V}{m:Int}(h:0≤m):cutV xs none (some m)=xs.take m.toNat:=by
 unfold cutV
 rw[show HT.sIx xs.length 0 none=0 from rfl,List.drop_zero,Nat.sub_zero]
 have e:HT.sIx xs.length xs.length (some m)=min m.toNat xs.length:=by
  unfold HT.sIx
  simp only
  split<;>omega
 rw[e,List.take_eq_take_min,Nat.min_assoc,Nat.min_self,←List.take_eq_take_min]
theorem Paired.takeP{α β:Type}{F:α→β→Prop}:∀(n:Nat) {l₁:List α} {l₂:List β},Paired F l₁ l₂→Paired F (l₁.take n) (l₂.take n)
 |0,_,_,_=>.nil
 |_ +1,_,_,.nil=>.nil
 |n+1,_,_,.cons h t=>.cons h (Paired.takeP n t)
theorem q9F{H:Hp}{x dx C:Addr}(nx:H x=none)(nd:H dx=none):Same H (upd (upd H dx (.own x)) x (.ins C dx [])):=λb o e=>by
 rw[qD (qI e nx),qD (qI e nd)]
 exact e
end W1
namespace L2
open PySem PySem.Spec PyProof.Rows
theorem q4D{X:Cx}{K:PySem.W.Frag}(e:X.K=K):IxR X (rIxT K):=by
 subst e
 exact jL
theorem vM{X:Cx}{K:PySem.W.Frag}(e:X.K=K):IxR X (rIxL K):=by
 subst e
 exact jE
theorem q27{X:Cx}{elt iter tg:Expr}{ifs:List Expr}{scope:Scope}{pos py spos:Pos}{wi:TI}{g:TG}{tc:TT}{te:TE}{i:Nat}{y:Str}(N:List Str)(ix:List Nat)(hcalm:X.calm=true)(hi:PI X tg iter wi)
 (hg:∀C fp s H xe,PG (vZ X N scope C fp s H xe) tg g) (hif:∀C fp s H xe,PIf (vZ X N scope C fp s H xe) ifs tc) (he:∀C fp s H xe,PE (vZ X N scope C fp s H xe) elt te)
 (ok:qD0 X.N X.env.kindOf scope N ix=true) (hown:Own g ix.length) (hN:X.N.Nodup) (hy:X.N[i]?=some y) (hl:Loc X.env.scope y)
 (hsw:swapsWith (.ListComp elt [⟨tg,iter,ifs,0⟩] scope pos) (some (.Name y py)) spos.line X.env=pure true:=by rfl) (hf:X.fn y=true∨X.env.scope.names.lookup y=some .local:=by first|exact .inl rfl|exact .inr rfl|assumption)
 (hs:∀x,foldedSetIterable iter X.env x=pure x:=by intro _;rfl):
 PS X (.Assign [.Name y py] (.ListComp elt [⟨tg,iter,ifs,0⟩] scope pos) spos) (tAsg (tLC wi g tc te ix (N.length-ix.length)) (q0U i)):=by
 unfold qD0 at ok
 rw[mT,mT,mT,gW]at ok
 obtain⟨⟨⟨h1,h2⟩,h3⟩,h4⟩:=ok
 have h2':∀y∈scope.names,y.2≠ .cell∧(y.2≠ .free∨X.env.kindOf y.1=some .cell)∧(y.2≠ .local∨scope.names.lookup y.1=some .local):=λy hy=>by
  have q:=h2 y hy
  rw[mT,mT,Bool.or_eq_true,Bool.or_eq_true,kW,kW,kW,kW,kW]at q
  exact⟨q.1.1,q.1.2,q.2⟩
 intro pins s σ H D I h
 rw[exec_Assign_Name_used _ _ _ _ hsw]
 refine kD (PySem.wpAny_standAt (kD ?_))
 show wpAny _ X.A (do let _←comprehension (.ListComp elt [⟨tg,iter,ifs,0⟩] scope pos) scope X.env _ (newList []) false (eval iter X.env) (some (assign (.Name y py) X.env))) _ _ s
 refine kD (dY (qCZ (use:=some (assign (.Name y py) X.env)) (QQ:=λ_ s'=>∃σ' H',Inv X pins σ' H' s'∧D.nx σ' H') N ix hcalm hi hg hif he (kP h1) (λy hy=>(h2' y hy).1) (λy hy e=>(h2' y hy).2.1.resolve_left (λz=>z e)) h3 (kP h4) (λy hy e=>(h2' y hy).2.2.resolve_left (λz=>z e)) hown I h
  (λC Dl H' s' m hm fp inv q=>?_) hs) (λ_ s' hq=>kZ (kZ hq)) λ_ _ e=>e)
 have I':Inv X pins σ H' s':=inv s'.heap (Heap.SameBut.refl _ _)
 show wpAny _ _ (assign (.Name y py) X.env (.ref Dl)) _ _ _
 refine wpAny_assign_Name (q8G (v:=.ref Dl) I' hN hy hl rfl (λs'' I'' hZ=>?_) hf)
 obtain⟨a,sb,ha⟩:=hZ
 have aC:C≠a:=λz=>by
  rcases ha with ha|ha
  ·exact fp.2.1 (z.trans ha)
  ·exact fp.2.2.2.2.1 _ _ ha z.symm
 refine⟨m,hm.sameBut sb aC,λh' sb'=>⟨_,H',I''.turnedN (t':=s''.toks) (fp:=[C]) (λb o hb e=>sb'.extBut b o (λz=>hb (kC.mpr z)) e) (λb hb=>by rw[kC.mp hb];exact fp),q⟩⟩
theorem q4R{lo:Int}{n k:Nat}{D:Addr}{H2:Hp}{te:TE}{σ0:St}{R:Hp→Prop}(Pv:Nat→Hp→Prop)(h0:Pv 0 H2)
 (hs:∀(i:Nat) H,i<n→Pv i H→te (σ0.set k (some (.int (lo+i)))) H (λv H7=>∃vs,H7 D=some (.lst vs)∧vs.length<sizeLine∧Pv (i+1) (upd H7 D (.lst (vs++[v]))))) (hd:∀H,Pv n H→R H):
 ∃W:Nat→Nat→Hp→Prop,(∃m,W 0 m H2)∧∀i m H3,W i m H3→((Itr lo n).stop i H3∧R H3)∨
  ((Itr lo n).go i H3∧∃N:Hp→Prop,(∀H',N H'→∃m',m'<m∧W (i+1) m' H')∧∀x H4,(Itr lo n).yld i H3 x H4→q0U k x σ0 H4 λσ5 H5=>q4A σ5 H5 λb H6=>
   if b=true then te σ5 H6 (λv H7=>∃vs,H7 D=some (.lst vs)∧vs.length<sizeLine∧N (upd H7 D (.lst (vs++[v]))))else N H6):=
 qE2 (Q:=λ_ H=>R H) Pv h0 hs hd
theorem vN{K:PySem.W.Frag}{a:Addr}{xs:List V}{D:Addr}{H2:Hp}{g:TG}{tc:TT}{te:TE}{σ0:St}{R:Hp→Prop}(Pv:Nat→Hp→Prop)(h0:Pv 0 H2)(hl:∀i H,Pv i H→SqL K H a xs)
 (hs:∀(i:Nat) x H,xs[i]?=some x→Pv i H→g x σ0 H λσ5 H5=>tc σ5 H5 λb H6=>if b=true then te σ5 H6 (λv H7=>∃vs,H7 D=some (.lst vs)∧vs.length<sizeLine∧Pv (i+1) (upd H7 D (.lst (vs++[v]))))else Pv (i+1) H6) (hd:∀H,Pv xs.length H→R H):
 ∃W:Nat→Nat→Hp→Prop,(∃m,W 0 m H2)∧∀i m H3,W i m H3→((Itl K a).stop i H3∧R H3)∨
  ((Itl K a).go i H3∧∃N:Hp→Prop,(∀H',N H'→∃m',m'<m∧W (i+1) m' H')∧∀x H4,(Itl K a).yld i H3 x H4→g x σ0 H4 λσ5 H5=>tc σ5 H5 λb H6=>
   if b=true then te σ5 H6 (λv H7=>∃vs,H7 D=some (.lst vs)∧vs.length<sizeLine∧N (upd H7 D (.lst (vs++[v]))))else N H6):=
 qD1 (Q:=λ_ H=>R H) Pv h0 hl hs hd
theorem zI{K:PySem.W.Frag}{a:Addr}{xs:List V}{k:Nat}{D:Addr}{H2:Hp}{te:TE}{σ0:St}{R:Hp→Prop}(Pv:Nat→Hp→Prop)(h0:Pv 0 H2)(hl:∀i H,Pv i H→SqL K H a xs)
 (hs:∀(i:Nat) x H,xs[i]?=some x→Pv i H→te (σ0.set k (some x)) H (λv H7=>∃vs,H7 D=some (.lst vs)∧vs.length<sizeLine∧Pv (i+1) (upd H7 D (.lst (vs++[v]))))) (hd:∀H,Pv xs.length H→R H):
 ∃W:Nat→Nat→Hp→Prop,(∃m,W 0 m H2)∧∀i m H3,W i m H3→((Itl K a).stop i H3∧R H3)∨
  ((Itl K a).go i H3∧∃N:Hp→Prop,(∀H',N H'→∃m',m'<m∧W (i+1) m' H')∧∀x H4,(Itl K a).yld i H3 x H4→q0U k x σ0 H4 λσ5 H5=>q4A σ5 H5 λb H6=>
   if b=true then te σ5 H6 (λv H7=>∃vs,H7 D=some (.lst vs)∧vs.length<sizeLine∧N (upd H7 D (.lst (vs++[v]))))else N H6):=
 qFJ (Q:=λ_ H=>R H) Pv h0 hl hs hd
end L2
namespace L2
open PySem PySem.W PyProof.Rows
noncomputable def hT{α:Type}(c:Nat→Nat→Bool)(n:Nat):KasT α→(α→Prop)→Prop
 | .ret a,Q=>Q a
 | .ask i j k,Q=>i<n∧j<n∧hT c n (k (c i j)) Q
theorem yX{α:Type}{c:Nat→Nat→Bool}{n:Nat}{Q Q':α→Prop}(h:∀a,Q a→Q' a):∀t:KasT α,hT c n t Q→hT c n t Q'
 | .ret a,q=>h a q
 | .ask i j k,q=>⟨q.1,q.2.1,yX h (k (c i j)) q.2.2⟩
theorem q33{α β:Type}{c:Nat→Nat→Bool}{n:Nat}{f:α→KasT β}{Q:β→Prop}:∀t:KasT α,hT c n t (λa=>hT c n (f a) Q)→hT c n (t.bind f) Q
 | .ret a,q=>q
 | .ask i j k,q=>⟨q.1,q.2.1,q33 (k (c i j)) q.2.2⟩
theorem qFP{α:Type}{c:Nat→Nat→Bool}{n:Nat}{cmp:Nat→Nat→(Bool→Shared→Prop)→Shared→Prop}{G:α→Shared→Prop}{s:Shared}(hc:∀i j C,i<n→j<n→C (c i j) s→cmp i j C s):
 ∀t:KasT α,hT c n t (λa=>G a s)→t.kasWp cmp G s
 | .ret a,q=>q
 | .ask i j k,q=>hc i j _ q.1 q.2.1 (qFP hc (k (c i j)) q.2.2)
section
variable{r:Nat→Int}{n:Nat}
noncomputable abbrev rc(r:Nat→Int):Nat→Nat→Bool:=λi j=>decide (r i<r j)
noncomputable abbrev kk(r:Nat→Int)(p:Array Nat)(i:Nat):Int:=r (p.getD i 0)
noncomputable def Srt(r:Nat→Int)(p:Array Nat)(m:Nat):Prop:=∀i j,i≤j→j<m→kk r p i≤kk r p j
noncomputable def Dec(r:Nat→Int)(p:Array Nat)(m:Nat):Prop:=∀i j,i≤j→j<m→kk r p j≤kk r p i
noncomputable def Gp(n:Nat)(p:Array Nat):Prop:=p.Perm (List.range n).toArray
theorem Gp.size{p:Array Nat}(g:Gp n p):p.size=n:=by
 have:=g.size_eq
 simpa using this
theorem Gp.lt{p:Array Nat}(g:Gp n p){i:Nat}(h:i<n):p.getD i 0<n:=by
 have hi:i<p.size:=by rw[g.size];exact h
 have e:p.getD i 0=p[i]:=by simp[Array.getD,hi]
 have:p[i]∈(List.range n).toArray:=g.mem_iff.mp (Array.getElem_mem hi)
 rw[e]
 simpa using this
theorem Srt.more{p:Array Nat}{m:Nat}(h:Srt r p m)(e:kk r p (m-1)≤kk r p m):Srt r p (m+1):=λi j hij hj=>by
 by_cases z:j<m
 ·exact h i j hij z
 ·have ej:j=m:=by omega
  subst ej
  by_cases z2:i=j
  ·subst z2;exact dD _
  ·exact Int.le_trans (h i (j-1) (by omega) (by omega)) e
theorem Dec.more{p:Array Nat}{m:Nat}(h:Dec r p m)(e:kk r p m≤kk r p (m-1)):Dec r p (m+1):=λi j hij hj=>by
 by_cases z:j<m
 ·exact h i j hij z
 ·have ej:j=m:=by omega
  subst ej
  by_cases z2:i=j
  ·subst z2;exact dD _
  ·exact Int.le_trans e (h i (j-1) (by omega) (by omega))
theorem q4E{p q:Array Nat}{i j:Nat}(h:p[i]?=q[j]?):p.getD i 0=q.getD j 0:=by
 rw[pC,pC,h]
theorem qC5{p:Array Nat}{i j:Nat}(hj:j≤p.size)(k:Nat):(kas_rev p i j).getD k 0=if i≤k∧k<j then p.getD (i+j-1-k) 0 else p.getD k 0:=by
 unfold kas_rev
 by_cases h:i≤k∧k<j
 ·rw[kG h]
  exact q4E (by rw[getElem?_mirror_all hj,kG h])
 ·rw[hX h]
  exact q4E (by rw[getElem?_mirror_all hj,hX h])
theorem Gp.rev{p:Array Nat}(g:Gp n p)(i j:Nat):Gp n (kas_rev p i j):=(mirror_perm _ _ _ _).trans g
theorem qC6{p:Array Nat}(g:Gp n p):∀(f m:Nat),1≤m→m+f≤n→Srt r p m→hT (rc r) n (kas_asc p f m) (λe=>m≤e∧e≤m+f∧Srt r p e∧(e<m+f→kk r p e<kk r p (e-1)))
 |0,m,h1,hz,h=>⟨kM _,kM _,h,λz=>absurd z (gX _)⟩
 |f+1,m,h1,hz,h=>by
  refine⟨g.lt (by omega),g.lt (by omega),?_⟩
  by_cases e:r (p.getD m 0)<r (p.getD (m-1) 0)
  ·rw[show rc r (p.getD m 0) (p.getD (m-1) 0)=true from hI e];dsimp only;rw[kG rfl]
   exact⟨kM _,by omega,h,λ_=>e⟩
  ·rw[show rc r (p.getD m 0) (p.getD (m-1) 0)=false from hV e];dsimp only;rw[hX kJ]
   refine yX ?_ _ (qC6 g f (m+1) (by omega) (by omega) (h.more (by show r _≤r _;omega)))
   rintro a ⟨a1,a2,a3,a4⟩
   exact⟨by omega,by omega,a3,λz=>a4 (by omega)⟩
noncomputable def Eql(r:Nat→Int)(p:Array Nat)(a b:Nat):Prop:=∀k,a≤k→k<b→kk r p k=kk r p (b-1)
theorem q9G{p:Array Nat}{i j:Nat}(hj:j≤p.size)(h:Eql r p i j)(k:Nat):kk r (kas_rev p i j) k=kk r p k:=by
 show r _=r _
 rw[qC5 hj]
 by_cases z:i≤k∧k<j
 ·rw[kG z]
  exact(h _ (by omega) (by omega)).trans (h k z.1 z.2).symm
 ·rw[hX z]
theorem q5Y:∀(f:Nat) (p:Array Nat) (m q:Nat),Gp n p→q+1≤m→m+f≤n→Dec r p m→Eql r p (m-(q+1)) m→
 hT (rc r) n (kas_desc f p m q) (λz=>Gp n z.1∧m≤z.2.1∧z.2.1≤m+f∧Dec r z.1 z.2.1∧z.2.2+1≤z.2.1∧Eql r z.1 (z.2.1-(z.2.2+1)) z.2.1)
 |0,p,m,q,g,hq,hz,d,e=>⟨g,kM _,kM _,d,hq,e⟩
 |f+1,p,m,q,g,hq,hz,d,e=>by
  have hs:=g.size
  refine⟨g.lt (by omega),g.lt (by omega),?_⟩
  by_cases c:r (p.getD m 0)<r (p.getD (m-1) 0)
  ·rw[show rc r (p.getD m 0) (p.getD (m-1) 0)=true from hI c];dsimp only;rw[kG rfl]
   by_cases q0:q>0
   ·rw[kG q0]
    have kq:=q9G (r:=r) (p:=p) (i:=m-(q+1)) (j:=m) (by omega) e
    have d1:Dec r (kas_rev p (m-(q+1)) m) (m+1):=λi j hij hj=>by
     rw[kq,kq]
     exact d.more (Int.le_of_lt c) i j hij hj
    refine yX ?_ _ (q5Y f _ (m+1) 0 (g.rev _ _) (by omega) (by omega) d1 λk h1 h2=>by rw[show k=m by omega];rfl)
    rintro a ⟨a1,a2,a3,a4⟩
    exact⟨a1,by omega,by omega,a4⟩
   ·rw[hX q0]
    refine yX ?_ _ (q5Y f p (m+1) 0 g (by omega) (by omega) (d.more (Int.le_of_lt c)) λk h1 h2=>by rw[show k=m by omega];rfl)
    rintro a ⟨a1,a2,a3,a4⟩
    exact⟨a1,by omega,by omega,a4⟩
  ·rw[show rc r (p.getD m 0) (p.getD (m-1) 0)=false from hV c];dsimp only;rw[hX kJ]
   refine⟨g.lt (by omega),g.lt (by omega),?_⟩
   by_cases c2:r (p.getD (m-1) 0)<r (p.getD m 0)
   ·rw[show rc r (p.getD (m-1) 0) (p.getD m 0)=true from hI c2];dsimp only;rw[kG rfl]
    exact⟨g,kM _,Nat.le_add_right _ _,d,hq,e⟩
   ·rw[show rc r (p.getD (m-1) 0) (p.getD m 0)=false from hV c2];dsimp only;rw[hX kJ]
    have ee:r (p.getD m 0)=r (p.getD (m-1) 0):=by omega
    refine yX ?_ _ (q5Y f p (m+1) (q+1) g (by omega) (by omega) (d.more (Int.le_of_eq ee)) λk h1 h2=>?_)
    ·rintro a ⟨a1,a2,a3,a4⟩
     exact⟨a1,by omega,by omega,a4⟩
    ·show r (p.getD k 0)=r (p.getD m 0)
     by_cases z:k=m
     ·rw[z]
     ·rw[ee]
      exact e k (by omega) (by omega)
theorem qD3{p:Array Nat}{m:Nat}(g:Gp n p)(h1:1≤m)(hm:m≤n)(d:Dec r p m):hT (rc r) n (kas_tail3 m n p) (λz=>Gp n z.2∧1≤z.1∧z.1≤n∧Srt r z.2 z.1):=by
 have hs:=g.size
 have sr:Srt r (kas_rev p 0 m) m:=λi j hij hj=>by
  show r _≤r _
  rw[qC5 (by omega),qC5 (by omega),kG ⟨mN _,by omega⟩,kG ⟨mN _,hj⟩]
  exact d _ _ (by omega) (by omega)
 refine q33 _ (yX ?_ _ (qC6 (g.rev 0 m) (n-m) m h1 (by omega) sr))
 rintro a ⟨a1,a2,a3,_⟩
 exact⟨g.rev _ _,by omega,by omega,a3⟩
theorem qD4{p:Array Nat}{m:Nat}(g:Gp n p)(hm:m+1≤n)(d:Dec r p (m+1)):hT (rc r) n (kas_descPart m n p) (λz=>Gp n z.2∧1≤z.1∧z.1≤n∧Srt r z.2 z.1):=by
 refine q33 _ (yX ?_ _ (q5Y (n-(m+1)) p (m+1) 0 g (by omega) (by omega) d λk h1 h2=>by rw[show k=m by omega];rfl))
 rintro⟨p',m',q'⟩ ⟨a1,a2,a3,a4,a5,a6⟩
 dsimp only at a1 a2 a3 a4 a5 a6 ⊢
 have hs:=a1.size
 by_cases q0:q'>0
 ·rw[kG q0]
  have kq:=q9G (r:=r) (p:=p') (i:=m'-(q'+1)) (j:=m') (by omega) a6
  exact qD3 (a1.rev _ _) (by omega) (by omega) λi j hij hj=>by rw[kq,kq];exact a4 i j hij hj
 ·rw[hX q0]
  exact qD3 a1 (by omega) (by omega) a4
theorem qFQ{p:Array Nat}(g:Gp n p)(h1:1≤n):hT (rc r) n (kas_count n p) (λz=>Gp n z.2∧1≤z.1∧z.1≤n∧Srt r z.2 z.1):=by
 have hs:=g.size
 have s1:Srt r p 1:=λi j hij hj=>by rw[show i=j by omega];exact dD _
 refine q33 _ (yX ?_ _ (qC6 g (n-1) 1 (kM _) (by omega) s1))
 rintro m ⟨a1,a2,a3,a4⟩
 try dsimp only
 by_cases e:m=n
 ·rw[kG (by rw[beq_iff_eq];exact e)]
  exact⟨g,a1,by omega,a3⟩
 ·rw[hX (by rw[beq_iff_eq];exact e)]
  have lt:=a4 (by omega)
  by_cases m1:m>1
  ·rw[kG m1]
   refine⟨g.lt (by omega),g.lt (by omega),?_⟩
   by_cases c:r (p.getD 0 0)<r (p.getD (m-1) 0)
   ·rw[show rc r (p.getD 0 0) (p.getD (m-1) 0)=true from hI c];dsimp only;rw[kG rfl]
    exact⟨g,a1,by omega,a3⟩
   ·rw[show rc r (p.getD 0 0) (p.getD (m-1) 0)=false from hV c];dsimp only;rw[hX kJ]
    have eq:Eql r p 0 m:=λk _ hk=>by
     have z1:=a3 0 k (mN _) hk
     have z2:=a3 k (m-1) (by omega) (by omega)
     show r _=r _
     have z1:r (p.getD 0 0)≤r (p.getD k 0):=z1
     have z2:r (p.getD k 0)≤r (p.getD (m-1) 0):=z2
     omega
    have kq:=q9G (r:=r) (p:=p) (i:=0) (j:=m) (by omega) eq
    refine qD4 (g.rev _ _) (by omega) λi j hij hj=>?_
    rw[kq,kq]
    refine Dec.more (m:=m) (λi j hij hj=>?_) (Int.le_of_lt lt) i j hij hj
    rw[eq i (mN _) (by omega),eq j (mN _) hj]
    exact dD _
  ·rw[hX m1]
   have:m=1:=by omega
   subst this
   refine qD4 g (by omega) (Dec.more (λi j hij hj=>?_) (Int.le_of_lt lt))
   rw[show i=j by omega]
   exact dD _
theorem q6O{p:Array Nat}(g:Gp n p){k:Nat}(hk:k<n)(sr:Srt r p k):∀(f l u:Nat),u-l≤f→l≤u→u≤k→(∀i,i<l→kk r p i≤kk r p k)→(∀i,u≤i→i<k→kk r p k<kk r p i)→
 hT (rc r) n (kas_place p k f l u) (λm=>m≤k∧(∀i,i<m→kk r p i≤kk r p k)∧∀i,m≤i→i<k→kk r p k<kk r p i)
 |0,l,u,hf,hl,hu,a,b=>⟨by omega,a,λi h1 h2=>b i (by omega) h2⟩
 |f+1,l,u,hf,hl,hu,a,b=>by
  unfold kas_place
  by_cases e:l≥u
  ·rw[kG e]
   exact⟨by omega,a,λi h1 h2=>b i (by omega) h2⟩
  ·rw[hX e]
   refine⟨g.lt hk,g.lt (by omega),?_⟩
   by_cases c:r (p.getD k 0)<r (p.getD ((l+u) / 2) 0)
   ·rw[show rc r (p.getD k 0) (p.getD ((l+u) / 2) 0)=true from hI c];dsimp only;rw[kG rfl]
    refine q6O g hk sr f l ((l+u) / 2) (by omega) (by omega) (by omega) a λi h1 h2=>?_
    exact Int.lt_of_lt_of_le c (sr _ _ h1 h2)
   ·rw[show rc r (p.getD k 0) (p.getD ((l+u) / 2) 0)=false from hV c];dsimp only;rw[hX kJ]
    refine q6O g hk sr f ((l+u) / 2+1) u (by omega) (by omega) hu (λi h1=>?_) b
    exact Int.le_trans (sr i ((l+u) / 2) (by omega) (by omega)) (by show r _≤r _;omega)
theorem qJI{p:Array Nat}{k l:Nat}(hk:k<p.size)(hl:l≤k)(i:Nat):(bubble p k (k-l)).getD i 0=if i=l then p.getD k 0 else if l<i∧i≤k then p.getD (i-1) 0 else p.getD i 0:=by
 have e:=getElem?_bubble hk (k-l) (by omega) i
 rw[show k-(k-l)=l by omega]at e
 by_cases h1:i=l
 ·rw[kG h1]at e ⊢
  exact q4E e
 ·rw[hX h1]at e ⊢
  by_cases h2:l<i∧i≤k
  ·rw[kG h2]at e ⊢
   exact q4E e
  ·rw[hX h2]at e ⊢
   exact q4E e
theorem qFR:∀(f:Nat) (p:Array Nat) (k:Nat),Gp n p→k+f≤n→Srt r p k→hT (rc r) n (kas_bin f p k) (λq=>Gp n q∧Srt r q (k+f))
 |0,p,k,g,hz,sr=>⟨g,sr⟩
 |f+1,p,k,g,hz,sr=>by
  have hs:=g.size
  refine q33 _ (yX ?_ _ (q6O g (show k<n by omega) sr k 0 k (by omega) (mN _) (kM _) (λi h=>absurd h (Nat.not_lt_zero _)) λi h1 h2=>absurd h2 (by omega)))
  rintro l ⟨a1,a2,a3⟩
  have at':=qJI (p:=p) (k:=k) (l:=l) (by omega) a1
  refine yX ?_ _ (qFR f _ (k+1) ((bubble_perm _ _ _).trans g) (by omega) λi j hij hj=>?_)
  ·rintro q ⟨b1,b2⟩
   exact⟨b1,by rw[show k+(f+1)=k+1+f by omega];exact b2⟩
  ·show r _≤r _
   rw[at',at']
   by_cases i1:i=l
   ·rw[kG i1]
    by_cases j1:j=l
    ·rw[kG j1];exact dD _
    ·rw[hX j1,kG ⟨by omega,by omega⟩]
     exact Int.le_of_lt (a3 (j-1) (by omega) (by omega))
   ·rw[hX i1]
    by_cases i2:l<i∧i≤k
    ·rw[kG i2,hX (by omega),kG ⟨by omega,by omega⟩]
     exact sr _ _ (by omega) (by omega)
    ·rw[hX i2]
     by_cases j1:j=l
     ·rw[kG j1]
      exact a2 i (by omega)
     ·rw[hX j1]
      by_cases j2:l<j∧j≤k
      ·rw[kG j2]
       exact sr _ _ (by omega) (by omega)
      ·rw[hX j2]
       exact sr _ _ hij (by omega)
theorem qD5(h1:1≤n):hT (rc r) n (kas_sort n) (λp=>Gp n p∧Srt r p n):=by
 refine q33 _ (yX ?_ _ (qFQ (p:=(List.range n).toArray) (Array.Perm.refl _) h1))
 rintro⟨m,p⟩ ⟨a1,a2,a3,a4⟩
 dsimp only at a1 a2 a3 a4 ⊢
 by_cases e:m<n
 ·rw[kG e]
  refine yX ?_ _ (qFR (n-max m 1) p (max m 1) a1 (by omega) (by rw[Nat.max_eq_left a2];exact a4))
  rintro q ⟨b1,b2⟩
  exact⟨b1,by rw[show max m 1+(n-max m 1)=n by omega]at b2;exact b2⟩
 ·rw[hX e]
  have:m=n:=by omega
  subst this
  exact⟨a1,a4⟩
end
end L2
namespace L2
open PySem PySem.W PySem.Spec PyProof.Rows
section
variable{prog:Program}{w:World}{A:Around}{E:Value→Shared→Prop}{s:Shared}
noncomputable abbrev q6P(vs:List Value)(p:Array Nat):Array Value:=List.toArray (p.toList.map λi=>vs.getD i Value.none)
structure RkAt(prog:Program)(w:World)(A:Around)(vs:List Value)(κ:SortKind)(r:Nat→Int)(s:Shared):Prop where
 kind:∀(Q:SortKind→Shared→Prop) (E:Value→Shared→Prop),Q κ s→wpAny (model prog w) A (keyKind' vs.toArray) Q E s
 lt:∀i j (C:Bool→Shared→Prop),i<vs.length→j<vs.length→C (decide (r i<r j)) s→wpAny (model prog w) A (keyLt' κ (vs.getD i Value.none) (vs.getD j Value.none)) C (λ_ _=>False) s
theorem qC7{a:Addr}{vs:List Value}{n:Nat}{κ:SortKind}{r:Nat→Int}{P:PySem.Fin→Shared→Prop}(ho:s.heap.get? a=some (seqObj "list" vs.toArray n))(h64:vs.length<64)
 (hr:2≤vs.length→∀h',(∀b o,b≠a→s.heap.get? b=some o→h'.get? b=some o)→RkAt prog w A vs κ r { s with heap:=h' })
 (h:∀p:Array Nat,Gp vs.length p→Srt r p vs.length→P (.done (.ret .none)) { s with heap:=sortedHeap s.heap a vs (q6P vs p) }):wpAny (model prog w) A (Builtin.«list.sort» ⟨[.ref a],[]⟩) P E s:=by
 have ha:a<s.heap.objs.size:=kO ho
 have hsz:vs.toArray.size=vs.length:=kQ ..
 obtain⟨e1,g1⟩:∃e1,(s.heap.update a (Obj.mapSeq λ_=>(#[]:Array Value))).get? a=some (seqObj "list" #[] e1):=⟨_,get?_update_seq ho λ_=>#[]⟩
 have g6:=hZ (seqObj "list" #[] 0) (hZ (seqObj "tuple" vs.toArray 0) g1)
 rw[list_sort_plain]
 refine kD (listItems_at ho rfl (kD (wE ho rfl (kD (seqEpoch_at g1 rfl ?_)) (by rw[hsz,gD];omega) (mN _))))
 refine kD (wpAny_newTuple (kD (PySem.wpAny_newList (gU ?_) (mN _))) (by show vs.length≤_;rw[gD];omega))
 show wpAny (model prog w) A _ P E { s with heap:=((s.heap.update a (Obj.mapSeq λ_=>(#[]:Array Value))).push (seqObj "tuple" vs.toArray 0)).push (seqObj "list" #[] 0) }
 dsimp only
 by_cases h2:vs.toArray.size<2
 ·rw[kG h2,kG h2]
  refine kD (kZ ?_)
  rw[StateT.run_pure]
  refine kD (kZ ?_)
  dsimp only
  have fin:=h (List.range vs.length).toArray (Array.Perm.refl _) λi j hij hj=>by rw[show i=j by omega];exact dD _
  have eo:(pairsOf vs).map (·.2)=q6P vs (List.range vs.length).toArray:=by
   have em:(pairsOf vs)=(List.toArray (List.range vs.length)).map (kas_item (pairsOf vs)):=by
    have e:=kas_range (pairsOf vs)
    rw[pairsOf_size]at e
    exact e.symm
   apply Array.toList_inj.mp
   rw[em,Array.map_map,Array.toList_map]
   exact List.map_congr_left λi _=>by show(kas_item (pairsOf vs) i).2=_;rw[kas_item_eq]
  refine kD (seqEpoch_at g6 rfl ?_)
  refine kD (wE g6 rfl ?_ (mN _) (by rw[Array.size_map];show(pairsOf vs).size≤_;rw[pairsOf_size,gD];omega))
  simp only[bne_self_eq_false,Bool.false_eq_true,if_false]
  refine kZ ?_
  rw[←eo]at fin
  exact fin
 ·rw[hX h2,hX h2]
  have h2':2≤vs.length:=by omega
  have K:=hr h2' (((s.heap.update a (Obj.mapSeq λ_=>(#[]:Array Value))).push (seqObj "tuple" vs.toArray 0)).push (seqObj "list" #[] 0)) λb o nb e=>hZ _ (hZ _ ((mE _ _ (Ne.symm nb)).trans e))
  refine kD (K.kind _ _ ?_)
  have est:SortSt.mk' κ (vs.toArray.zip vs.toArray) #[] 7 none=kas_st κ (pairsOf vs) (List.toArray (List.range vs.length)):=by
   have e:=kas_range (pairsOf vs)
   rw[pairsOf_size]at e
   unfold kas_st
   rw[e]
   rfl
  have tree:(kas_sort vs.length).kasWp (kas_cmp prog w A κ (pairsOf vs)) (λp s'=>s'= { s with heap:=((s.heap.update a (Obj.mapSeq λ_=>(#[]:Array Value))).push (seqObj "tuple" vs.toArray 0)).push (seqObj "list" #[] 0) }∧Gp vs.length p∧Srt r p vs.length) { s with heap:=((s.heap.update a (Obj.mapSeq λ_=>(#[]:Array Value))).push (seqObj "tuple" vs.toArray 0)).push (seqObj "list" #[] 0) }:=by
   rw[←kas_ask_eq]
   exact qFP (c:=rc r) (n:=vs.length) (λi j C hi hj c=>K.lt i j C hi hj c) _ (yX (λp q=>⟨rfl,q⟩) _ (qD5 (by omega)))
  have run:=kas_runs (E:=E) (Q:=λ_ st' s'=>∃p:Array Nat,arrOf st'=p.map (kas_item (pairsOf vs))∧failedOf st'=none∧s'= { s with heap:=((s.heap.update a (Obj.mapSeq λ_=>(#[]:Array Value))).push (seqObj "tuple" vs.toArray 0)).push (seqObj "list" #[] 0) }∧Gp vs.length p∧Srt r p vs.length) h2' h64 (λp' st' s' _ a2 a3 a4=>⟨p',a2,a3,a4⟩) tree
  rw[←est]at run
  refine kD (dY run ?_ λ_ _ e=>e)
  rintro⟨⟨⟩,st'⟩ s' ⟨p,har,hf,rfl,gp,sr⟩
  dsimp only
  have hout:(arrOf st').map (·.2)=q6P vs p:=by
   apply Array.toList_inj.mp
   rw[har,Array.map_map,Array.toList_map]
   exact List.map_congr_left λi _=>by show(kas_item (pairsOf vs) i).2=_;rw[kas_item_eq]
  have hol:(q6P vs p).size=vs.length:=by rw[kQ,hC,mW,gp.size]
  rw[hout]
  refine kD (seqEpoch_at g6 rfl ?_)
  refine kD (wE g6 rfl ?_ (mN _) (mD (Nat.le_of_eq hol) (by rw[gD];omega)))
  rw[hf]
  simp only[bne_self_eq_false,Bool.false_eq_true,if_false]
  exact kZ (h p gp sr)
theorem q9H{l:Addr}{vs:List Value}{κ:SortKind}{r:Nat→Int}{Q:Value→Shared→Prop}(hl:s.heap.IsList l vs.toArray)(h64:vs.length<64)
 (hr:2≤vs.length→∀h',(∀b o,s.heap.get? b=some o→h'.get? b=some o)→RkAt prog w A.in1.in1 vs κ r { s with heap:=h' })
 (h:∀p:Array Nat,Gp vs.length p→Srt r p vs.length→Q (.ref (s.heap.objs.size+1)) { s with heap:=sortedAll s.heap vs (q6P vs p) }):
 wpAny (model prog w) A (call (.builtin "sorted") [.ref l]) Q E s:=by
 refine Calls.call_function_entry kind_sorted plain_sorted entry_sorted (args_sorted1 _) ?_
 unfold Builtin.«sorted»
 refine kD (m:=checkCount "sorted" 1 1 _) (kZ (kD (collect_list hl (kD (PySem.wpAny_newList ?_ (by rw[gD];show vs.length≤_;omega))))))
 have hsz:((s.heap.push (seqObj "list" #[] 0)).update s.heap.objs.size (Obj.mapSeq (· ++vs.toArray))).objs.size=s.heap.objs.size+1:=by
  rw[PySem.Heap.size_update,size_push']
 have g:(((s.heap.push (seqObj "list" #[] 0)).update s.heap.objs.size (Obj.mapSeq (· ++vs.toArray))).push (seqObj "list" vs.toArray 0)).get? (s.heap.objs.size+1)=some (seqObj "list" vs.toArray 0):=by
  rw[←hsz];exact mI _ rfl
 show wpAny _ _ _ _ _ { s with heap:=((s.heap.push (seqObj "list" #[] 0)).update s.heap.objs.size (Obj.mapSeq (· ++vs.toArray))).push (seqObj "list" vs.toArray 0) }
 rw[hsz]
 refine kD (gU (wpAny_call_entry slot_list_sort ⟨_,g,rfl⟩ entry_list_sort (qC7 (κ:=κ) (r:=r) g h64 (λh2 h' k=>hr h2 h' λb o e=>k b o (mM (Nat.lt_succ_of_lt (kO e))) (hZ _ ((mE _ _ (g7 (kO e))).trans (hZ _ e)))) λp a1 a2=>⟨_,rfl,?_⟩) (args_list_sort _)))
 exact kZ ⟨_,rfl,h p a1 a2⟩
end
noncomputable def lx:List Int→List Int→Bool
 |a::r,b::s=>if a=b then lx r s else decide (a<b)
 | [],_::_=>true
 |_,[]=>false
theorem q3J:∀a:List Int,lx a a=false
 | []=>rfl
 |a::r=>by
  show(if a=a then lx r r else decide (a<a))=false
  rw[kG rfl]
  exact q3J r
theorem zJ:∀a b c:List Int,lx a b=true→lx b c=true→lx a c=true
 | [],[],c,h,_=>by cases h
 | [],_::_,[],_,h=>by cases h
 | [],_::_,_::_,_,_=>rfl
 |_::_,[],c,h,_=>by cases h
 |_::_,_::_,[],_,h=>by cases h
 |a::r,b::s,c::t,h,g=>by
  have h:(if a=b then lx r s else decide (a<b))=true:=h
  have g:(if b=c then lx s t else decide (b<c))=true:=g
  show(if a=c then lx r t else decide (a<c))=true
  by_cases e1:a=b
  ·subst e1
   rw[kG rfl]at h
   by_cases e2:a=c
   ·subst e2
    rw[kG rfl]at g ⊢
    exact zJ r s t h g
   ·rw[hX e2]at g ⊢
    exact g
  ·rw[hX e1,kW]at h
   by_cases e2:b=c
   ·subst e2
    rw[hX e1]
    exact hI h
   ·rw[hX e2,kW]at g
    rw[hX (by omega)]
    exact hI (by omega)
theorem q09:∀a b:List Int,lx a b=false→lx b a=false→a=b
 | [],[],_,_=>rfl
 | [],_::_,h,_=>by cases h
 |_::_,[],_,h=>by cases h
 |a::r,b::s,h,g=>by
  have h:(if a=b then lx r s else decide (a<b))=false:=h
  have g:(if b=a then lx s r else decide (b<a))=false:=g
  by_cases e:a=b
  ·subst e
   rw[kG rfl]at h g
   rw[q09 r s h g]
  ·rw[hX e,decide_eq_false_iff_not]at h
   rw[hX (λz=>e z.symm),decide_eq_false_iff_not]at g
   omega
theorem qAX{α:Type}{p q:α→Bool}:∀{l:List α} {x:α},(∀y∈l,p y=true→q y=true)→x∈l→q x=true→p x=false→l.countP p<l.countP q
 |a::l,x,h,hx,h1,h2=>by
  have ml:l.countP p≤l.countP q:=List.countP_mono_left λy hy=>h y (kE _ hy)
  rw[List.countP_cons,List.countP_cons]
  rcases kI.mp hx with e|hx
  ·subst e
   rw[h1,h2,hX kJ,kG rfl]
   omega
  ·have ih:=qAX (λy hy=>h y (kE _ hy)) hx h1 h2
   have ha:=h a (mL ..)
   cases pa:p a with
   |false=>
    rw[hX kJ]
    omega
   |true=>
    rw[ha pa]
    omega
noncomputable def rkOf(ks:List (List Int))(k:List Int):Int:=((ks.countP λy=>lx y k:Nat):Int)
theorem q6Q{ks:List (List Int)}{k k':List Int}(h:k∈ks)(h':k'∈ks):rkOf ks k<rkOf ks k'↔lx k k'=true:=by
 constructor
 ·intro lt
  cases e:lx k k' with
  |true=>rfl
  |false=>
   have:ks.countP (λy=>lx y k')≤ks.countP (λy=>lx y k):=List.countP_mono_left λy _ hy=>by
    cases g:lx k' k with
    |true=>exact zJ _ _ _ hy g
    |false=>rw[q09 k k' e g];exact hy
   unfold rkOf at lt
   omega
 ·intro e
  have:=qAX (p:=λy=>lx y k) (q:=λy=>lx y k') (l:=ks) (x:=k) (λy _ hy=>zJ _ _ _ hy e) h e (q3J k)
  unfold rkOf
  omega
section
variable{prog:Program}{w:World}{A:Around}{E:Value→Shared→Prop}{s:Shared}
theorem qHB{b:Bool}{x y:Int}{t u:Tok}{Q:Bool→Shared→Prop}(h:Q (decide (x<y)) s):wpAny (model prog w) A (oneLt' b (.int x t) (.int y u)) Q E s:=by
 cases b with
 |true=>
  have z:=kat_lt_int (prog:=prog) (w:=w) (A:=A) (E:=E) (t:=t) (u:=u) h
  rw[keyLt'_oneType]at z
  exact z
 |false=>
  refine kat_one _ _ ?_
  exact lt_int h
theorem qAY{b:Bool}{Q:Bool→Shared→Prop}:∀{ns ms:List Int} {us vs:List Value} (i:Nat),IntsAre us ns→IntsAre vs ms→ns.length=ms.length→Q (lx ns ms) s→KatLex prog w A b false Q (us.zip vs) i s
 | [],[],_,_,i,.nil,.nil,_,h=>h
 |n::ns,m::ms,_,_,i,.cons _ t hn,.cons _ u hm,hl,h=>by
  refine kat_cons (wpAny_eqBool_int ?_)
  have h:Q (if n=m then lx ns ms else decide (n<m)) s:=h
  by_cases e:n=m
  ·rw[kG e]at h
   rw[show(n==m)=true by rw[beq_iff_eq];exact e]
   exact kat_yes (qAY (i+1) hn hm (by simpa using hl) h)
  ·rw[hX e]at h
   rw[show(n==m)=false by rw[beq_eq_false_iff_ne];exact e]
   exact kat_no (qHB h)
 | [],_::_,_,_,_,_,_,hl,_=>by simp at hl
 |_::_,[],_,_,_,_,_,hl,_=>by simp at hl
noncomputable def IsTI(h:Heap)(v:Value)(k:List Int):Prop:=∃a us,v=.ref a∧h.IsTuple a us.toArray∧IntsAre us k
theorem IsTI.at{h h':Heap}{v:Value}{k:List Int}(x:IsTI h v k)(e:∀b o,h.get? b=some o→h'.get? b=some o):IsTI h' v k:=
 let⟨a,us,e1,⟨o,e2,r⟩,i⟩:=x
 ⟨a,us,e1,⟨o,e _ _ e2,r⟩,i⟩
theorem qD6{h:Heap}:∀{vs:List Value} {ks:List (List Int)},Paired (IsTI h) vs ks→(∀k∈ks,0<k.length)→∃fs,KatTups h vs fs∧fs.length=ks.length∧∀v∈fs,∃i t,v=.int i t
 | [],[],.nil,_=>⟨[],trivial,rfl,λv hv=>by cases hv⟩
 |v::vs,k::ks,.cons x t,hp=>by
  obtain⟨fs,r,hl,hi⟩:=qD6 t λk hk=>hp k (kE _ hk)
  obtain⟨a,us,rfl,⟨o,ho,hc,n,hd⟩,iu⟩:=x
  have h0:=hp k (mL ..)
  cases iu with
  |nil=>simp at h0
  |cons i t0 hr=>
   refine⟨.int i t0::fs,KatTups.cons ho hc hd (by simp) r,by simp[hl],λv hv=>?_⟩
   rcases kI.mp hv with rfl|hv
   ·exact⟨i,t0,rfl⟩
   ·exact hi v hv
theorem qD7{vs:List Value}{ks:List (List Int)}{m:Nat}(h:Paired (IsTI s.heap) vs ks)(hw:∀k∈ks,k.length=m)(hm:0<m)(h2:2≤vs.length):RkAt prog w A vs (tuples' true) (λi=>rkOf ks (ks.getD i [])) s:=by
 have hl:=h.len
 constructor
 ·intro Q E' q
  obtain⟨fs,t,e,hi⟩:=qD6 h λk hk=>by rw[hw k hk];exact hm
  exact kat_kind (T:=Value.type "int") t (by omega) (λv hv=>by obtain⟨i,t0,rfl⟩:=hi v hv;exact .now) rfl q
 ·intro i j C hi hj c
  have e1:vs[i]?=some (vs.getD i Value.none):=by rw[hE hi];simp[hi]
  have e2:vs[j]?=some (vs.getD j Value.none):=by rw[hE hj];simp[hj]
  obtain⟨k1,g1,a1,us1,q1,⟨o1,ho1,_,n1,d1⟩,i1⟩:=Paired.at h e1
  obtain⟨k2,g2,a2,us2,q2,⟨o2,ho2,_,n2,d2⟩,i2⟩:=Paired.at h e2
  have m1:k1∈ks:=mG g1
  have m2:k2∈ks:=mG g2
  have z1:ks.getD i []=k1:=by rw[hU,g1];rfl
  have z2:ks.getD j []=k2:=by rw[hU,g2];rfl
  have ll:k1.length=k2.length:=by rw[hw _ m1,hw _ m2]
  have c:C (lx k1 k2) s:=by
   have y:decide (rkOf ks (ks.getD i [])<rkOf ks (ks.getD j []))=lx k1 k2:=by
    rw[z1,z2,Bool.eq_iff_iff,kW]
    exact q6Q m1 m2
   rw[←y]
   exact c
  rw[q1,q2]
  refine kat_lt ho1 d1 ho2 d2 ?_
  have f:decide (us1.toArray.size<us2.toArray.size)=false:=by
   rw[kQ,kQ,i1.length,i2.length,ll]
   exact hV (gX _)
  rw[f]
  exact qAY 0 i1 i2 ll c
end
section
variable{X:Cx}
noncomputable def TupI(K:PySem.W.Frag)(H:Hp)(v:V)(k:List Int):Prop:=∃a,v=.ref a∧SqT K H a (k.map V.int)
theorem q5Z{pins:List (Addr×Obj)}{σ:St}{H:Hp}{s:Shared}(I:Inv X pins σ H s):∀{xs:List V} {us:List Value} {ks:List (List Int)},Vals xs us→Paired (TupI X.K H) xs ks→Paired (IsTI s.heap) us ks
 | [],_,_,.nil,.nil=>.nil
 |x::xs,u::us,_,.cons r t,.cons ⟨a,e,h⟩ y=>by
  subst e
  obtain rfl:u=Value.ref a:=r
  obtain⟨its,rv,p,_⟩:=I.tuple h
  exact .cons ⟨a,its,rfl,p,q4B rv⟩ (q5Z I t y)
theorem q4S{xs:List V}{us:List Value}(r:Vals xs us):∀{q:List Nat},(∀i∈q,i<xs.length)→Vals (q.map λi=>xs.getD i .non) (q.map λi=>us.getD i Value.none)
 | [],_=>.nil
 |i::q,h=>by
  have hi:=h i (mL ..)
  have hl:=r.length
  refine .cons ?_ (q4S r λj hj=>h j (kE _ hj))
  obtain⟨x,e,z⟩:=r.atN (j:=i) (by omega)
  show RelV (xs.getD i .non) (us.getD i Value.none)
  rw[hU,e,hU,hE (by omega)]
  exact z
theorem zB:zY X (.builtin "sorted") (λxs H Q=>∃(p:Addr) (us:List V) (ks:List (List Int)) (m:Nat),xs=[.ref p]∧SqL X.K H p us∧Paired (TupI X.K H) us ks∧(∀k∈ks,k.length=m)∧0<m∧us.length<64∧
 ∀q:List Nat,q.Perm (List.range us.length)→(q.map λi=>ks.getD i []).Pairwise (λa b=>lx b a=false)→NewO H (.lst (q.map λi=>us.getD i .non)) Q):=by
 intro pins s σ H xs us Q I r hZ
 obtain⟨p,xs',ks,m,ex,hq,hk,hw,hm,h64,q⟩:=hZ
 subst ex
 obtain⟨u,rfl,rx⟩:=zH r
 cases rx
 obtain⟨its,rv,pl,hz⟩:=I.list hq
 have hlen:=rv.length
 have hti:=q5Z I rv hk
 refine q9H (κ:=tuples' true) (r:=λi=>rkOf ks (ks.getD i [])) pl.isList (by omega) (λh2 h' k=>qD7 (Paired.mapP hti λ_ _ z=>z.at k) hw hm h2) λa gp sr=>?_
 have pp:a.toList.Perm (List.range its.length):=by
  have:=Array.perm_iff_toList_perm.mp gp
  simpa using this
 obtain⟨e,he⟩:=sortedAll_at s.heap its (q6P its a)
 have hin:∀i∈a.toList,i<xs'.length:=λi hi=>by rw[hlen];exact mK.mp (pp.mem_iff.mp hi)
 have kl:=hk.len
 have pw:(a.toList.map λi=>ks.getD i []).Pairwise (λx y=>lx y x=false):=by
  rw[gC,List.pairwise_iff_getElem]
  intro i j hi hj hij
  rw[mW,gp.size]at hi hj
  have z:rkOf ks (ks.getD (a.getD i 0) [])≤rkOf ks (ks.getD (a.getD j 0) []):=sr i j (by omega) hj
  have gi:a.getD i 0=a.toList[i]'(by rw[mW,gp.size];exact hi):=by simp[Array.getD,gp.size,hi]
  have gj:a.getD j 0=a.toList[j]'(by rw[mW,gp.size];exact hj):=by simp[Array.getD,gp.size,hj]
  rw[gi,gj]at z
  have mem:∀x,x<ks.length→ks.getD x []∈ks:=λx hx=>by rw[hU,hE hx];exact mU hx
  cases g:lx (ks.getD (a.toList[j]'(by rw[mW,gp.size];exact hj)) []) (ks.getD (a.toList[i]'(by rw[mW,gp.size];exact hi)) [])with
  |false=>rfl
  |true=>
   have lt:=(q6Q (mem _ (by rw[←kl];exact hin _ (mU _))) (mem _ (by rw[←kl];exact hin _ (mU _)))).mpr g
   omega
 refine⟨.ref (s.heap.objs.size+1),_,I.laid (t':=s.toks) (λ_ _ h=>sortedAll_old h) (dC _) (show jN X.prog X.w _ _ _ (.lst _)from⟨?_,(q6P its a).toList,e,?_,he⟩),rfl,(q a.toList (by rw[hlen];exact pp) pw).at _ (I.hok.fresh (dC _))⟩
 ·rw[hC,pp.length_eq,mR,gD]
  omega
 ·exact q4S rv hin
end
section
variable{X:Cx}{pins:List (Addr×Obj)}{σ:St}{H:Hp}{s:Shared}
theorem Inv.adopt{D:Addr}{o:HO}(I:Inv X pins σ H s)(f:FpOk X pins H D)(hD:X.s₀.heap.objs.size≤D)(ok:jN X.prog X.w (upd H D o) s.heap D o):Inv X pins σ (upd H D o) s:=by
 have low:∀b ob,X.s₀.heap.get? b=some ob→b≠D:=λb ob e=>mM (mC (kO e) hD)
 have trk:∀b u,H b=some u→b≠D:=λb u e=>qI e f.1
 refine⟨I.ok,I.os,I.bare,⟨I.base.keep,I.base.slot,λb ob e n x=>?_,I.base.there,λb xs e=>?_,λb ob u e=>?_,λb ps e=>?_⟩,I.loc,I.cell,?_,λx c e=>?_,λp hp=>?_,λb u e=>?_,I.len⟩
 ·rw[qD (low b ob e)]
  exact I.base.free b ob e n x
 ·have z:=I.base.tups b xs e
  rw[qD (trk _ _ z)]
  exact z
 ·have z:=I.base.frzs b ob u e
  rw[qD (trk _ _ z)]
  exact z
 ·obtain⟨m,z⟩:=I.base.tbls b ps e
  exact⟨m,by rw[qD (trk _ _ z)];exact z⟩
 ·rw[qD (λz=>f.2.1 z.symm)]
  exact I.free
 ·rw[qD (f.2.2.2.2.1 x c e)]
  exact I.freeC x c e
 ·obtain⟨a1,a2,a3⟩:=I.pin p hp
  exact⟨a1,by rw[qD (f.2.2.2.2.2 p hp)];exact a2,a3⟩
 ·by_cases hb:b=D
  ·subst hb
   rw[qH]at e
   cases e
   exact ok
  ·rw[qD hb]at e
   exact(I.hok b u e).stay (λ_ _ _ q=>q) (λc q=>by rw[qD (trk _ _ q)];exact q) λc xs q=>by rw[qD (trk _ _ q)];exact q
theorem Inv.near(I:Inv X pins σ H s){A':Around}(h1:A'.handled=X.A.handled)(h2:A'.frames=X.A.frames)(xe:Value→Shared→Prop):Inv { X with A:=A',xe:=xe } pins σ H s:=
 ⟨{ mod:=I.ok.mod,kind:=I.ok.kind,glob:=I.ok.glob,blt:=I.ok.blt,above:=I.ok.above,inj:=I.ok.inj,has:=I.ok.has,cab:=I.ok.cab,hd:=λc=>h1.trans (I.ok.hd c),frames:=h2.trans I.ok.frames,stk:=I.ok.stk,exf:=I.ok.exf,bs:=I.ok.bs,bsz:=I.ok.bsz,noex:=I.ok.noex,exfs:=I.ok.exfs,funs:=I.ok.funs,frf:=I.ok.frf },I.os,I.bare,I.base,I.loc,I.cell,I.free,I.freeC,I.pin,I.hok,I.len⟩
theorem qAZ{P:PySem.Fin→Shared→Prop}{EE:Value→Shared→Prop}{A:Around}{a kS:Addr}{st:SortSt}{e1 e:Nat}{ks:List Value}{out:List Value}{us:List V}(I:Inv X pins σ H s)(fa:FpOk X pins H a)(fk:FpOk X pins H kS)(ha:X.s₀.heap.objs.size≤a)(ne:kS≠a)
 (ga:s.heap.get? a=some (seqObj "list" #[] e1)) (gk:s.heap.get? kS=some (seqObj "list" ks.toArray e)) (hk:ks.length<64) (hout:(arrOf st).map (·.2)=out.toArray) (ho:out.length<64) (hf:failedOf st=none) (rv:Vals us out)
 (h:∀s',Inv X pins σ (upd H a (.lst us)) s'→P (.done (.ret .none)) s'):wpAny (model X.prog X.w) A (ksk_tail a false e1 (.ref kS) st) P EE s:=by
 unfold ksk_tail
 try dsimp only
 rw[hout]
 refine kD (wE gk rfl ?_ (by rw[kQ,gD];omega) (mN _))
 refine kD (PySem.wpAny_letGo ?_)
 have ga':(s.heap.update kS (Obj.mapSeq λ_=>(#[]:Array Value))).get? a=some (seqObj "list" #[] e1):=(mE _ _ ne).trans ga
 refine kD (seqEpoch_at ga' rfl ?_)
 refine kD (wE ga' rfl ?_ (mN _) (by rw[hX kJ,kQ,gD];omega))
 rw[hf]
 simp only[bne_self_eq_false,Bool.false_eq_true,if_false]
 refine kZ (h _ ?_)
 obtain⟨c2,g2⟩:∃c2,((s.heap.update kS (Obj.mapSeq λ_=>(#[]:Array Value))).update a (Obj.mapSeq λ_=>out.toArray)).get? a=some (seqObj "list" out.toArray c2):=⟨_,get?_update_seq ga' λ_=>out.toArray⟩
 have I2:Inv X pins σ H { s with heap:=(s.heap.update kS (Obj.mapSeq λ_=>(#[]:Array Value))).update a (Obj.mapSeq λ_=>out.toArray),toks:=s.toks }:=
  I.turnedN (fp:=[kS,a]) (λb o hb eb=>by
   simp only[kI,gG,or_false,not_or]at hb
   exact(mE _ _ (Ne.symm hb.2)).trans ((mE _ _ (Ne.symm hb.1)).trans eb)) (λb hb=>by
   simp only[kI,gG,or_false]at hb
   rcases hb with rfl|rfl
   ·exact fk
   ·exact fa)
 exact I2.adopt fa ha (show jN X.prog X.w _ _ _ (.lst us)from⟨by rw[rv.length,gD];omega,out,c2,rv,g2⟩)
theorem qHC{P:PySem.Fin→Shared→Prop}{EE:Value→Shared→Prop}{A:Around}{a kS:Addr}{e1 e:Nat}{ks vs:List Value}{us zs:List V}{kk:List (List Int)}{m:Nat}(I:Inv X pins σ H s)(fa:FpOk X pins H a)(fk:FpOk X pins H kS)(ha:X.s₀.heap.objs.size≤a)(ne:kS≠a)
 (ga:s.heap.get? a=some (seqObj "list" #[] e1)) (gk:s.heap.get? kS=some (seqObj "list" ks.toArray e)) (rz:Vals zs ks) (rv:Vals us vs) (hl:zs.length=us.length) (h64:us.length<64) (hti:Paired (TupI X.K H) zs kk) (hw:∀k∈kk,k.length=m) (hm:0<m)
 (h:∀q:List Nat,q.Perm (List.range us.length)→(q.map λi=>kk.getD i []).Pairwise (λa b=>lx b a=false)→∀s',Inv X pins σ (upd H a (.lst (q.map λi=>us.getD i .non))) s'→P (.done (.ret .none)) s'):
 wpAny (model X.prog X.w) A (ksk_end a false vs.toArray e1 (.ref kS) ks.toArray) P EE s:=by
 have l1:=rz.length
 have l2:=rv.length
 have l3:=hti.len
 have hlk:ks.length=vs.length:=by omega
 unfold ksk_end
 try dsimp only
 rw[hX kJ]
 by_cases h2:vs.toArray.size<2
 ·rw[kG h2,kG h2]
  refine kD (kZ ?_)
  rw[StateT.run_pure]
  refine kD (kZ ?_)
  try dsimp only
  have hn2:vs.length<2:=by rw[kQ]at h2;exact h2
  refine qAZ (out:=vs) (us:=us) I fa fk ha ne ga gk (by omega) ?_ (by omega) rfl rv λs' I'=>?_
  ·rw[hX kJ]
   show(ks.toArray.zip vs.toArray).map (·.2)=vs.toArray
   apply Array.toList_inj.mp
   rw[Array.toList_map,Array.toList_zip]
   show(ks.zip vs).map Prod.snd=vs
   exact List.map_snd_zip (by omega)
  ·have e:(List.range us.length).map (λi=>us.getD i .non)=us:=by
    refine List.ext_getElem (by simp) λi h1 h3=>?_
    rw[List.getElem_map,List.getElem_range,hU,hE h3]
    rfl
   have z:=h (List.range us.length) (List.Perm.refl _) (by
    rw[gC,List.pairwise_iff_getElem]
    intro i j hi hj hij
    rw[mR]at hi hj
    omega)
   rw[e]at z
   exact z s' I'
 ·rw[hX h2,hX h2]
  have h2':2≤ks.length:=by rw[kQ]at h2;omega
  have K:=qD7 (prog:=X.prog) (w:=X.w) (A:=A) (s:=s) (q5Z I rz hti) hw hm h2'
  refine kD (K.kind _ _ ?_)
  rw[hX kJ]
  refine kD (dY (kat_run (κ:=tuples' true) (G:=λp s'=>s'=s∧Gp vs.length p∧Srt (λi=>rkOf kk (kk.getD i [])) p vs.length) (Q:=λst' s'=>∃p:Array Nat,arrOf st'=p.map (kas_item (ks.toArray.zip vs.toArray))∧failedOf st'=none∧s'=s∧Gp vs.length p∧Srt (λi=>rkOf kk (kk.getD i [])) p vs.length) hlk (by omega) (by omega) (λp' st' s' _ a2 a3 a4=>⟨p',a2,a3,a4⟩) ?_) ?_ λ_ _ x=>x)
  ·refine qFP (c:=rc λi=>rkOf kk (kk.getD i [])) (n:=vs.length) (λi j C hi hj c=>K.lt i j C (by omega) (by omega) c) _ (yX (λp q=>⟨rfl,q⟩) _ (qD5 (by omega)))
  ·rintro⟨⟨⟩,st'⟩ s' ⟨p,har,hf,rfl,gp,sr⟩
   try dsimp only
   have pp:p.toList.Perm (List.range vs.length):=by
    have:=Array.perm_iff_toList_perm.mp gp
    simpa using this
   have hin:∀i∈p.toList,i<us.length:=λi hi=>by rw[l2];exact mK.mp (pp.mem_iff.mp hi)
   have pw:(p.toList.map λi=>kk.getD i []).Pairwise (λx y=>lx y x=false):=by
    rw[gC,List.pairwise_iff_getElem]
    intro i j hi hj hij
    rw[mW,gp.size]at hi hj
    have z:rkOf kk (kk.getD (p.getD i 0) [])≤rkOf kk (kk.getD (p.getD j 0) []):=sr i j (by omega) hj
    have gi:p.getD i 0=p.toList[i]'(by rw[mW,gp.size];exact hi):=by simp[Array.getD,gp.size,hi]
    have gj:p.getD j 0=p.toList[j]'(by rw[mW,gp.size];exact hj):=by simp[Array.getD,gp.size,hj]
    rw[gi,gj]at z
    have mem:∀x,x<kk.length→kk.getD x []∈kk:=λx hx=>by rw[hU,hE hx];exact mU hx
    cases g:lx (kk.getD (p.toList[j]'(by rw[mW,gp.size];exact hj)) []) (kk.getD (p.toList[i]'(by rw[mW,gp.size];exact hi)) [])with
    |false=>rfl
    |true=>
     have b1:=hin _ (mU (show j<p.toList.length by rw[mW,gp.size];exact hj))
     have b2:=hin _ (mU (show i<p.toList.length by rw[mW,gp.size];exact hi))
     have lt:=(q6Q (mem _ (by omega)) (mem _ (by omega))).mpr g
     omega
   exact qAZ (out:=p.toList.map λi=>vs.getD i Value.none) (us:=p.toList.map λi=>us.getD i .non) I fa fk ha ne ga gk (by omega) (kat_snds hlk har) (by rw[hC,pp.length_eq,mR];omega) hf (q4S rv hin) λs' I'=>h p.toList (by rw[l2];exact pp) pw s' I'
theorem q8Y{P:PySem.Fin→Shared→Prop}{EE:Value→Shared→Prop}{a f:Addr}{n:Nat}{vs:List Value}{us:List V}(I:Inv X pins σ H s)
 (ho:s.heap.get? a=some (seqObj "list" vs.toArray n)) (fa:FpOk X pins H a) (ha:X.s₀.heap.objs.size≤a) (rv:Vals us vs) (h64:us.length<64)
 (Pv:Nat→List V→Hp→Prop) (h0:Pv 0 [] H) (hs:∀i x zs H' pins' s' u,us[i]?=some x→RelV x u→Pv i zs H'→Inv { X with A:=X.A.in1.in1,xe:=λ_ _=>False } pins' σ H' s'→wpAny (model X.prog X.w) X.A.in1.in1 (call (.ref f) [u]) (EP { X with A:=X.A.in1.in1,xe:=λ_ _=>False } pins' σ (λz H''=>Pv (i+1) (zs++[z]) H'')) (λ_ _=>False) s')
 (hd:∀zs H',H' a=none→zs.length=us.length→Pv us.length zs H'→∃kk m,Paired (TupI X.K H') zs kk∧(∀k∈kk,k.length=m)∧0<m∧∀q:List Nat,q.Perm (List.range us.length)→(q.map λi=>kk.getD i []).Pairwise (λa b=>lx b a=false)→∀s',Inv X pins σ (upd H' a (.lst (q.map λi=>us.getD i .non))) s'→P (.done (.ret .none)) s'):
 wpAny (model X.prog X.w) X.A.in1.in1 (ksk_tree a (.ref f) false) P EE s:=by
 have hal:a<s.heap.objs.size:=kO ho
 have hl:=rv.length
 obtain⟨e1,g1⟩:∃e1,(s.heap.update a (Obj.mapSeq λ_=>(#[]:Array Value))).get? a=some (seqObj "list" #[] e1):=⟨_,get?_update_seq ho λ_=>#[]⟩
 unfold ksk_tree
 refine kD (listItems_at ho rfl (kD (wE ho rfl (kD (seqEpoch_at g1 rfl ?_)) (by rw[kQ,gD];omega) (mN _))))
 refine kD (wpAny_newTuple (kD (PySem.wpAny_newList (gU ?_) (mN _))) (by show vs.length≤_;rw[gD];omega))
 have hks:((s.heap.update a (Obj.mapSeq λ_=>(#[]:Array Value))).push (seqObj "tuple" vs.toArray 0)).objs.size=s.heap.objs.size+1:=by rw[size_push',PySem.Heap.size_update]
 obtain⟨kS,eks⟩:∃kS:Addr,kS=((s.heap.update a (Obj.mapSeq λ_=>(#[]:Array Value))).push (seqObj "tuple" vs.toArray 0)).objs.size:=⟨_,rfl⟩
 have ksz:s.heap.objs.size≤kS:=by rw[eks,hks];exact dC _
 have ne:kS≠a:=g7 (mC hal ksz)
 show wpAny (model X.prog X.w) X.A.in1.in1 (ksk_rest a (.ref f) false vs.toArray e1 (.ref ((s.heap.update a (Obj.mapSeq λ_=>(#[]:Array Value))).push (seqObj "tuple" vs.toArray 0)).objs.size)) P EE { s with heap:=((s.heap.update a (Obj.mapSeq λ_=>(#[]:Array Value))).push (seqObj "tuple" vs.toArray 0)).push (seqObj "list" #[] 0) }
 rw[←eks]
 have gk0:(((s.heap.update a (Obj.mapSeq λ_=>(#[]:Array Value))).push (seqObj "tuple" vs.toArray 0)).push (seqObj "list" #[] 0)).get? kS=some (seqObj "list" #[] 0):=by rw[eks];exact mI _ rfl
 have ga0:=hZ (seqObj "list" #[] 0) (hZ (seqObj "tuple" vs.toArray 0) g1)
 have I0:Inv X pins σ H { s with heap:=((s.heap.update a (Obj.mapSeq λ_=>(#[]:Array Value))).push (seqObj "tuple" vs.toArray 0)).push (seqObj "list" #[] 0),toks:=s.toks }:=
  I.turnedN (fp:=[a]) (λb o hb' e=>hZ _ (hZ _ ((mE _ _ (λz=>hb' (kC.mpr z.symm))).trans e))) (λb hb'=>by rw[kC.mp hb'];exact fa)
 have fk0:FpOk X pins H kS:=I.fpOk ksz (I.hok.fresh ksz)
 have fp:∀{H':Hp} {b:Addr},FpOk X pins H b→H' b=none→FpOk X pins H' b:=λf e=>⟨e,f.2⟩
 unfold ksk_rest
 refine kD (wpAny_rule ?_)
 first
  |rw[List.forIn_toArray]
  |(rw[←Array.forIn_toList];simp only[List.toList_toArray])
 refine kD (ksk_fold (I:=λi s'=>∃H' zs ks e,Inv X pins σ H' s'∧s'.heap.get? a=some (seqObj "list" #[] e1)∧s'.heap.get? kS=some (seqObj "list" (List.toArray ks) e)∧Vals zs ks∧zs.length=i∧Pv i zs H'∧H' a=none∧H' kS=none) vs 0 _ ⟨H,[],[],0,I0,ga0,gk0,.nil,rfl,h0,fa.1,fk0.1⟩ (λj x s' hx hJ=>?_) λs' hJ=>?_)
 ·obtain⟨H',zs,ks,e,I1,ga,gk,rz,lz,pv,na,nk⟩:=hJ
  rw[Nat.zero_add]at lz pv ⊢
  have hj:j<vs.length:=(hG.mp hx).1
  obtain⟨y,ey,ry⟩:=rv.atN (j:=j) hj
  obtain rfl:vs[j]=x:=(hG.mp hx).2
  have I2:=(I1.near (A':=X.A.in1.in1) rfl rfl λ_ _=>False).pinned (fp:=[a,kS]) (λb hb'=>by
   simp only[kI,gG,or_false]at hb'
   rcases hb' with rfl|rfl
   ·exact fp fa na
   ·exact fp fk0 nk) (λb hb'=>by
   simp only[kI,gG,or_false]at hb'
   rcases hb' with rfl|rfl
   ·exact⟨_,ga,λv z=>by cases z⟩
   ·exact⟨_,gk,λv z=>by cases z⟩)
  refine kD (wpAny_attempt (dY (hs j y zs H' _ _ _ ey ry pv I2) (λu s'' hq=>?_) λ_ _ z=>z.elim))
  obtain⟨z,H'',I3,ru,q⟩:=hq
  have pa:=I3.pin (a,seqObj "list" #[] e1) (mO _ (mO _ (vC (by simp) ga)))
  have pk:=I3.pin (kS,seqObj "list" (List.toArray ks) e) (mO _ (mO _ (vC (by simp) gk)))
  have lk:=rz.length
  have ea:(List.toArray ks).push u=List.toArray (ks++[u]):=by simp
  obtain⟨c2,g2⟩:∃c2,(s''.heap.update kS (Obj.mapSeq (·.push u))).get? kS=some (seqObj "list" (List.toArray (ks++[u])) c2):=⟨_,by rw[←ea];exact get?_update_seq pk.1 (·.push u)⟩
  try dsimp only
  refine kD (wE pk.1 rfl ?_ (by rw[kQ,gD];omega) (mD (Nat.le_of_eq (Array.size_push ..)) (by rw[kQ,gD];omega)))
  have I4:Inv X pins σ H'' s'':=(I3.unpinned).near (A':=X.A) rfl rfl X.xe
  have I5:Inv X pins σ H'' { s'' with heap:=s''.heap.update kS (Obj.mapSeq (·.push u)),toks:=s''.toks }:=
   I4.turnedN (fp:=[kS]) (λb o hb' e=>(mE _ _ (λz=>hb' (kC.mpr z.symm))).trans e) (λb hb'=>by rw[kC.mp hb'];exact fp fk0 pk.2.1)
  exact kZ ⟨rfl,H'',zs++[z],ks++[u],c2,I5,(mE _ _ ne).trans pa.1,g2,rz.append (.cons ru .nil),by rw[k8,lz];rfl,q,pa.2.1,pk.2.1⟩
 ·obtain⟨H',zs,ks,e,I1,ga,gk,rz,lz,pv,na,nk⟩:=hJ
  rw[Nat.zero_add,←hl]at lz pv
  obtain⟨kk,m,hti,hw,hm,fin⟩:=hd zs H' na lz pv
  try dsimp only
  refine kD (listItems_at gk rfl ?_)
  exact qHC I1 (fp fa na) (fp fk0 nk) ha ne ga gk rz rv lz h64 hti hw hm fin
theorem qFS{P:PySem.Fin→Shared→Prop}{EE:Value→Shared→Prop}{a f:Addr}{n k:Nat}{fd:FuncData}{ps:List Str}{sp:Sp}{vs:List Value}{us:List V}(I:Inv X pins σ H s)(F:FnOk X.prog X.w X.K X.mg X.base CX0 k f fd ps sp)(hr:Room k X.A.in1.in1)(hb:jT X.K fd ps [])
 (ho:s.heap.get? a=some (seqObj "list" vs.toArray n)) (fa:FpOk X pins H a) (ha:X.s₀.heap.objs.size≤a) (rv:Vals us vs) (h64:us.length<64)
 (Pv:Nat→List V→Hp→Prop) (h0:Pv 0 [] H) (hs:∀i x zs H',us[i]?=some x→Pv i zs H'→sp [x] H' (λz H''=>Pv (i+1) (zs++[z]) H'') E0)
 (hd:∀zs H',H' a=none→zs.length=us.length→Pv us.length zs H'→∃kk m,Paired (TupI X.K H') zs kk∧(∀k∈kk,k.length=m)∧0<m∧∀q:List Nat,q.Perm (List.range us.length)→(q.map λi=>kk.getD i []).Pairwise (λa b=>lx b a=false)→∀s',Inv X pins σ (upd H' a (.lst (q.map λi=>us.getD i .non))) s'→P (.done (.ret .none)) s'):
 wpAny (model X.prog X.w) X.A.in1.in1 (ksk_tree a (.ref f) false) P EE s:=by
 exact q8Y I ho fa ha rv h64 Pv h0 (λi x zs H' pins' s' u hx rx hp I2=>q4P (X:={ X with A:=X.A.in1.in1,xe:=λ_ _=>False }) (dvs:=[]) (E:=E0) F hr hb .nil qK I2 (vs:=[x]) (us:=[u]) (.cons rx .nil) (hs i x zs H' hx hp)) hd
noncomputable def tSK(K:PySem.W.Frag)(sp:Sp)(ta:TA):TE:=λσ H Q=>ta σ H λvs H1=>∃(l:Addr) (us:List V) (Pv:Nat→List V→Hp→Prop),vs=[.ref l]∧SqL K H1 l us∧us.length<64∧Pv 0 [] H1∧(∀i x zs H',us[i]?=some x→Pv i zs H'→sp [x] H' (λz H''=>Pv (i+1) (zs++[z]) H'') E0)∧
 ∀zs H',zs.length=us.length→Pv us.length zs H'→∃kk m,Paired (TupI K H') zs kk∧(∀k∈kk,k.length=m)∧0<m∧∀q:List Nat,q.Perm (List.range us.length)→(q.map λi=>kk.getD i []).Pairwise (λa b=>lx b a=false)→NewO H' (.lst (q.map λi=>us.getD i .non)) Q
theorem qC8{k:Nat}{f:Addr}{fd:FuncData}{ps:List Str}{sp:Sp}{e:Expr}{fx:Str}{ta:TA}{p pf kp pos:Pos}(F:FnOk X.prog X.w X.K X.mg X.base CX0 k f fd ps sp)(hr:Room (k+2) X.A)(hb:jT X.K fd ps [])(hg:Gl X "sorted")(hm:X.mg "sorted"=none)(hgf:Gl X fx)(hmf:X.mg fx=some (.ref f))(ha:PA X [e] ta)
 (he:starEach [e] X.env=[(false,eval e X.env)]:=by rfl) (hse:starEach ([]:List Expr) X.env=[]:=by rfl) (hdb:(fx==("__debug__":Str))=false:=by decide):
 PE X (.Call (.Name "sorted" p) [e] [⟨some "key",.Name fx pf,kp⟩] pos) (tSK X.K sp ta):=by
 intro pins s σ H Q I h
 refine dA (q22 I hg hm (u:=.builtin "sorted") (by kernel_rfl) ?_ (by decide) (by decide))
 refine callWith_kw (thn (ha pos pins s σ H _ I h) λus s1 ⟨vs,H1,I1,r1,q1⟩=>?_) (by rw[he,hse];rfl) (by rw[he];rfl)
 have pk:PK X [⟨some "key",.Name fx pf,kp⟩] (qCR (tC (.ref f)) tNil):=qCS (q1B hgf hmf rfl (v:=.ref f) (hd:=hdb)) qF1
 refine thn (pk pos pins s1 σ H1 (λxs H2=>xs=[.ref f]∧H2=H1) I1 ⟨rfl,rfl⟩) λws s2 hZ=>?_
 obtain⟨xs,H2,I2,r2,ex,eH⟩:=hZ
 subst ex eH
 obtain⟨w,rfl,rw⟩:=zH r2
 obtain rfl:w=Value.ref f:=rw
 obtain⟨l,us',Pv,ev,hq,h64,p0,hs,hd⟩:=q1
 subst ev
 obtain⟨u,rfl,ru⟩:=zH r1
 obtain rfl:u=Value.ref l:=ru
 obtain⟨its,rv,pl,hz⟩:=I2.list hq
 have hlen:=rv.length
 show wpAny (model X.prog X.w) X.A (call (.builtin "sorted") [.ref l] [(Str.ofString "key",.ref f)]) _ _ _
 refine call_function_entry_kw kind_sorted plain_sorted entry_sorted (ksk_s1 _ _) ?_
 unfold Builtin.«sorted»
 refine kD (m:=checkCount "sorted" 1 1 _) (kZ (kD (collect_list pl.isList (kD (PySem.wpAny_newList ?_ (by rw[gD];show its.length≤_;omega))))))
 have hsz:((s2.heap.push (seqObj "list" #[] 0)).update s2.heap.objs.size (Obj.mapSeq (· ++its.toArray))).objs.size=s2.heap.objs.size+1:=by
  rw[PySem.Heap.size_update,size_push']
 have g:(((s2.heap.push (seqObj "list" #[] 0)).update s2.heap.objs.size (Obj.mapSeq (· ++its.toArray))).push (seqObj "list" its.toArray 0)).get? (s2.heap.objs.size+1)=some (seqObj "list" its.toArray 0):=by
  rw[←hsz];exact mI _ rfl
 show wpAny _ _ _ _ _ { s2 with heap:=((s2.heap.push (seqObj "list" #[] 0)).update s2.heap.objs.size (Obj.mapSeq (· ++its.toArray))).push (seqObj "list" its.toArray 0) }
 rw[hsz]
 have I3:Inv X pins σ H2 { s2 with heap:=((s2.heap.push (seqObj "list" #[] 0)).update s2.heap.objs.size (Obj.mapSeq (· ++its.toArray))).push (seqObj "list" its.toArray 0),toks:=s2.toks }:=
  I2.kept (t':=s2.toks) λb o e=>hZ _ ((mE _ _ (g7 (kO e))).trans (hZ _ e))
 refine kD (gU (wpAny_call_entry_kw slot_list_sort ⟨_,g,rfl⟩ entry_list_sort ?_ (ksk_l1 _ _)))
 rw[ksk_t1]
 have fr:s2.heap.objs.size≤s2.heap.objs.size+1:=dC _
 refine qFS I3 F (hr.in1.in1) hb g (I2.fpOk fr (I2.hok.fresh fr)) (mD I2.sz fr) rv h64 Pv p0 hs λzs H' na lz pv=>?_
 obtain⟨kk,m,a1,a2,a3,a4⟩:=hd zs H' lz pv
 refine⟨kk,m,a1,a2,a3,λq b1 b2 s' I'=>⟨_,rfl,kZ ⟨_,rfl,.ref _,_,I',rfl,(a4 q b1 b2).at _ na⟩⟩⟩
end
noncomputable def CmpG(prog:Program)(w:World)(A:Around)(Good:Heap→Prop)(P:Nat→Value→Prop)(bt:Nat→Nat→Bool):Prop:=
 ∀i j vi vj (s:Shared) (Q:Value→Shared→Prop) (E:Value→Shared→Prop),Good s.heap→P i vi→P j vj→Q (.bool (bt i j)) s→wpAny (model prog w) A (richCompare .Lt vi vj) Q E s
section
variable{prog:Program}{w:World}{A:Around}{R:Result→Shared→Prop}{I:Addr}{fp wr:List Addr}{n:Nat}{P:Nat→Value→Prop}{St:Nat→Heap→Prop}{Good:Heap→Prop}
theorem qFT(W:Walks prog w A.in1 I fp wr n P St)(bt:Nat→Nat→Bool)(hcmp:CmpG prog w A.in1 Good P bt)(S:Addr)(hSf:S∉fp)(hg:∀h h',Good h→(∀b o,b∉wr→b≠S→h.get? b=some o→h'.get? b=some o)→Good h'):
 ∀(k j:Nat) (s:Shared) (vb:Value) (c:Nat),n-(j+1)=k→j+1≤n→St (j+1) s.heap→Good s.heap→P (argBest bt j) vb→s.heap.get? S=some { cls:=.type "list",dict:=none,data:=.seq #[vb,vb] c,slots:=#[] }→
 (∀v h' tk,P (argBest bt (n-1)) v→(∀b o,b∉wr→b≠S→s.heap.get? b=some o→h'.get? b=some o)→R (.ok (.ret v)) { s with heap:=h',toks:=tk })→
 codeAny (model prog w) A (.builtin "min.loop" ⟨[.ref I,.none,.ref S],[]⟩) R s:=by
 have nw:S∉wr:=λh=>hSf (W.sub _ h)
 have nm:(toString "min"++toString ".loop":String)="min.loop":=by decide
 intro k
 induction k with
 |zero=>
  intro j s vb c hk hj st gd pb gS hR
  have e:j+1=n:=by omega
  refine codeAny_builtin F.entry_min_loop ?_
  rw[PySem.Around.under_plainId rC _]
  show wpAny _ A.in1 (seqItems? (.ref S) >>= _) _ _ s
  refine kD (wpAny_seqItems gS rfl ?_)
  show wpAny _ A.in1 (tryCatch (pyNext (.ref I)) _ >>= _) _ _ s
  refine kD (PySem.wpAny_tryCatch (W.done s _ _ (e▸st) λh' tk kp=>?_))
  show wpAny _ A.in1 (updateSeq S (λ_=>#[]) >>= _) _ _ _
  refine kD (wpAny_updateSeq (kp S _ nw gS) rfl (kD (PySem.wpAny_letGo (kZ ?_))))
  exact hR vb _ tk (by rw[←e];exact pb) λb o bw bS eb=>(mE _ _ (Ne.symm bS)).trans (kp b o bw eb)
 |succ k ih=>
  intro j s vb c hk hj st gd pb gS hR
  have lt:j+1<n:=by omega
  refine codeAny_builtin F.entry_min_loop ?_
  rw[PySem.Around.under_plainId rC _]
  show wpAny _ A.in1 (seqItems? (.ref S) >>= _) _ _ s
  refine kD (wpAny_seqItems gS rfl ?_)
  show wpAny _ A.in1 (tryCatch (pyNext (.ref I)) _ >>= _) _ _ s
  refine kD (PySem.wpAny_tryCatch (W.item (j+1) s _ _ lt st λv h' tk pv st' kp=>?_))
  have gS':=kp S _ nw gS
  have gd':Good h':=hg _ _ gd λb o bw _ eb=>kp b o bw eb
  show wpAny _ A.in1 (tryCatch (holding [v,v] (richCompare .Lt v vb >>= _)) _ >>= _) _ _ _
  refine kD (PySem.wpAny_tryCatch (gU (kD (hcmp (j+1) (argBest bt j) v vb _ _ _ gd' pv pb ?_))))
  refine kD (gU (gL (kD (PySem.wpAny_letGo (kZ ?_)))))
  cases z:bt (j+1) (argBest bt j)with
  |true=>
   simp only[if_true]
   refine kD (wpAny_updateSeq gS' rfl (kD (PySem.wpAny_letGo ?_)))
   rw[nm]
   have gd2:Good (h'.update S (Obj.mapSeq λ_=>#[v,v])):=hg _ _ gd' λb o _ bS eb=>(mE _ _ (Ne.symm bS)).trans eb
   refine kZ ⟨PySem.plainId_quiet rC _,ih (j+1) _ v _ (by omega) lt (W.frame _ _ _ st' λb bf o eb=>?_) gd2 (by simp only[argBest,z,if_true];exact pv) (cH _ gS' rfl) λv' h'' tk'' p2 k2=>?_⟩
   ·exact(mE _ _ (λh:S=b=>hSf (by rw[h];exact bf))).trans eb
   ·exact hR v' h'' tk'' p2 λb o bw bS eb=>k2 b o bw bS ((mE _ _ (Ne.symm bS)).trans (kp b o bw eb))
  |false=>
   simp only[Bool.false_eq_true,if_false]
   refine kD (PySem.wpAny_letGo ?_)
   rw[nm]
   exact kZ ⟨PySem.plainId_quiet rC _,ih (j+1) _ vb c (by omega) lt st' gd' (by simp only[argBest,z,Bool.false_eq_true,if_false];exact pb) gS' λv' h'' tk'' p2 k2=>hR v' h'' tk'' p2 λb o bw bS eb=>k2 b o bw bS (kp b o bw eb)⟩
theorem qE6(W:Walks prog w A.in1 I fp wr n P St)(bt:Nat→Nat→Bool)(hcmp:CmpG prog w A.in1 Good P bt)(S:Addr)(hSf:S∉fp)(hg:∀h h',Good h→(∀b o,b∉wr→b≠S→h.get? b=some o→h'.get? b=some o)→Good h')(hn:0<n){s:Shared}{c:Nat}(st:St 0 s.heap)(gd:Good s.heap)
 (gS:s.heap.get? S=some { cls:=.type "list",dict:=none,data:=.seq #[] c,slots:=#[] })
 (hR:∀v h' tk,P (argBest bt (n-1)) v→(∀b o,b∉wr→b≠S→s.heap.get? b=some o→h'.get? b=some o)→R (.ok (.ret v)) { s with heap:=h',toks:=tk }):
 codeAny (model prog w) A (.builtin "min.loop" ⟨[.ref I,.none,.ref S],[]⟩) R s:=by
 have nw:S∉wr:=λh=>hSf (W.sub _ h)
 have nm:(toString "min"++toString ".loop":String)="min.loop":=by decide
 refine codeAny_builtin F.entry_min_loop ?_
 rw[PySem.Around.under_plainId rC _]
 show wpAny _ A.in1 (seqItems? (.ref S) >>= _) _ _ s
 refine kD (wpAny_seqItems gS rfl ?_)
 show wpAny _ A.in1 (tryCatch (pyNext (.ref I)) _ >>= _) _ _ s
 refine kD (PySem.wpAny_tryCatch (W.item 0 s _ _ hn st λv h' tk pv st' kp=>?_))
 have gS':=kp S _ nw gS
 show wpAny _ A.in1 (updateSeq S (λ_=>#[v,v]) >>= _) _ _ _
 refine kD (wpAny_updateSeq gS' rfl ?_)
 rw[nm]
 have gd':Good (h'.update S (Obj.mapSeq λ_=>#[v,v])):=hg _ _ gd λb o bw bS eb=>(mE _ _ (Ne.symm bS)).trans (kp b o bw eb)
 refine kZ ⟨PySem.plainId_quiet rC _,qFT W bt hcmp S hSf hg _ 0 _ v _ rfl hn (W.frame _ _ _ st' λb bf o eb=>?_) gd' pv (cH _ gS' rfl) λv' h'' tk'' p2 k2=>?_⟩
 ·exact(mE _ _ (λh:S=b=>hSf (by rw[h];exact bf))).trans eb
 ·exact hR v' h'' tk'' p2 λb o bw bS eb=>k2 b o bw bS ((mE _ _ (Ne.symm bS)).trans (kp b o bw eb))
end
section
variable{prog:Program}{w:World}{A:Around}{E:Value→Shared→Prop}{s:Shared}
theorem qJJ{l:Addr}{items:Array Value}{bt:Nat→Nat→Bool}{Q:Value→Shared→Prop}(hh:A.handled=none)(hl:s.heap.IsList l items)(hn:0<items.size)
 (hcmp:CmpG prog w A.in1 (λh=>∀b o,s.heap.get? b=some o→h.get? b=some o) (λi v=>items[i]?=some v) bt)
 (h:∀v h' tk,items[argBest bt (items.size-1)]?=some v→(∀b o,s.heap.get? b=some o→h'.get? b=some o)→Q v { s with heap:=h',toks:=tk }):wpAny (model prog w) A (call (.builtin "min") [.ref l]) Q E s:=by
 have nm:(toString "min"++toString ".loop":String)="min.loop":=by decide
 have hlt:l<s.heap.objs.size:=by obtain⟨_,e,_⟩:=hl;exact kO e
 refine call_function_tree F.kind_min F.plain_min F.entry_min (F.args_min1 _) ?_
 show wpAny _ A.in1 (Builtin.Builtins.bindParams "min" ["key","default"] 0 ⟨[],[]⟩ >>= _) _ _ s
 refine kD (wpAny_of_eq (show Builtin.Builtins.bindParams "min" ["key","default"] 0 ⟨[],[]⟩=pure [none,none]from rfl) (kD (kZ ?_)))
 refine kD (wpAny_pyIter_list hl ?_)
 refine kD (wpAny_newObj_type ?_)
 rw[nm]
 refine kZ ⟨PySem.plainId_quiet rC _,qE6 (Walks.list (A:=A.in1) hh s.heap.objs.size l (mM hlt) items) bt hcmp _ ?_ (λh1 h2 g k b o e=>?_) hn ⟨⟨_,hZ _ (mI _ rfl),rfl,rfl⟩,(hl.push _).push _⟩ (λb o e=>hZ _ (hZ _ e)) (mI _ rfl) λv h' tk pv k=>?_⟩
 ·intro hm
  rw[PySem.Heap.size_push]at hm
  simp only[kI,gG,or_false]at hm
  rcases hm with hm|hm
  ·exact absurd hm (g7 (Nat.lt_succ_self _))
  ·exact absurd hm (g7 (Nat.lt_succ_of_lt hlt))
 ·have bl:=kO e
  refine k b o (λz=>absurd (kC.mp z) (mM bl)) (λz=>?_) (g b o e)
  rw[PySem.Heap.size_push]at z
  exact absurd z (mM (Nat.lt_succ_of_lt bl))
 ·refine h v h' tk pv λb o e=>?_
  have bl:=kO e
  refine k b o (λz=>absurd (kC.mp z) (mM bl)) (λz=>?_) (hZ _ (hZ _ e))
  rw[PySem.Heap.size_push]at z
  exact absurd z (mM (Nat.lt_succ_of_lt bl))
end
theorem qB0:∀a b:List Int,HT.lexLt a b=lx a b
 | [],[]=>rfl
 | [],_::_=>rfl
 |_::_,[]=>rfl
 |x::xs,y::ys=>by
  show(if x=y then HT.lexLt xs ys else decide (x<y))=(if x=y then lx xs ys else decide (x<y))
  rw[qB0 xs ys]
section
variable{X:Cx}
theorem qE7(hc:X.calm=true)(hu:X.A.units+64<cLine):zY X (.builtin "min") (λxs H Q=>∃(p:Addr) (us:List V) (ks:List (List Int)),xs=[.ref p]∧SqL X.K H p us∧Paired (TupI X.K H) us ks∧0<us.length∧
 ∀i,i<us.length→(∀j,j<us.length→lx (ks.getD j []) (ks.getD i [])=false)→Q (us.getD i .non) H):=by
 intro pins s σ H xs us Q I r hZ
 obtain⟨p,us',ks,ex,hq,hk,hn,q⟩:=hZ
 subst ex
 obtain⟨u,rfl,rx⟩:=zH r
 cases rx
 obtain⟨its,rv,pl,hz⟩:=I.list hq
 have hlen:=rv.length
 have kl:=hk.len
 have hti:=q5Z I rv hk
 have mem:∀x,x<ks.length→ks.getD x []∈ks:=λx hx=>by rw[hU,hE hx];exact mU hx
 refine qJJ (bt:=λi j=>decide (rkOf ks (ks.getD i [])<rkOf ks (ks.getD j []))) (I.ok.hd hc) pl.isList (by rw[kQ];omega) (λi j vi vj s' Q' E' gd pi pj c=>?_) λv h' tk hv k=>?_
 ·have pi':its[i]?=some vi:=by simpa using pi
  have pj':its[j]?=some vj:=by simpa using pj
  obtain⟨k1,g1,a1,us1,rfl,t1,i1⟩:=Paired.at hti pi'
  obtain⟨k2,g2,a2,us2,rfl,t2,i2⟩:=Paired.at hti pj'
  have z1:ks.getD i []=k1:=by rw[hU,g1];rfl
  have z2:ks.getD j []=k2:=by rw[hU,g2];rfl
  have y:decide (rkOf ks (ks.getD i [])<rkOf ks (ks.getD j []))=HT.lexLt k1 k2:=by
   rw[qB0,z1,z2,Bool.eq_iff_iff,kW]
   exact q6Q (mG g1) (mG g2)
  have c:Q' (.bool (HT.lexLt k1 k2)) s':=by rw[←y];exact c
  obtain⟨o1,b1,r1⟩:=t1
  obtain⟨o2,b2,r2⟩:=t2
  exact HT.lt_tupInts (items:=us1.toArray) (items2:=us2.toArray) ⟨o1,gd _ _ b1,r1⟩ ⟨o2,gd _ _ b2,r2⟩ (by simpa using i1) (by simpa using i2) (by show X.A.units+1<cLine;omega) c
 ·obtain⟨h1,h2⟩:=argBest_lt (λi=>rkOf ks (ks.getD i [])) (its.toArray.size-1)
  rw[kQ]at h1 h2 hv
  obtain⟨i,ei⟩:∃i,i=argBest (λi j=>decide (rkOf ks (ks.getD i [])<rkOf ks (ks.getD j []))) (its.length-1):=⟨_,rfl⟩
  rw[←ei]at h1 h2 hv
  have hi:i<its.length:=by omega
  obtain⟨x,e,z⟩:=rv.atN (j:=i) hi
  have hv':its[i]?=some v:=by simpa using hv
  obtain rfl:its[i]=v:=(hG.mp hv').2
  refine⟨us'.getD i .non,H,I.kept k,?_,q i (by omega) λj hj=>?_⟩
  ·rw[hU,e]
   exact z
  ·have le:=h2 j (by omega)
   cases g:lx (ks.getD j []) (ks.getD i [])with
   |false=>rfl
   |true=>
    have:=(q6Q (mem j (by omega)) (mem i (by omega))).mpr g
    omega
end
end L2
namespace W1
open PySem L2
noncomputable def T0:Tl:=⟨0,0,0,0⟩
noncomputable def pick(q:List Nat)(ts:List Tl):List Tl:=q.map λi=>ts.getD i T0
theorem q4T{q:List Nat}{ts:List Tl}(h:q.Perm (List.range ts.length)):(pick q ts).Perm ts:=by
 have e:(List.range ts.length).map (λi=>ts.getD i T0)=ts:=by
  refine List.ext_getElem (by simp) λi h1 h2=>?_
  rw[List.getElem_map,List.getElem_range,hU,hE h2]
  rfl
 have:=h.map λi=>ts.getD i T0
 rw[e]at this
 exact this
theorem q6R{q:List Nat}{ts:List Tl}(key:Tl→List Int)(h:∀i∈q,i<ts.length):(q.map λi=>(ts.map key).getD i [])=(pick q ts).map key:=by
 unfold pick
 rw[List.map_map]
 refine List.map_congr_left λi hi=>?_
 have hi':=h i hi
 show(ts.map key).getD i []=key (ts.getD i T0)
 rw[hU,hU,kN,hE hi']
 rfl
theorem q01{α β:Type}{F:α→β→Prop}{us:List α}{ts:List β}{d:α}{d':β}(h:Paired F us ts):∀{q:List Nat},(∀i∈q,i<us.length)→Paired F (q.map λi=>us.getD i d) (q.map λi=>ts.getD i d')
 | [],_=>.nil
 |i::q,hq=>by
  have hi:=hq i (mL ..)
  obtain⟨b,e,f⟩:=Paired.at h (hE hi)
  refine .cons ?_ (q01 h λj hj=>hq j (kE _ hj))
  show F (us.getD i d) (ts.getD i d')
  rw[hU,hU,hE hi,e]
  exact f
noncomputable def agR(x y:Tl):Prop:=lx [y.bo,y.b] [x.bo,x.b]=false
end W1
namespace L2
open PySem PySem.Spec PyProof.Rows
theorem q9I{X:Cx}{K:PySem.W.Frag}{es:List Expr}{k:Nat}{t:TGs}{n:Nat}{pos:Pos}(e:X.K=K)(hc:X.calm=true)(h:PGs X es t)(hn:(assignEach es X.env).length=n)(hst:(assignEach es X.env).findIdx? (·.1)=none):PG X (.Tuple es k pos) (gTup K n t):=by
 subst e
 exact q94 hc h hn hst
end L2
namespace L2
theorem qFU{Q:Bool→Hp→Prop}{σ:St}{H:Hp}(h:Q true H):q4A σ H Q:=h
end L2
namespace L2
open PySem PySem.Spec PyProof.Rows
noncomputable def q5A(v a:Addr):HO:=.ext λh=>h.IsItemsView v a
theorem qFV{P:Program}{w:World}{H:Hp}{h:Heap}{v a:Addr}(e:h.IsItemsView v a):jN P w H h v (q5A v a):=by
 obtain⟨o,e1,e2,e3⟩:=id e
 exact⟨e,⟨_,e1⟩,λ_ _ ⟨o,a1,a2⟩ k=>⟨o,k _ a1,a2⟩⟩
theorem qFW{P:Program}{w:World}{H:Hp}{h:Heap}{v a:Addr}(ok:HOk P w H h)(e:H v=some (q5A v a)):h.IsItemsView v a:=(ok v _ e).1
noncomputable def qJK:V→List V→Hp→VK→Prop:=λx vs H Q=>∃a kvs,x=.ref a∧vs=[]∧H a=some (.dK kvs)∧∀v,H v=none→Q (.ref v) (upd H v (q5A v a))
theorem qFX{X:Cx}:MtR X "dict.items" qJK:=by
 intro pins s σ H x vs v us Q I rx rv hZ
 obtain⟨a,kvs,ex,ev,ha,q⟩:=hZ
 subst ex ev
 cases rx
 have hus:=rv.zero
 subst hus
 obtain⟨z,lo,ws,rel,dd⟩:=q8S I.hok ha
 refine call_meetsIn PySem.F.slot_dict_items dd.typeIs PySem.F.entry_dict_items (PySem.F.args_dict_items_1 _) (meets_dict_items (jZ X.prog X.w) a lo) ⟨⟨ws,dd⟩,?_⟩
 exact⟨.ref s.heap.objs.size,_,I.laid (t':=s.toks) (λb o e=>hZ _ e) (kM _) (qFV ⟨_,mI _ rfl,rfl,rfl⟩),rfl,q _ (I.hok.fresh (kM _))⟩
theorem q6S:entryFor table "dict_itemiterator.__iter__"=some Builtin.«dict_keyiterator.__iter__»:=
 entryFor_alias (id':="dict_keyiterator.__iter__") (by kernel_rfl) (by first|decide+kernel|rfl|(unfold String.splitOn;simp+decide [String.splitOnAux])) (by decide+kernel) (by kernel_rfl)
noncomputable def Iti(a:Addr)(o:Obj)(kvs:List (Key×V)):It:=
 ⟨λi H=>H a=some (.frz o (.dK kvs))∧i<kvs.length,λi H v H'=>∃T kv,v=.ref T∧H T=none∧H'=upd H T (.tup [kV kv.1,kv.2])∧kvs[i]?=some kv,λi H=>H a=some (.frz o (.dK kvs))∧kvs.length≤i⟩
theorem qC9{P:Program}{w:World}{K:PySem.W.Frag}{elts:List Expr}{x1}{pos:Pos}(a it:Addr)(o:Obj){kvs:List (Key×V)}{vs:List (Key×Value)}{ep:Nat}(rel:KV kvs vs)(hD:∀h:Heap,h.get? a=some o→h.DictAt (jZ P w) a vs ep):
 Turn P w K (.Tuple elts x1 pos) (Iti a o kvs) [it] it (λi h=>∃k0 v0,IsItemIter h it a i vs.length ep k0 v0) where
 mem:=by simp
 obj:=λi h st b hb=>by
  have e:b=it:=by simpa using hb
  subst e
  obtain⟨k0,v0,e⟩:=st
  exact⟨_,e,λv z=>by cases z⟩
 keep:=λi h h' st k=>let⟨k0,v0,e⟩:=st;⟨k0,v0,k it (by simp) _ e⟩
 item:=by
  intro X hP hw hK hc i pins s σ H E I hf st hg
  subst hP hw hK
  obtain⟨ha,hi⟩:=hg
  obtain⟨ho,_⟩:=I.hok a _ ha
  have hl:=rel.length
  have hi':i<vs.length:=by omega
  obtain⟨k0,v0,st⟩:=st
  obtain⟨f0,f1,f2,f3,f4,f5⟩:=hf it (by simp)
  refine wpAny_pyNext_items_item (k:=vs[i].1) (v:=vs[i].2) st (hD _ ho) (hE hi') λkey h' hk b1 b5 b6 b7=>?_
  refine⟨_,rfl,wpAny_letOwnedTupleGo_items (s:={ s with heap:=h' }) b1 λh'' c1 c2=>?_⟩
  have kk:∀b o,b∉[it]→s.heap.get? b=some o→h''.get? b=some o:=λb o hb e=>by
   have nb:b≠it:=λz=>hb (kC.mpr z)
   exact c2.extBut _ _ nb (b7 b o nb e)
  have I1:Inv X pins σ H { s with heap:=h'' }:=I.turnedN (t':=s.toks) kk hf
  have fr:H s.heap.objs.size=none:=I.hok.fresh (kM _)
  have yg:=I.young (a:=s.heap.objs.size) (cT (kM _))
  have nit:s.heap.objs.size≠it:=g7 (kO st)
  have ek:=dB (λl=>l[i]?) rel.keys
  simp only[kN,hE hi,hE hi',Option.map_some]at ek
  have rk:RelV (kV kvs[i].1) key:=by rw[kF ek];exact qI7 hk
  have rv:RelV kvs[i].2 vs[i].2:=by
   obtain⟨q,hq,z1,z2⟩:=Paired.at rel (hE hi)
   rw[hE hi']at hq
   rw[kF hq]
   exact z2
  have I2:=I1.trackG (o:=.tup [kV kvs[i].1,kvs[i].2]) fr yg (g7 I.lt) (λx' c' w q'=>by
   obtain⟨v,o',ho,_⟩:=I.cell x' c' w
   exact absurd (kO ho) (by rw[q'];exact gX _)) ⟨by rw[gD,mP,mP,List.length_nil];omega,[key,vs[i].2],.cons rk (.cons rv .nil),⟨_,c2.extBut _ _ nit b5,rfl,_,rfl⟩⟩
  refine⟨.ref s.heap.objs.size,_,I2,rfl,⟨_,kvs[i],rfl,fr,rfl,hE hi⟩,⟨_,_,c1⟩,λb hb=>?_⟩
  have e:b=it:=by simpa using hb
  subst e
  rw[qD (Ne.symm nit)]
  exact(hf b hb).1
 done:=by
  intro X hP hw hK hc i pins s σ H E I hf st hg
  subst hP hw hK
  obtain⟨ha,hi⟩:=hg
  obtain⟨ho,_⟩:=I.hok a _ ha
  have hl:=rel.length
  obtain⟨k0,v0,st⟩:=st
  obtain⟨f0,f1,f2,f3,f4,f5⟩:=hf it (by simp)
  exact wpAny_pyNext_items_end (I.ok.hd hc) st (hD _ ho) (rH (by omega)) λh' eb=>⟨rfl,I.turned (t':=s.toks) (λb o hb e=>eb b o hb e) f0 f1 f3 f4 f5⟩
 self:=λA i s Q E ⟨k0,v0,st⟩ h=>by
  have ty:s.TypeIs (.ref it) "dict_itemiterator":=⟨_,st,rfl⟩
  refine wpAny_pyIter_slot ty PySem.F.slot_dict_itemiterator_iter (wpAny_call_entry PySem.F.slot_dict_itemiterator_iter ty q6S ?_ (PySem.F.args_dict_itemiterator_iter_1 _))
  show wpAny _ _ (ret (.ref it)) _ _ s
  exact kZ ⟨_,rfl,"dict_itemiterator",_,ty,PySem.F.slot_dict_itemiterator_next.lookup,h⟩
section
variable{X:Cx}
noncomputable def iItm(td:TE):TI:=λσ H R=>td σ H λx H1=>∃v a kvs,x=.ref v∧H1 v=some (q5A v a)∧H1 a=some (.dK kvs)∧∀o,R (Iti a o kvs) (upd H1 a (.frz o (.dK kvs)))
theorem qJL{elts:List Expr}{x1}{pos:Pos}{d:Expr}{td:TE}(hd:PE X d td):PI X (.Tuple elts x1 pos) d (iItm td):=by
 intro pins s σ H R I h
 refine thn (hd pins s σ H _ I h) λv s1 hZ=>?_
 obtain⟨x,H1,I1,r1,q1⟩:=hZ
 obtain⟨vw,a,kvs,e,hv,ha,q⟩:=q1
 subst e
 cases r1
 obtain⟨z,lo,vs,rel,dd⟩:=q8S I1.hok ha
 obtain⟨ep,hat⟩:=dd.dictAt
 obtain⟨o,es,ho,hr⟩:=id hat
 have I2:=I1.freeze ha ho
 refine wpAny_pyIter_items (qFW I1.hok hv) hat ?_
 refine⟨s1.heap.objs.size,[s1.heap.objs.size],_,_,_,rfl,I2.kept (t':=s1.toks) λb o e=>hZ _ e,qC9 a _ o rel (λh' h=>⟨o,es,h,hr⟩),⟨_,_,mI _ rfl⟩,λb hb=>?_,q o⟩
 have e:b=s1.heap.objs.size:=by simpa using hb
 subst e
 exact I2.fpOk (kM _) (I2.hok.fresh (kM _))
end
theorem qHD{a:Addr}{o:Obj}{kvs:List (Key×V)}{D:Addr}{H2:Hp}{g:TG}{tc:TT}{te:TE}{σ0:St}{R:Hp→Prop}(Pv:Nat→Hp→Prop)(h0:Pv 0 H2)(hl:∀i H,Pv i H→H a=some (.frz o (.dK kvs)))
 (hs:∀(i:Nat) kv T H,kvs[i]?=some kv→Pv i H→H T=none→g (.ref T) σ0 (upd H T (.tup [kV kv.1,kv.2])) λσ5 H5=>tc σ5 H5 λb H6=>if b=true then te σ5 H6 (λv H7=>∃vs,H7 D=some (.lst vs)∧vs.length<sizeLine∧Pv (i+1) (upd H7 D (.lst (vs++[v]))))else Pv (i+1) H6) (hd:∀H,Pv kvs.length H→R H):
 ∃W:Nat→Nat→Hp→Prop,(∃m,W 0 m H2)∧∀i m H3,W i m H3→((Iti a o kvs).stop i H3∧R H3)∨
  ((Iti a o kvs).go i H3∧∃N:Hp→Prop,(∀H',N H'→∃m',m'<m∧W (i+1) m' H')∧∀x H4,(Iti a o kvs).yld i H3 x H4→g x σ0 H4 λσ5 H5=>tc σ5 H5 λb H6=>
   if b=true then te σ5 H6 (λv H7=>∃vs,H7 D=some (.lst vs)∧vs.length<sizeLine∧N (upd H7 D (.lst (vs++[v]))))else N H6):=by
 refine⟨λi m H=>m=kvs.length-i∧i≤kvs.length∧Pv i H,⟨kvs.length,by simp,mN _,h0⟩,?_⟩
 rintro i m H ⟨rfl,hi,p⟩
 have q:=hl i H p
 by_cases hlt:i<kvs.length
 ·refine .inr ⟨⟨q,hlt⟩,Pv (i+1),λH' z=>⟨kvs.length-(i+1),by omega,rfl,by omega,z⟩,?_⟩
  rintro v H' ⟨T,kv,rfl,nT,rfl,hk⟩
  exact hs i kv T _ hk p nT
 ·obtain rfl:i=kvs.length:=by omega
  exact .inl ⟨⟨q,kM _⟩,hd _ p⟩
end L2
namespace L2
open PySem PySem.W PySem.Spec PyProof.Rows
section
variable{X:Cx}{pins:List (Addr×Obj)}{σ:St}
noncomputable def TupD(H:Hp)(v:V)(k:List Int):Prop:=∃a,v=.ref a∧H a=some (.tup (k.map V.int))
theorem TupD.i{K:PySem.W.Frag}{H:Hp}{v:V}{k:List Int}(h:TupD H v k):TupI K H v k:=let⟨a,e,z⟩:=h;⟨a,e,SqT.of z⟩
theorem TupD.same{H H':Hp}{v:V}{k:List Int}(h:TupD H v k)(s:Same H H'):TupD H' v k:=let⟨a,e,z⟩:=h;⟨a,e,s _ _ z⟩
theorem TupD.upd{H:Hp}{v:V}{k:List Int}{D:Addr}{u o:HO}(h:TupD H v k)(hd:H D=some u)(n:∀ys,u≠ .tup ys):TupD (L2.upd H D o) v k:=let⟨a,e,z⟩:=h;⟨a,e,by rw[qD (jV z hd (λq=>n _ q.symm))];exact z⟩
noncomputable def dI(ks:List (Int×Int)):List (Key×V):=ks.map λp=>((.inl p.1:Key),V.int p.2)
theorem q60:∀{ks:List (Int×Int)} {n m:Int},(ks.map (·.1)).Nodup→(n,m)∈ks→valV (dI ks) (.inl n:Key)=some (.int m)
 |p::ks,n,m,nd,h=>by
  obtain⟨n1,n2⟩:=mQ.mp nd
  show valV (((.inl p.1:Key),V.int p.2)::dI ks) (.inl n)=_
  rcases kI.mp h with rfl|h
  ·exact q47 rfl
  ·have ne:p.1≠n:=λe=>n1 (by show p.1∈_;rw[e];exact List.mem_map_of_mem (f:=λx:Int×Int=>x.1) h)
   rw[q23 (λe=>ne (Sum.inl.inj e))]
   exact q60 n2 h
theorem q6T:∀{ks:List (Int×Int)} {n:Int},n∉ks.map (·.1)→valV (dI ks) (.inl n:Key)=none
 | [],n,_=>rfl
 |p::ks,n,h=>by
  show valV (((.inl p.1:Key),V.int p.2)::dI ks) (.inl n)=_
  have h':n≠p.1∧n∉ks.map (·.1):=by simpa using h
  rw[q23 (λe=>h'.1 (Sum.inl.inj e).symm)]
  exact q6T h'.2
end
end L2
namespace W1
theorem jI{α:Type}(l:List α)(i j:Nat)(x d:α):(l.set i x).getD j d=if i=j∧i<l.length then x else l.getD j d:=by
 rw[hU,List.getElem?_set,hU]
 by_cases h:i=j
 ·subst h
  rw[kG rfl]
  by_cases h2:i<l.length
  ·rw[kG h2,kG ⟨rfl,h2⟩]
   rfl
  ·rw[hX h2,hX (λz=>h2 z.2),rH (by omega)]
 ·rw[hX h,hX (λz=>h z.1)]
theorem u7{P b j:Nat}(h:j<P):(b*P+j) / P=b:=by
 rw[Nat.mul_comm,Nat.mul_add_div (by omega),Nat.div_eq_of_lt h,Nat.add_zero]
theorem q61{α:Type}[DecidableEq α]:∀{l m:List α},l.Nodup→m.Nodup→(∀x,x∈l↔x∈m)→l.Perm m
 | [],m,_,_,h=>by
  cases m with
  |nil=>exact .nil
  |cons a m=>exact absurd ((h a).mpr mL) (by simp)
 |a::l,m,h1,h2,h=>by
  have ha:=(h a).mp mL
  obtain⟨n1,n2⟩:=mQ.mp h1
  refine List.Perm.trans (List.Perm.cons a (q61 n2 (h2.erase a) λx=>?_)) (List.perm_cons_erase ha).symm
  rw[List.Nodup.mem_erase_iff h2]
  constructor
  ·intro hx
   exact⟨λe=>n1 (e▸hx),(h x).mp (kE _ hx)⟩
  ·rintro⟨ne,hx⟩
   exact(kI.mp ((h x).mpr hx)).resolve_left ne
theorem q6U{α:Type}[DecidableEq α]:∀{l m:List α},l.Nodup→(∀x∈l,x∈m)→l.length≤m.length
 | [],_,_,_=>mN _
 |a::l,m,h1,h=>by
  obtain⟨n1,n2⟩:=mQ.mp h1
  have ha:=h a mL
  have:=q6U (m:=m.erase a) n2 λx hx=>(List.mem_erase_of_ne (show x≠a from λe=>n1 (e▸hx))).mpr (h x (kE _ hx))
  rw[List.length_erase_of_mem ha]at this
  have h0:=List.length_pos_of_mem ha
  rw[mP]
  omega
noncomputable abbrev Mp:=List (Int×Int)
noncomputable def y9(W:Mp)(n:Int):Mp:=W.filter λq=>decide (q.1≠n)
noncomputable def putW(W:Mp)(n p:Int):Mp:=if(W.any λq=>decide (q.1=n))=true then W.map (λq=>if q.1=n then(q.1,p)else q)else W++[(n,p)]
theorem jG{W:Mp}{n:Int}{q:Int×Int}:q∈y9 W n↔q∈W∧q.1≠n:=by
 unfold y9
 rw[m9,kW]
theorem qI8{W:Mp}(h:(W.map (·.1)).Nodup):W.Nodup:=(gC.mp h).imp λz e=>z (dB Prod.fst e)
theorem qJM{W:Mp}(h:(W.map (·.1)).Nodup){q r:Int×Int}(hq:q∈W)(hr:r∈W)(e:q.1=r.1):q=r:=by
 induction W with
 |nil=>cases hq
 |cons a W ih=>
  obtain⟨n1,n2⟩:=mQ.mp h
  rcases kI.mp hq with e1|h1
  ·rcases kI.mp hr with e2|h2
   ·rw[e1,e2]
   ·exact absurd (by show a.1∈_;rw[←e1,e];exact List.mem_map_of_mem (f:=λx:Int×Int=>x.1) h2) n1
  ·rcases kI.mp hr with e2|h2
   ·exact absurd (by show a.1∈_;rw[←e2,←e];exact List.mem_map_of_mem (f:=λx:Int×Int=>x.1) h1) n1
   ·exact ih n2 h1 h2
theorem q6V{W:Mp}{n:Int}(h:(W.map (·.1)).Nodup):((y9 W n).map (·.1)).Nodup:=(h.sublist ((List.filter_sublist ..).map _))
theorem q0Y{W:Mp}{n p:Int}(h:(W.map (·.1)).Nodup){q:Int×Int}:q∈putW W n p↔q=(n,p)∨q∈y9 W n:=by
 unfold putW
 by_cases e:(W.any λq=>decide (q.1=n))=true
 ·rw[kG e,kX]
  obtain⟨r,hr,er⟩:=dE.mp e
  have er:r.1=n:=kP er
  constructor
  ·rintro⟨x,hx,rfl⟩
   by_cases ex:x.1=n
   ·rw[kG ex]
    exact .inl (by rw[ex])
   ·rw[hX ex]
    exact .inr (jG.mpr ⟨hx,ex⟩)
  ·rintro(rfl|h2)
   ·exact⟨r,hr,by rw[kG er,er]⟩
   ·obtain⟨a,b⟩:=jG.mp h2
    exact⟨q,a,hX b⟩
 ·rw[hX e,gF,kC]
  have no:∀x∈W,x.1≠n:=λx hx z=>e (dE.mpr ⟨x,hx,hI z⟩)
  constructor
  ·rintro(h1|h1)
   ·exact .inr (jG.mpr ⟨h1,no _ h1⟩)
   ·exact .inl h1
  ·rintro(h1|h1)
   ·exact .inr h1
   ·exact .inl (jG.mp h1).1
theorem qE8{W:Mp}{n p:Int}(h:(W.map (·.1)).Nodup):((putW W n p).map (·.1)).Nodup:=by
 unfold putW
 by_cases e:(W.any λq=>decide (q.1=n))=true
 ·rw[kG e,List.map_map]
  have:(λx:Int×Int=>x.1) ∘ (λq:Int×Int=>if q.1=n then(q.1,p)else q)=λx=>x.1:=by
   funext x
   show(if x.1=n then(x.1,p)else x).1=x.1
   split<;>rfl
  rw[this]
  exact h
 ·rw[hX e,kU]
  refine List.nodup_append.mpr ⟨h,by simp,λa ha b hb z=>e ?_⟩
  obtain⟨x,hx,rfl⟩:=kX.mp ha
  have hb:b=n:=by simpa using hb
  exact dE.mpr ⟨x,hx,hI (by rw[z,hb])⟩
noncomputable def cntB(P:Nat)(W:Mp)(b:Nat):Nat:=W.countP λq=>decide (q.2 / (P:Int)=(b:Int))
theorem qFY{P:Nat}{W:Mp}{n p:Int}{b:Nat}(nd:(W.map (·.1)).Nodup)(h:(n,p)∈W):cntB P W b=cntB P (y9 W n) b+if p / (P:Int)=(b:Int)then 1 else 0:=by
 have pm:W.Perm ((n,p)::y9 W n):=q61 (qI8 nd) (mQ.mpr ⟨λz=>(jG.mp z).2 rfl,qI8 (q6V nd)⟩) λx=>by
  rw[kI,jG]
  constructor
  ·intro hx
   by_cases e:x.1=n
   ·exact .inl (qJM nd hx h e)
   ·exact .inr ⟨hx,e⟩
  ·rintro(rfl|hx)
   ·exact h
   ·exact hx.1
 unfold cntB
 rw[pm.countP_eq,List.countP_cons]
 by_cases e:p / (P:Int)=(b:Int)
 ·rw[kG e,kG (hI e)]
 ·rw[hX e,hX (by rw[kW];exact e)]
theorem qHE{W:Mp}{n:Int}(h:∀q∈W,q.1≠n):y9 W n=W:=List.filter_eq_self.mpr λq hq=>hI (h q hq)
structure BM where
 P:Nat
 B:Nat
 ns:List Int
 W:Mp
 V:Mp
 nx:Int
 bs:List (Option Int)
 ss:List Int
 lv:List Int
 fi:List Int
 bo:List Int
namespace BM
variable{m:BM}
noncomputable def lvF(P:Nat)(V:Mp)(lv:List Int)(n:Int):List Int:=match V.find? λq=>decide (q.1=n)with
 |some q=>lv.set (q.2 / (P:Int)).toNat (lv.getD (q.2 / (P:Int)).toNat 0-1)
 |none=>lv
end BM
end W1
namespace L2
open PySem PySem.Spec PyProof.Rows
theorem q28{n j:Nat}(h:j<n):ixN n (j:Int)=some j:=by
 unfold ixN
 have a:(0:Int)≤j:=by omega
 have b:(j:Int)<n:=by omega
 simp[a,b,h]
theorem qFZ{V:List (Int×Int)}{n:Int}:q6F (dI V) (Sum.inl n:Key)=dI (W1.y9 V n):=by
 unfold q6F dI W1.y9
 rw[List.filter_map]
 congr 1
 apply List.filter_congr
 intro q _
 show decide ((Sum.inl q.1:Key)≠Sum.inl n)=decide (q.1≠n)
 by_cases e:q.1=n<;>simp[e]
theorem qD8{W:List (Int×Int)}{n p:Int}:putK (dI W) (Sum.inl n:Key) (.int p)=dI (W1.putW W n p):=by
 unfold putK dI W1.putW
 have e:((W.map λp=>((Sum.inl p.1:Key),V.int p.2)).any λkv=>decide (kv.1=Sum.inl n))=W.any λq=>decide (q.1=n):=by
  rw[List.any_map]
  congr 1
  funext q
  show decide ((Sum.inl q.1:Key)=Sum.inl n)=decide (q.1=n)
  by_cases e:q.1=n
  ·rw[e];simp
  ·rw[hV e,hV (λz=>e (Sum.inl.inj z))]
 rw[e]
 by_cases h:(W.any λq=>decide (q.1=n))=true
 ·rw[kG h,kG h,List.map_map,List.map_map]
  apply List.map_congr_left
  intro q _
  show(if(Sum.inl q.1:Key)=Sum.inl n then((Sum.inl q.1:Key),V.int p)else((Sum.inl q.1:Key),V.int q.2))=_
  by_cases e:q.1=n
  ·rw[kG (by rw[e])]
   show _=(λp:Int×Int=>((Sum.inl p.1:Key),V.int p.2)) (if q.1=n then(q.1,p)else q)
   rw[kG e]
  ·rw[hX (λz=>e (Sum.inl.inj z))]
   show _=(λp:Int×Int=>((Sum.inl p.1:Key),V.int p.2)) (if q.1=n then(q.1,p)else q)
   rw[hX e]
 ·rw[hX h,hX h,kU]
  rfl
theorem qE9{V:List (Int×Int)}{n p:Int}:W1.putW (W1.y9 V n) n p=W1.y9 V n++[(n,p)]:=by
 unfold W1.putW
 rw[hX]
 intro h
 obtain⟨q,hq,e⟩:=dE.mp h
 exact(W1.jG.mp hq).2 (kP e)
theorem setV{ns:List Int}{c:Nat}{x:Int}:(ns.map V.int).set c (.int x)=(ns.set c x).map V.int:=by rw[List.map_set]
theorem atV{ns:List Int}{c:Nat}(h:c<ns.length):atI (ns.map V.int) (c:Int)=some (.int (ns.getD c 0)):=by
 refine yC ?_
 rw[kN,hE h,hU,hE h]
 rfl
theorem qCA:∀{A B:List (List Int)},A.Perm B→A.Pairwise (λa b=>lx b a=false)→B.Pairwise (λa b=>lx b a=false)→A=B
 | [],B,p,_,_=>(List.nil_perm.mp p).symm▸rfl
 |a::A,[],p,_,_=>absurd p.length_eq (by simp)
 |a::A,b::B,p,h1,h2=>by
  have e:a=b:=by
   by_cases e:a=b
   ·exact e
   ·have hb:b∈A:=(kI.mp (p.mem_iff.mpr mL)).resolve_left (λz=>e z.symm)
    have ha:a∈B:=(kI.mp (p.mem_iff.mp mL)).resolve_left e
    exact q09 a b ((List.pairwise_cons.mp h2).1 a ha) ((List.pairwise_cons.mp h1).1 b hb)
  subst e
  rw[qCA ((List.perm_cons a).mp p) (List.pairwise_cons.mp h1).2 (List.pairwise_cons.mp h2).2]
theorem qG0{a:Addr}{o:Obj}{kvs:List (Key×V)}{D:Addr}{H2:Hp}{g:TG}{tc:TT}{te:TE}{σ0:St}{R:Hp→Prop}(Pv:Nat→Hp→Prop)(h0:Pv 0 H2)(hl:∀i H,Pv i H→H a=some (.frz o (.dK kvs)))
 (hs:∀(i:Nat) kv H,kvs[i]?=some kv→Pv i H→g (kV kv.1) σ0 H λσ5 H5=>tc σ5 H5 λb H6=>if b=true then te σ5 H6 (λv H7=>∃vs,H7 D=some (.lst vs)∧vs.length<sizeLine∧Pv (i+1) (upd H7 D (.lst (vs++[v]))))else Pv (i+1) H6) (hd:∀H,Pv kvs.length H→R H):
 ∃W:Nat→Nat→Hp→Prop,(∃m,W 0 m H2)∧∀i m H3,W i m H3→((Itd a o kvs).stop i H3∧R H3)∨
  ((Itd a o kvs).go i H3∧∃N:Hp→Prop,(∀H',N H'→∃m',m'<m∧W (i+1) m' H')∧∀x H4,(Itd a o kvs).yld i H3 x H4→g x σ0 H4 λσ5 H5=>tc σ5 H5 λb H6=>
   if b=true then te σ5 H6 (λv H7=>∃vs,H7 D=some (.lst vs)∧vs.length<sizeLine∧N (upd H7 D (.lst (vs++[v]))))else N H6):=
 qH9 (Q:=λ_ H=>R H) Pv h0 hl hs hd
theorem q6W{ks:List (List Int)}{q:List Nat}{n:Nat}(hn:ks.length=n)(p:q.Perm (List.range n)):(q.map λi=>ks.getD i []).Perm ks:=by
 refine(p.map λi=>ks.getD i []).trans ?_
 have e:(List.range n).map (λi=>ks.getD i [])=ks:=by
  apply List.ext_getElem
  ·rw[hC,mR,hn]
  ·intro i h1 h2
   rw[List.getElem_map,List.getElem_range,hU,hE h2]
   rfl
 rw[e]
theorem q6X{F:V→List Int→Prop}{us:List V}{ks:List (List Int)}{q:List Nat}(h:Paired F us ks)(hq:∀i∈q,i<us.length):Paired F (q.map λi=>us.getD i .non) (q.map λi=>ks.getD i []):=by
 refine zG (by rw[hC,hC]) λj x k hx hk=>?_
 rw[kN]at hx hk
 obtain⟨i,hi,rfl⟩:=mF.mp hx
 rw[hi]at hk
 obtain rfl:=kF hk
 have hl:=hq i (mG hi)
 have e1:us[i]?=some (us.getD i .non):=by rw[hU,hE hl];rfl
 obtain⟨k,hk1,z⟩:=Paired.at h e1
 show F (us.getD i .non) (ks.getD i [])
 rw[show ks.getD i []=k from by rw[hU,hk1];rfl]
 exact z
theorem uL{H H':Hp}{us:List V}{ks:List (List Int)}(h:Paired (TupD H) us ks)(s:Same H H'):Paired (TupD H') us ks:=Paired.mapP h λ_ _ z=>z.same s
theorem q9J{K:PySem.W.Frag}{H:Hp}{us:List V}{ks:List (List Int)}(h:Paired (TupD H) us ks):Paired (TupI K H) us ks:=Paired.mapP h λ_ _ z=>z.i
theorem q4U{lo:Int}{n:Nat}{D:Addr}{H2:Hp}{g:TG}{tc:TT}{te:TE}{σ0:St}{R:Hp→Prop}(Pv:Nat→Hp→Prop)(h0:Pv 0 H2)
 (hs:∀(i:Nat) H,i<n→Pv i H→g (.int (lo+i)) σ0 H λσ5 H5=>tc σ5 H5 λb H6=>if b=true then te σ5 H6 (λv H7=>∃vs,H7 D=some (.lst vs)∧vs.length<sizeLine∧Pv (i+1) (upd H7 D (.lst (vs++[v]))))else Pv (i+1) H6) (hd:∀H,Pv n H→R H):
 ∃W:Nat→Nat→Hp→Prop,(∃m,W 0 m H2)∧∀i m H3,W i m H3→((Itr lo n).stop i H3∧R H3)∨
  ((Itr lo n).go i H3∧∃N:Hp→Prop,(∀H',N H'→∃m',m'<m∧W (i+1) m' H')∧∀x H4,(Itr lo n).yld i H3 x H4→g x σ0 H4 λσ5 H5=>tc σ5 H5 λb H6=>
   if b=true then te σ5 H6 (λv H7=>∃vs,H7 D=some (.lst vs)∧vs.length<sizeLine∧N (upd H7 D (.lst (vs++[v]))))else N H6):=
 qAV (Q:=λ_ H=>R H) Pv h0 hs hd
theorem qG1{H H3:Hp}{a:Addr}{u:HO}(ha:H a=some u)(k:∀b o,b≠a→H b=some o→H3 b=some o):Same H (upd H3 a u):=λb o e=>by
 by_cases z:b=a
 ·rw[z,qH,←ha,←z]
  exact e
 ·rw[qD z]
  exact k b o z e
theorem vJ{X:Cx}{K:PySem.W.Frag}{e:Expr}{ta:TE}{f:Str}{pos:Pos}(eK:X.K=K)(he:PE X e ta)(hb:attributeBase e f X.env (eval e X.env)=eval e X.env):PE X (.Attribute e f pos) (tFld K ta f):=by
 subst eK
 exact qJ he hb
theorem q0A{X:Cx}{K:PySem.W.Frag}(e:X.K=K):zY X (.builtin "len") (λxs H Q=>∃p ys,xs=[.ref p]∧(SqL K H p ys∨SqT K H p ys)∧Q (.int ys.length) H):=by
 subst e
 exact j8
end L2
namespace L2
open PySem PySem.W PySem.Spec PyProof.Rows
noncomputable def BmIn(base:Heap)(mg:Str→Option Value):Prop:=∃bm o,mg "__builtins__"=some (.ref bm)∧bm≠builtinsNs∧base.get? bm=some o∧o.cls=.type "module"∧o.dict=some builtinsNs∧o.data=.plain
theorem qEA{P:Program}{w:World}{K:PySem.W.Frag}{mg mb:Str→Option Value}{CX:CXT}{k:Nat}{fa a:Addr}{fd:FuncData}{x:Str}{sp:Sp}{s₁:Shared}{vs:List Value}{ns:List Int}(ts:List Addr)
 (KX:K.In s₁.heap) (hts:∀T∈ts,s₁.heap.get? T=some (tabObj #[])∧K.lookup T=none∧∃c,codeHdIn K c T=true) (hns:s₁.heap.Ns mainGlobals mg) (hb:s₁.heap.Ns builtinsNs mb) (hbb:∀x:Str,x≠"__name__"→mb x=bootBuiltins x) (hlim:s₁.heap.NoLimit) (hbm:BmIn s₁.heap mg) (hg:s₁.gens=#[])
 (ha:s₁.heap.get? a=some { cls:=.type "list",data:=.seq vs.toArray }) (hi:IntsAre vs ns) (hl:ns.length≤sizeLine) (hr:Room k callerA)
 (F:∀base:Heap,K.In base→base.Ns mainGlobals mg→BmIn base mg→FnOk P w K mg base CX k fa fd [x] sp) (hbind:∀(s:Shared) (u:Value),BindsTo s fd ⟨[u],[]⟩ [(x,u)])
 (hsp:∀H:Hp,SqL K H a (ns.map V.int)→(∀T∈ts,H T=some (.tbl #[]))→sp [.ref a] H (λv _=>v=.bl true) λ_ _ _=>False)
 (hCX:∀H e s',CX [] H s₁ (λ_ _ _=>False) e s'→False):
 codeAny (model P w) callerA (.call (.ref fa) ⟨[.ref a],[]⟩) (λr s'=>r=.ok (.ret (.bool true))∧OldK s₁.heap s'.heap∧s'.os=s₁.os∧AllBare s'.gens) s₁:=by
 have rv:=q8V hi
 have lenV:=hi.length
 have nat:a∉ts:=λz=>by
  have e:=(hts a z).1
  rw[ha]at e
  cases e
 have core:∀H:Hp,SqL K H a (ns.map V.int)→HOk P w H s₁.heap→(∀b,H b=none∨(b=a∧K.lookup a=none∧∃o xs,H b=some (.frz o (.lst xs)))∨(b∈ts∧H b=some (.tbl #[])))→(∀T∈ts,H T=some (.tbl #[]))→
  codeAny (model P w) callerA (.call (.ref fa) ⟨[.ref a],[]⟩) (λr s'=>r=.ok (.ret (.bool true))∧OldK s₁.heap s'.heap∧s'.os=s₁.os∧AllBare s'.gens) s₁:=by
  intro H hS hok hO hT
  have base_of:∀{b:Addr} {o:Obj},s₁.heap.get? b=some o→H b=none→(hidT s₁.heap H).get? b=some o:=λe n=>q64 e n
  have noA:∀{b:Addr} {o:Obj} {es:Array DictEntry} {ep:Nat},s₁.heap.get? b=some o→o.data=.dict es ep→H b=none:=fun {b o es ep} e d=>by
   rcases hO b with z|⟨rfl,_⟩|⟨z,_⟩
   ·exact z
   ·rw[ha]at e;cases e;cases d
   ·rw[(hts b z).1]at e;cases e;cases d
  have nsK:∀{b:Addr} {m:Str→Option Value},s₁.heap.Ns b m→(hidT s₁.heap H).Ns b m:=fun {b m} ⟨o,es,ep,e,d,r⟩=>⟨o,es,ep,base_of e (noA e d),d,r⟩
  have hKb:K.In (hidT s₁.heap H):=λb o e=>base_of (KX b o e) (by
   rcases hO b with z|⟨rfl,z,_⟩|⟨z,_⟩
   ·exact z
   ·rw[z]at e;cases e
   ·rw[(hts b z).2.1]at e;cases e)
  have hM:Mod K mg (hidT s₁.heap H):=⟨hKb,nsK hns,⟨mb,nsK hb,hbb⟩,let⟨mc,h1,h2⟩:=hlim;⟨mc,nsK h1,h2⟩⟩
  have hB:BmIn (hidT s₁.heap H) mg:=by
   obtain⟨bm,o,b1,b2,b3,b4,b5,b6⟩:=hbm
   refine⟨bm,o,b1,b2,base_of b3 ?_,b4,b5,b6⟩
   rcases hO bm with z|⟨rfl,_⟩|⟨z,_⟩
   ·exact z
   ·rw[ha]at b3;cases b3;exact absurd (Value.type.inj b4) (by decide)
   ·rw[(hts bm z).1]at b3;cases b3;cases b4
  have e0:Env0 P w K mg (hidT s₁.heap H) callerA [] s₁ H:=⟨rfl,hM,λb o e=>qCM e,Nat.le_of_eq (q8F _ _),trivial,λb hb=>absurd (show b∈([]:List Addr)from hb) (by simp),hok,.of_eq hg⟩
  refine PySem.codeAny_mono ((F _ hKb (nsK hns) hB).run callerA [] s₁ H ⟨[.ref a],[]⟩ [.ref a] [.ref a] _ _ hr e0 (hbind s₁ (.ref a)) (.cons rfl .nil) (hsp H hS hT)) λr s' h=>?_
  cases r with
  |error e=>exact(hCX H e s' h).elim
  |ok fl=>
   cases fl with
   |next=>exact False.elim h
   |brk=>exact False.elim h
   |cont=>exact False.elim h
   |ret u=>
    obtain⟨v,H',os,bare,un,hok',r',q⟩:=h
    have q':v=.bl true:=q
    subst q'
    obtain rfl:u=Value.bool true:=r'
    have kept:∀b o,s₁.heap.get? b=some o→b∉ts→s'.heap.get? b=some o:=λb o e nb=>by
     rcases hO b with z|⟨rfl,_,ob,xs,z⟩|⟨z,_⟩
     ·exact un.keep b o e z (by intro z;exact absurd (show b∈([]:List Addr)from z) (by simp)) (by simp)
     ·have z2:=un.frzs _ ob _ z
      obtain⟨e1,_⟩:=hok _ _ z
      obtain⟨e2,_⟩:=hok' _ _ z2
      rw[e]at e1;cases e1
      exact e2
     ·exact absurd z nb
    refine⟨rfl,⟨λb o e=>?_,λb o e=>?_⟩,os,bare⟩
    ·by_cases nb:b∈ts
     ·obtain⟨g,_,c,hc⟩:=hts b nb
      obtain⟨more,z2⟩:=un.tbls b _ (hT b nb)
      have g2:s'.heap.get? b=some { cls:=.none,data:=.fields (#[]++more) }:=hok' _ _ z2
      rw[g]at e;cases e
      exact .inr (.inl ⟨((codeHd_of_K KX hc).tab g).isCodeTable,rfl,#[],more,rfl,g2⟩)
     ·exact .inl (kept b o e nb)
    ·by_cases nb:b∈ts
     ·obtain⟨more,z2⟩:=un.tbls b _ (hT b nb)
      exact⟨_,hok' _ _ z2⟩
     ·exact⟨o,kept b o e nb⟩
 have tb:∀T∈ts,∀H:Hp,H T=some (.tbl #[])→∀u,H T=some u→jN P w H s₁.heap T u:=λT hT H e u e'=>by
  rw[e]at e';cases e'
  exact(hts T hT).1
 cases hk:K.lookup a with
 |some o=>
  have e:=KX a o hk
  rw[ha]at e
  cases e
  refine core (λb=>if b∈ts then some (.tbl #[])else none) (.inr ⟨_,vs.toArray,_,hk,rfl,rfl,rfl,by rw[kQ,lenV];exact hl,by simpa using rv⟩) (λb u z=>?_) (λb=>?_) λT hT=>kG hT
  ·by_cases hb':b∈ts
   ·exact tb b hb' _ (kG hb') u z
   ·have z':=(hX hb').symm.trans z
    cases z'
  ·by_cases hb':b∈ts
   ·exact .inr (.inr ⟨hb',kG hb'⟩)
   ·exact .inl (hX hb')
 |none=>
  refine core (λb=>if b=a then some (.frz { cls:=.type "list",data:=.seq vs.toArray } (.lst (ns.map V.int)))else if b∈ts then some (.tbl #[])else none) (.inl (.inr ⟨{ cls:=.type "list",data:=.seq vs.toArray },kG rfl⟩)) (λb u z=>?_) (λb=>?_) λT hT=>?_
  ·by_cases hb':b=a
   ·have z':=(kG hb').symm.trans z
    cases z'
    subst hb'
    exact⟨ha,by rw[hC];exact hl,vs,_,rv,ha⟩
   ·by_cases hb2:b∈ts
    ·exact tb b hb2 _ ((hX hb').trans (kG hb2)) u z
    ·have z':=((hX hb').trans (hX hb2)).symm.trans z
     cases z'
  ·by_cases hb':b=a
   ·exact .inr (.inl ⟨hb',hk,_,_,kG hb'⟩)
   ·by_cases hb2:b∈ts
    ·exact .inr (.inr ⟨hb2,(hX hb').trans (kG hb2)⟩)
    ·exact .inl ((hX hb').trans (hX hb2))
  ·have:T≠a:=λz=>nat (z▸hT)
   exact(hX this).trans (kG hT)
theorem qG2{l:PySem.W.OpenLaw}{n k:Nat}{q:Program}{loose:List Str}{XP:(Str→Option Value)→Heap→Prop}{YP:World→Heap→Prop}{d:DefRec}{K:Params→PySem.W.Frag}{CX:World→CXT}{sp:World→Sp}{x:Str}(ts:List Addr)
 (hn:l.most=some n) (hn2:n≤sizeLine) (hdf:d.params.defaults=[]) (hr:Room k callerA)
 (hY:∀(w:World) (h:Heap),YP w h→(K w.params).In h∧∀T∈ts,h.get? T=some (tabObj #[])) (hT:∀w:World,∀T∈ts,(K w.params).lookup T=none∧∃c,codeHdIn (K w.params) c T=true)
 (F:∀(w:World) (mg:Str→Option Value) (fa:Addr) (h:Heap),(K w.params).In h→h.Ns mainGlobals mg→mg d.name=some (.ref fa)→
  ∃fd:FuncData,(∀(s:Shared) (u:Value),BindsTo s fd ⟨[u],[]⟩ [(x,u)])∧
   ∀base:Heap,(K w.params).In base→base.Ns mainGlobals mg→BmIn base mg→FnOk l.prog w (K w.params) mg base (CX w) k fa fd [x] (sp w))
 (hsp:∀(w:World) (H:Hp) (a:Addr) (ns:List Int),ns.length≤n→SqL (K w.params) H a (ns.map V.int)→(∀T∈ts,H T=some (.tbl #[]))→sp w [.ref a] H (λv _=>v=.bl true) λ_ _ _=>False)
 (hCX:∀(w:World) (H:Hp) (s:Shared) (e:Value) (s':Shared),CX w [] H s (λ_ _ _=>False) e s'→False):
 PySem.W.WalkO q loose XP YP l.row.toRowW d [] (λf vs=>PySem.call f vs):=by
 refine Att.attach_call hn hdf λw s₀ s₁ mg mb fa o pm cd doc a vs ns G Y ho hd hcd hmg hobj hints hlen hg=>?_
 obtain⟨KX,KT⟩:=hY w _ Y
 obtain⟨fd,hb,hF⟩:=F w mg fa _ KX G.T.g hmg
 exact qEA ts KX (λT h=>⟨KT T h,hT w T h⟩) G.T.g G.T.b G.T.builtins G.T.nolimit (let⟨bm,ob,b1,b2,b3,b4,b5,b6⟩:=G.T.bmain;⟨bm,ob,b1,b2,b3,b4,b5,b6⟩) hg hobj hints (mD hlen hn2) hr hF hb (λH hS hH=>hsp w H a ns hlen hS hH) λH e s'=>hCX w H s₁ e s'
structure FunT(K:PySem.W.Frag)(x qual:Str)(st:Stmt)(c f:Addr)(fd:FuncData):Prop where
 ex:∃(oc:Value) (od:Option Addr) (kV doc pm:Value) (an:Option Addr) (ct:Value) (osl:Array (Option Value)),
  fd=PySem.W.fnOf x qual (yK st) (yD st) (qF st) .none kV doc pm an (.ref c) ct∧K.lookup f=some ⟨oc,od,.func fd,osl⟩∧PySem.W.codeIn K (.ref c) qual=true
section
variable{P:Program}{w:World}{K:PySem.W.Frag}{mg:Str→Option Value}{base:Heap}
theorem FunT.mk'{x qual:Str}{st:Stmt}{c f:Addr}{oc:Value}{od an:Option Addr}{osl:Array (Option Value)}{kV doc pm ct:Value}(l:K.lookup f=some ⟨oc,od,.func (PySem.W.fnOf x qual (yK st) (yD st) (qF st) .none kV doc pm an (.ref c) ct),osl⟩)
 (h:PySem.W.codeIn K (.ref c) qual=true):FunT K x qual st c f (PySem.W.fnOf x qual (yK st) (yD st) (qF st) .none kV doc pm an (.ref c) ct):=⟨⟨oc,od,kV,doc,pm,an,ct,osl,rfl,l,h⟩⟩
theorem FunT.ok0{x qual:Str}{st:Stmt}{c f:Addr}{fd:FuncData}{N ps:List Str}{k:Nat}{sp:Sp}(F:FunT K x qual st c f fd)(S:FnScope N ps (qF st))
 (hbody:∀(A:Around) (outer:List Env) (s:Shared) (H:Hp) (vs:List V) (Q:VK) (E:XK),Room k (A.deeper (envOfC qual (qF st) s.heap.objs.size f (.ref c)))→sp vs H Q E→
  ∃t,PSs (cxOf CX0 P w K mg base N qual (qF st) f (.ref c) A outer s H E).nox (yD st) t∧t { nx:=λ_ H'=>Q .non H',rt:=Q } (q1W N vs) H)(len:∀vs H Q E,sp vs H Q E→vs.length=ps.length:=by intro _ _ _ _ h;(repeat obtain⟨_,h⟩:=h);all_goals subst_vars;rfl):FnOk P w K mg base CX0 (k+1) f fd ps sp:=by
 obtain⟨oc,od,kV,doc,pm,an,ct,osl,rfl,lk,hcd⟩:=F.ex
 refine qI4 lk hcd S len λA outer s H vs Q E hr hsp=>?_
 obtain⟨t,h,q⟩:=hbody A outer s H vs Q E hr hsp
 exact⟨t,h.nox,q⟩
noncomputable def q4V(K:PySem.W.Frag)(ts:List Addr):Sp:=λvs H Q _=>∃(a:Addr) (ns:List Int),vs=[.ref a]∧SqL K H a (ns.map V.int)∧ns.length≤63∧(∀T∈ts,H T=some (.tbl #[]))∧∀H',Q (.bl true) H'
end
noncomputable def fnOb(fd:FuncData):Obj:={ cls:=.type "function",data:=.func fd }
noncomputable def fnO(f:Addr)(fd:FuncData):HO:=.ext λh=>h.get? f=some (fnOb fd)
noncomputable def cdO(c:Addr)(q:Str):HO:=.ext λh=>∃o vs t,h.get? c=some o∧o.data=.fields vs∧vs[1]?=some (.str q t)
theorem qG3{P:Program}{w:World}{H:Hp}{h:Heap}{f:Addr}{fd:FuncData}(e:h.get? f=some (fnOb fd)):jN P w H h f (fnO f fd):=⟨e,⟨_,e⟩,λ_ _ a b=>b _ a⟩
theorem qJN{P:Program}{w:World}{H:Hp}{h:Heap}{c:Addr}{q:Str}(e:h.CodeRec (.ref c) q):jN P w H h c (cdO c q):=by
 obtain⟨c',o,vs,t,e0,e1,e2,e3⟩:=e
 cases e0
 exact⟨⟨o,vs,t,e1,e2,e3⟩,⟨_,e1⟩,λ_ _ ⟨o,vs,t,a,b⟩ k=>⟨o,vs,t,k _ a,b⟩⟩
theorem qCB{P:Program}{w:World}{H:Hp}{h:Heap}{f:Addr}{fd:FuncData}(ok:HOk P w H h)(e:H f=some (fnO f fd)):h.get? f=some (fnOb fd):=(ok f _ e).1
theorem qG4{P:Program}{w:World}{H:Hp}{h:Heap}{c:Addr}{q:Str}(ok:HOk P w H h)(e:H c=some (cdO c q)):h.CodeRec (.ref c) q:=
 let⟨o,vs,t,a,b⟩:=(ok c _ e).1
 ⟨c,o,vs,t,rfl,a,b⟩
theorem qCC{CX:CXT}{P:Program}{w:World}{K:PySem.W.Frag}{mg:Str→Option Value}{base:Heap}{k:Nat}{f c:Addr}{name qual:Str}{params:Arguments}{body:Expr}{scope:Scope}{pm ct:Value}{N ps:List Str}{sp:Sp}(S:FnScope N ps scope)
 (len:∀vs H Q E,sp vs H Q E→vs.length=ps.length) (hf:∀vs H Q E,sp vs H Q E→H f=some (fnO f (kla_fn name qual params body scope [] pm (.ref c) ct))∧H c=some (cdO c qual))
 (hbody:∀(A:Around) (outer:List Env) (s:Shared) (H:Hp) (vs:List V) (Q:VK) (E:XK),Room k (A.deeper (envOfC qual scope s.heap.objs.size f (.ref c)))→sp vs H Q E→
  ∃t,PE (cxOf CX P w K mg base N qual scope f (.ref c) A outer s H E) body t∧t (q1W N vs) H Q):
 FnOk P w K mg base CX (k+1) f (kla_fn name qual params body scope [] pm (.ref c) ct) ps sp:=by
 refine⟨len,λA outer s H args us vs Q E hr e0 hb r hsp=>?_⟩
 have hl:=len _ _ _ _ hsp
 have KX:K.In s.heap:=e0.mod.kin.keeps λb o e=>(e0.bs b o e).1
 have lim:s.heap.NoLimit:=e0.mod.nolimit.keeps λb o e=>(e0.bs b o e).1
 have hkind:∀y∈ps.zip us,scope.names.lookup y.1=some .local∨(scope.names.lookup y.1=some .cell∧((cellsFrom (s.heap.objs.size+1) scope.names []).lookup y.1).isSome=true):=λ⟨n,v⟩ hy=>by
  rcases S.par n (List.of_mem_zip hy).1 with q|q
  ·exact .inl q
  ·exact .inr ⟨q,PySem.W.cellsFrom_some _ _ _ (.inl q)⟩
 obtain⟨hf1,hc1⟩:=hf _ _ _ _ hsp
 refine kla_callFunE hr.depth (qCB e0.hok hf1) rfl S.co S.gen rfl (qG4 e0.hok hc1) (hb _ _ _ _ ?_)
 refine wpAny_newFunctionEnv_cells S.kind hkind λenv he s1 x=>?_
 subst he
 refine⟨lim.keeps x.toInCall.keep,kla_codeExpr ?_⟩
 obtain⟨t,ht,hq⟩:=hbody A outer s H vs Q E (hr.deeper _) hsp
 have I:Inv (cxOf CX P w K mg base N qual scope f (.ref c) A outer s H E) [] (q1W N vs) H s1:=q8N S hr.hd e0 hl r x
 exact dY (ht [] s1 (q1W N vs) H _ I hq) (λu s' ⟨v,H',J,rv,q⟩=>⟨v,H',J.os,J.bare,J.base,J.hok,rv,q⟩) λe s' hs=>hs
noncomputable def qJO(P:Program)(w:World)(K:PySem.W.Frag)(mg:Str→Option Value)(base:Heap)(CX:CXT)(kk:Nat)(E:XK)(ta:TE)(t:TA):TE:=λσ H Q=>ta σ H λv H0=>∃f fd,v=.ref f∧t σ H0 λvs H1=>
 H1 f=some (fnO f fd)∧∃k ps sp,FnOk P w K mg base CX k f fd ps sp∧k≤kk∧jT K fd ps []∧sp vs H1 Q E
theorem qB1{X:Cx}{CX:CXT}{kk:Nat}{E:XK}{x:Str}{p pos:Pos}{e:Expr}{es:List Expr}{ta:TE}{t:TA}(hv:PE X (.Name x p) ta)(hr:Room kk X.A)(hx:q07 CX X E)(ha:PA X (e::es) t)
 (he:starEach (e::es) X.env=(false,eval e X.env)::starEach es X.env:=by rfl) (hpl:(backTo pos (starEach es X.env)).any (·.1)=false:=by rfl):
 PE X (.Call (.Name x p) (e::es) [] pos) (qJO X.prog X.w X.K X.mg X.base CX kk E ta t):=by
 intro pins s σ H Q I h
 refine dA (thn (hv pins s σ H _ I h) λu s0 hZ=>?_)
 obtain⟨v,H0,I0,r0,f,fd,e1,q⟩:=hZ
 subst e1
 cases r0
 have ha':=ha pos pins s0 σ H0 _ I0 q
 show wpAny _ _ (callWith pos (.ref f) [] (backTo pos (starEach (e::es) X.env)) []) _ _ _
 rw[he]at ha' ⊢
 refine Calls.callWith_function (o:=fnOb fd) (fd:=fd) (PySem.Calls.evalArgs_plain (thn ha' λus s1 ⟨vs,H1,I1,r,hf,k,ps,sp,F,hk,hb,q⟩=>⟨⟨qCB I1.hok hf,rfl⟩,?_⟩))
 have:=q4P (F.mono hk) hr hb .nil hx I1 r (by rw[gB];exact q)
 exact this
noncomputable def vO(base:Heap)(cs:List Addr):Hp:=λb=>if(base.get? b).isSome=true∨b∈cs then none else some (.lst [])
theorem q29{h base base':Heap}:∀{l:List Env},h.FunFrames base l→(∀L∈frs l,base.get? L=none→base'.get? L=none)→h.FunFrames base' l
 | [],_,_=>trivial
 |env::r,⟨hk,⟨L,o,hf,hn,ho,hd⟩,hr⟩,k=>by
  have hL:L∈frs (env::r):=by unfold frs;rw[List.filterMap_cons,hf];exact mL
  exact⟨hk,⟨L,o,hf,k L hL hn,ho,hd⟩,q29 hr λb hb=>k b (by
   unfold frs;rw[List.filterMap_cons,hf];exact kE _ hb)⟩
theorem Inv.env0C{X:Cx}{pins:List (Addr×Obj)}{σ:St}{H:Hp}{s:Shared}(I:Inv X pins σ H s)(cs:List Addr)(hcs:∀c∈cs,∃x,X.fn x=true∧X.env.cells.lookup x=some c):
 Env0 X.prog X.w X.K X.mg (hidT s.heap (vO X.base cs)) X.A X.stack s H∧(∀b o,X.base.get? b=some o→(hidT s.heap (vO X.base cs)).get? b=some o)∧∀c∈cs,∀o,s.heap.get? c=some o→(hidT s.heap (vO X.base cs)).get? c=some o:=by
 have up:∀b o,X.base.get? b=some o→(hidT s.heap (vO X.base cs)).get? b=some o:=λb o e=>q64 (I.bk b o e) (kG (.inl (by rw[e];rfl)))
 have inv:∀{b:Addr} {o:Obj},(hidT s.heap (vO X.base cs)).get? b=some o→s.heap.get? b=some o∧((∃o',X.base.get? b=some o')∨b∈cs):=fun {b o} e=>by
  obtain⟨e1,n⟩:=qCM e
  refine⟨e1,?_⟩
  by_cases z:(X.base.get? b).isSome=true∨b∈cs
  ·rcases z with z|z
   ·exact .inl (Option.isSome_iff_exists.mp z)
   ·exact .inr z
  ·rw[show vO X.base cs b=some (.lst [])from hX z]at n
   cases n
 obtain⟨mb,hb1,hb2⟩:=I.ok.mod.blt
 refine⟨⟨I.ok.frames,⟨I.ok.mod.kin.keeps up,I.ok.mod.glob.keeps up,⟨mb,hb1.keeps up,hb2⟩,I.ok.mod.nolimit.keeps up⟩,λb o e=>?_,by rw[q8F];exact kM _,q29 I.stack λL hL n=>?_,I.stkFree,I.hok,I.bare⟩,up,λc hc o e=>q64 e (kG (.inr hc))⟩
 ·obtain⟨e1,z⟩:=inv e
  rcases z with⟨o',z⟩|z
  ·exact⟨e1,(I.bs b o' z).2⟩
  ·obtain⟨x,_,hx⟩:=hcs b z
   exact⟨e1,I.freeC x b hx⟩
 ·cases e:(hidT s.heap (vO X.base cs)).get? L with
  |none=>rfl
  |some o=>
   obtain⟨e1,z⟩:=inv e
   rcases z with⟨o',z⟩|z
   ·rw[n]at z;cases z
   ·obtain⟨x,hf,hx⟩:=hcs L z
    rcases kI.mp (I.stkSub L hL)with y|y
    ·exact absurd y (I.cne x L hx)
    ·obtain⟨_,o2,ho,_⟩:=I.ok.funs.mem y
     exact absurd (kO ho) (Nat.not_lt.mpr (I.ok.cab x L hf hx))
noncomputable def q6Y(cells:List (Str×Addr))(σ:St)(base':Heap)(ix:List (Nat×Str)):Prop:=∀p∈ix,∀v,σ[p.1]?=some (some v)→∃c u,cells.lookup p.2=some c∧RelV v u∧base'.IsCell c (some u)
noncomputable def qL4(T:Addr)(pos:Pos)(qual:Str)(params:Arguments)(body:Expr)(scope:Scope)(clos:List (Str×Addr))(pm:Value):TE:=λσ H Q=>∃ps,H T=some (.tbl ps)∧TriplesOk ps.toList∧codeAmong pos ps.toList=none∧
 ∀(f c':Addr) (ctv:Value),H f=none→H c'=none→f≠c'→Q (.ref f) (upd (upd (upd H T (.tbl (ps++#[rawInt pos.line,rawInt pos.col,.ref c']))) c' (cdO c' qual)) f (fnO f (kla_fn "<lambda>" qual params body scope clos pm (.ref c') ctv)))
theorem qHF{X:Cx}{c T:Addr}{params:Arguments}{body:Expr}{scope:Scope}{pos:Pos}{clos:List (Str×Addr)}(hcode:X.env.code=.ref c)(hcd:codeHdIn X.K c T=true)(B:BmIn X.base X.mg)(hcl:closureFor scope X.env=pure clos)(hdef:defaultsOf params X.env=([],[])):
 PE X (.Lambda params body scope pos) (qL4 T pos (X.env.qual++"<lambda>") params body scope clos ((X.mg "__name__").getD .none)):=by
 intro pins s σ H Q I hZ
 obtain⟨ps,hT,ht,hnf,q⟩:=hZ
 have hP:s.heap.get? T=some (tabObj ps):=I.hok T _ hT
 have hgs:s.heap.Ns mainGlobals X.mg:=I.ok.mod.glob.keeps I.bk
 obtain⟨bm,ob,b1,b2,b3,b4,b5,b6⟩:=B
 have b3':=I.bk _ _ b3
 have hgP:mainGlobals≠T:=λz=>by
  obtain⟨o,es,ep,e,hd,_⟩:=hgs
  rw[z,hP]at e;cases e;cases hd
 have hbP:bm≠T:=λz=>by rw[z,hP]at b3';cases b3';cases b4
 have hbG:bm≠mainGlobals:=λz=>by
  obtain⟨o,es,ep,e,hd,_⟩:=hgs
  rw[z,e]at b3';cases b3';rw[hd]at b6;cases b6
 refine kla_eval hdef (kla_makeFunction (clos:=clos) hcl I.ok.glob hgs hcode (codeHd_of_K I.kIn hcd) hP ht hnf hgP ⟨bm,ob,b1,b2,hbG,hbP,b3',b4,b5,b6⟩ λc' ctv h' tk hx hge hlt hrec htb=>?_)
 have trk:∀b u,s.heap.get? b=some u→b≠T→∀o,(h'.push o).get? b=some u:=λb u e n o=>hZ _ (hx b u n e)
 have sz:s.heap.objs.size≤h'.objs.size:=mD hge (Nat.le_of_lt hlt)
 have nF:H h'.objs.size=none:=I.hok.fresh sz
 have nC:H c'=none:=I.hok.fresh hge
 have fc:h'.objs.size≠c':=g7 hlt
 have other:∀{b:Addr},b≠T→b≠c'→b≠h'.objs.size→∀u:HO,(upd (upd (upd H T (.tbl (ps++#[rawInt pos.line,rawInt pos.col,.ref c']))) c' (cdO c' (X.env.qual++"<lambda>"))) h'.objs.size (fnO h'.objs.size (kla_fn "<lambda>" (X.env.qual++"<lambda>") params body scope clos ((X.mg "__name__").getD .none) (.ref c') ctv))) b=H b:=fun {b} z1 z2 z3 _=>by
  rw[qD z3,qD z2,qD z1]
 refine⟨.ref h'.objs.size,_,?_,rfl,q _ c' ctv nF nC fc⟩
 refine I.un (t':=tk) ⟨λb o e n _ _=>trk b o e (qI hT n).symm _,λb o e n _ _=>⟨o.slots,trk b o e (qI hT n).symm _⟩,λb o e n _=>?_,λb o e _=>?_,λb xs e=>?_,λb o u e=>?_,λb qs e=>?_⟩ λb u e=>?_
 ·have hb:b<s.heap.objs.size:=kO e
  rw[other (qI hT n).symm (mM (mC hb hge)) (mM (mC hb sz)) (.lst [])]
  exact n
 ·by_cases z:b=T
  ·subst z;exact⟨_,hZ _ htb⟩
  ·exact⟨o,trk b o e z _⟩
 ·rw[other (λz=>by rw[z,hT]at e;cases e) (qI e nC) (qI e nF) (.lst [])];exact e
 ·rw[other (λz=>by rw[z,hT]at e;cases e) (qI e nC) (qI e nF) (.lst [])];exact e
 ·by_cases z:b=T
  ·subst z
   rw[hT]at e;cases e
   refine⟨#[rawInt pos.line,rawInt pos.col,.ref c'],?_⟩
   rw[qD (qI hT nF),qD (qI hT nC)]
   exact qH
  ·exact⟨#[],by rw[other z (qI e nC) (qI e nF) (.lst []),e];simp⟩
 ·by_cases z3:b=h'.objs.size
  ·subst z3
   rw[qH]at e;cases e
   exact qG3 (mI _ rfl)
  ·by_cases z2:b=c'
   ·subst z2
    rw[qD z3,qH]at e;cases e
    exact qJN (hrec.push _)
   ·by_cases z:b=T
    ·subst z
     rw[qD z3,qD z2,qH]at e;cases e
     exact hZ _ htb
    ·rw[other z z2 z3 (.lst [])]at e
     refine(I.hok b u e).stay (λd v hd r=>trk d v r (λy=>?_) _) (λd r=>?_) λd xs r=>?_
     ·rcases hd with hd|hd
      ·exact z (hd▸y)
      ·rw[y,hT]at hd;cases hd
     ·rw[other (λy=>by rw[y,hT]at r;cases r) (qI r nC) (qI r nF) (.lst [])];exact r
     ·rw[other (λy=>by rw[y,hT]at r;cases r) (qI r nC) (qI r nF) (.lst [])];exact r
noncomputable abbrev envL(qual:Str)(scope:Scope)(clos:List (Str×Addr))(L f:Addr)(cd:Value):Env:=newEnv scope L mainGlobals clos (qual++".<locals>.") (some f) cd none builtinsNs
noncomputable def qG5(CX:CXT)(P:Program)(w:World)(K:PySem.W.Frag)(mg:Str→Option Value)(base:Heap)(N:List Str)(qual:Str)(scope:Scope)(clos:List (Str×Addr))(f:Addr)(cd:Value)(A:Around)(outer:List Env)(s:Shared)(H:Hp)(E:XK):Cx where
 prog:=P
 w:=w
 K:=K
 mg:=mg
 base:=base
 A:=A.deeper (envL qual scope clos s.heap.objs.size f cd)
 N:=N
 s₀:=s
 H₀:=H
 env:=envL qual scope clos s.heap.objs.size f cd
 outer:=outer
 stack:=envL qual scope clos s.heap.objs.size f cd::outer
 ex:=[]
 calm:=true
 fn:=λ_=>false
 pn:=[]
 xe:=λe s'=>wpAny (model P w) (A.deeper (envL qual scope clos s.heap.objs.size f cd)) (leaving (envL qual scope clos s.heap.objs.size f cd) e) (λ_ s''=>CX outer H s E e s'') (λe' s''=>CX outer H s E e' s'') s'
structure LamSc(scope:Scope)(x0:Str)(clos:List (Str×Addr))(fvs:List V)(base:Heap):Prop where
 kind:scope.kind=.function
 co:scope.isCoroutine=false
 gen:scope.isGenerator=false
 par:scope.names.lookup x0=some .local
 nocell:∀y∈scope.names,y.2≠ .cell
 free:∀y,scope.names.lookup y=some .free→∃c,clos.lookup y=some c
 inj:∀x y c,clos.lookup x=some c→clos.lookup y=some c→x=y
 at':∀(j:Nat) (x:Str) (c:Addr),clos[j]?=some (x,c)→scope.names.lookup x=some .free∧clos.lookup x=some c∧∃v u,fvs[j]?=some v∧RelV v u∧base.IsCell c (some u)
 len:fvs.length=clos.length
theorem qHG{CX:CXT}{P:Program}{w:World}{K:PySem.W.Frag}{mg:Str→Option Value}{base:Heap}{k:Nat}{f c:Addr}{name qual:Str}{params:Arguments}{body:Expr}{scope:Scope}{pm ct:Value}{x0:Str}{clos:List (Str×Addr)}{fvs:List V}{sp:Sp}(S:LamSc scope x0 clos fvs base)
 (len:∀vs H Q E,sp vs H Q E→vs.length=1) (hf:∀vs H Q E,sp vs H Q E→H f=some (fnO f (kla_fn name qual params body scope clos pm (.ref c) ct))∧H c=some (cdO c qual))
 (hbody:∀(A:Around) (outer:List Env) (s:Shared) (H:Hp) (v0:V) (Q:VK) (E:XK),Room k (A.deeper (envL qual scope clos s.heap.objs.size f (.ref c)))→sp [v0] H Q E→
  ∃t,PE (qG5 CX P w K mg base (x0::clos.map (·.1)) qual scope clos f (.ref c) A outer s H E) body t∧t (some v0::fvs.map some) H Q):
 FnOk P w K mg base CX (k+1) f (kla_fn name qual params body scope clos pm (.ref c) ct) [x0] sp:=by
 refine⟨len,λA outer s H args us vs Q E hr e0 hb r hsp=>?_⟩
 have hl:=len _ _ _ _ hsp
 obtain⟨v0,rfl⟩:∃v0,vs=[v0]:=match vs,hl with| [v],_=>⟨v,rfl⟩
 obtain⟨u0,rfl,r0⟩:=zH r
 have lim:s.heap.NoLimit:=e0.mod.nolimit.keeps λb o e=>(e0.bs b o e).1
 obtain⟨hf1,hc1⟩:=hf _ _ _ _ hsp
 refine kla_callFunE hr.depth (qCB e0.hok hf1) rfl S.co S.gen rfl (qG4 e0.hok hc1) (hb _ _ _ _ ?_)
 refine wpAny_newFunctionEnv S.nocell (λy hy=>?_) (λh' hn hs=>?_) S.kind
 ·obtain rfl:y=(x0,u0):=by simpa using hy
  exact S.par
 have hk:∀b o,s.heap.get? b=some o→h'.get? b=some o:=λb o e=>by
  have:=hs.2 b (mM (kO e))
  rw[this]
  exact hZ _ e
 refine⟨lim.keeps hk,kla_codeExpr ?_⟩
 obtain⟨t,ht,hq⟩:=hbody A outer s H v0 Q E (hr.deeper _) hsp
 have noA:∀b:Addr,b∉(qG5 CX P w K mg base (x0::clos.map (·.1)) qual scope clos f (.ref c) A outer s H E).ex:=λb z=>absurd (show b∈([]:List Addr)from z) (by simp)
 have cat:∀y d,clos.lookup y=some d→∃u,base.IsCell d (some u):=λy d e=>by
  obtain⟨j,hj,ej⟩:=gK (gJ e)
  obtain⟨_,_,v,u,_,_,hu⟩:=S.at' j y d (hG.mpr ⟨hj,ej⟩)
  exact⟨u,hu⟩
 have I:Inv (qG5 CX P w K mg base (x0::clos.map (·.1)) qual scope clos f (.ref c) A outer s H E) [] (some v0::fvs.map some) H { s with heap:=h',toks:=s.toks + [(x0,u0)].length }:=by
  refine⟨⟨e0.mod,S.kind,rfl,rfl,kM _,S.inj,λy hy=>?_,λy c z _=>absurd (show false=true from z) (by decide),λ_=>hr.hd,Around.frames_deeper e0.frames,.inr ⟨rfl,rfl⟩,λb z=>absurd z (noA b),e0.bs,e0.bsz,λb _ _=>noA b,λb z=>absurd z (noA b),e0.funs,e0.frf⟩,
   rfl,e0.bare,Un.kept hk,⟨_,hn,λi y v h1 h2 h3=>?_⟩,λy d e=>?_,e0.hok.fresh (kM _),λy d e=>?_,λp hp=>absurd (show p∈([]:List (Addr×Obj))from hp) (by simp),e0.hok.kept hk,?_⟩
  ·have hy:scope.names.lookup y=some .cell∨scope.names.lookup y=some .free:=hy
   rcases hy with hy|hy
   ·exact absurd rfl (S.nocell _ (gJ hy))
   ·exact S.free y hy
  ·cases i with
   |zero=>
    obtain rfl:=kF h1
    obtain rfl:=kF (kF h2)
    refine⟨u0,r0,.inl ⟨S.par,?_⟩⟩
    show([(x0,u0)]:List (Str×Value)).reverse.lookup x0=some u0
    simp
   |succ j=>
    have h1:(clos.map (·.1))[j]?=some y:=h1
    have h2:(fvs.map some)[j]?=some (some v):=h2
    rw[kN]at h1 h2
    obtain⟨⟨y',d⟩,hd,rfl⟩:=mF.mp h1
    obtain⟨v',hv,ev⟩:=mF.mp h2
    obtain rfl:=kF ev
    obtain⟨a1,a2,v2,u,a3,a4,a5⟩:=S.at' j _ d hd
    rw[hv]at a3
    obtain rfl:=kF a3
    exact⟨u,a4,.inr ⟨.inr a1,d,a2,a5.keeps λb o e=>hk b o (e0.bs b o e).1⟩⟩
  ·obtain⟨u,hu⟩:=cat y d e
   exact⟨_,hu.keeps λb o e=>hk b o (e0.bs b o e).1⟩
  ·obtain⟨u,o,ho,_⟩:=cat y d e
   exact(e0.bs _ _ ho).2
  ·show(some v0::fvs.map some).length=(x0::clos.map (·.1)).length
   rw[mP,mP,hC,hC,S.len]
 exact dY (ht [] _ _ H _ I hq) (λu s' ⟨v,H',J,rv,q⟩=>⟨v,H',J.os,J.bare,J.base,J.hok,rv,q⟩) λe s' hs=>hs
theorem qHH{scope:Scope}{env:Env}(h:(scope.names.all λy=>decide (y.2≠ .free)||(env.cells.lookup y.1).isSome)=true):closureFor scope env=pure (clOf env scope.names []):=
 q6J λy hy hf=>by
  have q:=gW.mp h y hy
  rw[Bool.or_eq_true,kW]at q
  rcases q with q|q
  ·exact absurd hf q
  ·exact Option.isSome_iff_exists.mp q
theorem qEB{scope:Scope}{x0 y:Str}{ca:Addr}{v:V}{u:Value}{base:Heap}(hk:scope.kind=.function)(hco:scope.isCoroutine=false)(hg:scope.isGenerator=false)(hp:scope.names.lookup x0=some .local)
 (hn:(scope.names.all λz=>decide (z.2≠ .cell)&&(decide (z.2≠ .free)||decide (z.1=y)))=true) (hf:scope.names.lookup y=some .free) (r:RelV v u) (hc:base.IsCell ca (some u)):LamSc scope x0 [(y,ca)] [v] base:=by
 have at1:∀z∈scope.names,z.2≠ .cell∧(z.2≠ .free∨z.1=y):=λz hz=>by
  have q:=gW.mp hn z hz
  rw[mT,Bool.or_eq_true,kW,kW,kW]at q
  exact q
 have lk:([(y,ca)]:List (Str×Addr)).lookup y=some ca:=by simp
 have one:∀x c,([(y,ca)]:List (Str×Addr)).lookup x=some c→x=y∧c=ca:=λx c e=>by
  have m:=gJ e
  simpa using m
 refine⟨hk,hco,hg,hp,λz hz=>(at1 z hz).1,λz hz=>?_,λa b c h1 h2=>?_,λj x c h=>?_,rfl⟩
 ·have m:=(at1 _ (gJ hz)).2
  rcases m with m|m
  ·exact absurd rfl m
  ·exact⟨ca,by rw[show z=y from m];exact lk⟩
 ·rw[(one _ _ h1).1,(one _ _ h2).1]
 ·match j,h with
  |0,h=>
   obtain⟨rfl,rfl⟩:y=x∧ca=c:=by simpa using h
   exact⟨hf,lk,v,u,rfl,r,hc⟩
  |j+1,h=>exact absurd h (by simp)
theorem qB2{env:Env}{names:List (Str×NameKind)}{y:Str}{ca:Addr}(e:env.cells.lookup y=some ca)(h:clOf env names []=match env.cells.lookup y with|some a=>[(y,a)] |none=>[]):clOf env names []=[(y,ca)]:=by
 rw[h,e]
noncomputable def qJP(T:Addr)(pos:Pos)(qual:Str)(params:Arguments)(body:Expr)(scope:Scope)(clos:List (Str×Addr))(pm:Value):TE:=λσ H Q=>∃ps c',H T=some (.tbl ps)∧TriplesOk ps.toList∧codeAmong pos ps.toList=some (.ref c')∧
 ∀(f:Addr) (ctv:Value),H f=none→Q (.ref f) (upd H f (fnO f (kla_fn "<lambda>" qual params body scope clos pm (.ref c') ctv)))
theorem qG6{X:Cx}{c T:Addr}{params:Arguments}{body:Expr}{scope:Scope}{pos:Pos}{clos:List (Str×Addr)}(hcode:X.env.code=.ref c)(hcd:codeHdIn X.K c T=true)(B:BmIn X.base X.mg)(hcl:closureFor scope X.env=pure clos)(hdef:defaultsOf params X.env=([],[])):
 PE X (.Lambda params body scope pos) (qJP T pos (X.env.qual++"<lambda>") params body scope clos ((X.mg "__name__").getD .none)):=by
 intro pins s σ H Q I hZ
 obtain⟨ps,c',hT,ht,hnf,q⟩:=hZ
 have hP:s.heap.get? T=some (tabObj ps):=I.hok T _ hT
 have hgs:s.heap.Ns mainGlobals X.mg:=I.ok.mod.glob.keeps I.bk
 obtain⟨bm,ob,b1,b2,b3,b4,b5,b6⟩:=B
 have b3':=I.bk _ _ b3
 have hbP:bm≠T:=λz=>by rw[z,hP]at b3';cases b3';cases b4
 have hbG:bm≠mainGlobals:=λz=>by
  obtain⟨o,es,ep,e,hd,_⟩:=hgs
  rw[z,e]at b3';cases b3';rw[hd]at b6;cases b6
 refine kla_eval hdef (kla_makeFunctionHit (clos:=clos) hcl I.ok.glob hgs hcode (codeHd_of_K I.kIn hcd) hP ht hnf ⟨bm,ob,b1,b2,hbG,hbP,b3',b4,b5,b6⟩ λctv h' tk hx sz=>?_)
 have trk:∀b u,s.heap.get? b=some u→∀o,(h'.push o).get? b=some u:=λb u e o=>hZ _ (hx b u e)
 have nF:H h'.objs.size=none:=I.hok.fresh sz
 refine⟨.ref h'.objs.size,_,?_,rfl,q _ ctv nF⟩
 refine I.un (t':=tk) ⟨λb o e n _ _=>trk b o e _,λb o e n _ _=>⟨o.slots,trk b o e _⟩,λb o e n _=>?_,λb o e _=>⟨o,trk b o e _⟩,λb xs e=>?_,λb o u e=>?_,λb qs e=>?_⟩ λb u e=>?_
 ·rw[qD (mM (mC (kO e) sz))]
  exact n
 ·rw[qD (qI e nF)];exact e
 ·rw[qD (qI e nF)];exact e
 ·exact⟨#[],by rw[qD (qI e nF),e];simp⟩
 ·by_cases z3:b=h'.objs.size
  ·subst z3
   rw[qH]at e;cases e
   exact qG3 (mI _ rfl)
  ·rw[qD z3]at e
   refine(I.hok b u e).stay (λd v hd r=>trk d v r _) (λd r=>?_) λd xs r=>?_
   ·rw[qD (qI r nF)];exact r
   ·rw[qD (qI r nF)];exact r
noncomputable def qL5(T:Addr)(pos:Pos)(qual:Str)(params:Arguments)(body:Expr)(scope:Scope)(clos:List (Str×Addr))(pm:Value):TE:=λσ H Q=>∃ps,H T=some (.tbl ps)∧TriplesOk ps.toList∧
 ((codeAmong pos ps.toList=none∧∀(f c':Addr) (ctv:Value) (H':Hp),H f=none→H' f=some (fnO f (kla_fn "<lambda>" qual params body scope clos pm (.ref c') ctv))→H' c'=some (cdO c' qual)→H' T=some (.tbl (ps++#[rawInt pos.line,rawInt pos.col,.ref c']))→(∀b o,b≠T→H b=some o→H' b=some o)→Q (.ref f) H')∨
  ∃c',codeAmong pos ps.toList=some (.ref c')∧∀(f:Addr) (ctv:Value) (H':Hp),H f=none→H' f=some (fnO f (kla_fn "<lambda>" qual params body scope clos pm (.ref c') ctv))→Same H H'→Q (.ref f) H')
theorem q62{X:Cx}{c T:Addr}{params:Arguments}{body:Expr}{scope:Scope}{pos:Pos}{clos:List (Str×Addr)}(hcode:X.env.code=.ref c)(hcd:codeHdIn X.K c T=true)(B:BmIn X.base X.mg)(hcl:closureFor scope X.env=pure clos)(hdef:defaultsOf params X.env=([],[])):
 PE X (.Lambda params body scope pos) (qL5 T pos (X.env.qual++"<lambda>") params body scope clos ((X.mg "__name__").getD .none)):=λpins s σ H Q I ⟨ps,hT,ht,h⟩=>by
 rcases h with⟨hn,q⟩|⟨c',hn,q⟩
 ·exact qHF hcode hcd B hcl hdef pins s σ H Q I ⟨ps,hT,ht,hn,λf c' ctv nf nc fc=>q f c' ctv _ nf qH (by rw[qD fc.symm];exact qH) (by rw[qD (qI hT nf),qD (qI hT nc)];exact qH) λb o nb e=>by rw[qD (qI e nf),qD (qI e nc),qD nb];exact e⟩
 ·exact qG6 hcode hcd B hcl hdef pins s σ H Q I ⟨ps,c',hT,ht,hn,λf ctv nf=>q f ctv _ nf qH (Same.upd nf)⟩
theorem qHI{X:Cx}{CX:CXT}{k:Nat}{f:Addr}{fd:FuncData}{ps:List Str}{sp:Heap→Sp}{dvs:List V}{ds:List Value}{E:XK}{pins:List (Addr×Obj)}{σ:St}{H:Hp}{s:Shared}{Q:VK}{us:List Value}{vs:List V}(ix:List (Nat×Str))
 (hix:∀p∈ix,X.N[p.1]?=some p.2∧X.env.scope.names.lookup p.2=some .cell∧X.fn p.2=true)
 (F:∀base',(∀b o,X.base.get? b=some o→base'.get? b=some o)→q6Y X.env.cells σ base' ix→FnOk X.prog X.w X.K X.mg base' CX k f fd ps (sp base')) (hr:Room k X.A) (hb:jT X.K fd ps ds) (hd:Vals dvs ds) (hx:q07 CX X E)
 (I:Inv X pins σ H s) (r:Vals vs us) (h:∀base',(∀b o,X.base.get? b=some o→base'.get? b=some o)→q6Y X.env.cells σ base' ix→sp base' (vs++dvs) H Q E):wpAny (model X.prog X.w) X.A (call (.ref f) us) (EP X pins σ Q) X.xe s:=by
 have r2:Vals (vs++dvs) (us++ds):=r.append hd
 obtain⟨e0,up,cel⟩:=I.env0C (ix.filterMap λp=>X.env.cells.lookup p.2) (λc hc=>by
  obtain⟨p,hp,e⟩:=List.mem_filterMap.mp hc
  exact⟨p.2,(hix p hp).2.2,e⟩)
 have cv:q6Y X.env.cells σ (hidT s.heap (vO X.base (ix.filterMap λp=>X.env.cells.lookup p.2))) ix:=λp hp v hv=>by
  obtain⟨h1,h2,h3⟩:=hix p hp
  obtain⟨m,_,hl⟩:=I.loc
  obtain⟨u,ru,lk⟩:=hl p.1 p.2 v h1 hv (.inr (.inl h2))
  rcases lk with⟨z,_⟩|⟨_,c,hc,o,ho,hd⟩
  ·have z:X.env.scope.names.lookup p.2=some .local:=z
   rw[h2]at z;cases z
  ·exact⟨c,u,hc,ru,o,cel c (List.mem_filterMap.mpr ⟨p,hp,hc⟩) o ho,hd⟩
 have q:=h _ up cv
 have hl:(us++ds).length=ps.length:=by rw[←r2.length];exact(F _ up cv).len _ _ _ _ q
 refine PySem.wpAny_call (PySem.codeAny_mono ((F _ up cv).run X.A X.stack s H ⟨us,[]⟩ (us++ds) (vs++dvs) Q E hr e0 (hb s us I.kIn hl) r2 q) λr s' hq=>?_)
 cases r with
 |error e=>exact hx pins σ H s e s' I hq
 |ok fl=>
  cases fl with
  |ret u=>exact I.after hq
  |next=>exact False.elim hq
  |brk=>exact False.elim hq
  |cont=>exact False.elim hq
noncomputable def oneQ(R:V→Hp→Prop):List V→Hp→Prop
 | [v],H=>R v H
 |_,_=>False
theorem qHJ{R:V→Hp→Prop}:∀{xs:List V} {H:Hp},oneQ R xs H→∃v,xs=[v]∧R v H
 | [v],_,h=>⟨v,rfl,h⟩
 | [],_,h=>h.elim
 |_::_::_,_,h=>h.elim
noncomputable def tSL(P:Program)(w:World)(K:PySem.W.Frag)(mg:Str→Option Value)(base:Heap)(cells:List (Str×Addr))(ix:List (Nat×Str))(k:Nat)(x:Str)(tl:TE)(ta:TA):TE:=λσ H Q=>ta σ H λvs H1=>tl σ H1 λfv H2=>∃(f:Addr) (fd:FuncData) (sp:Heap→Sp),fv=.ref f∧
 (∀base',(∀b o,base.get? b=some o→base'.get? b=some o)→q6Y cells σ base' ix→FnOk P w K mg base' CX0 k f fd [x] (sp base'))∧jT K fd [x] []∧
 ∃(l:Addr) (us:List V) (Pv:Nat→List V→Hp→Prop),vs=[.ref l]∧SqL K H2 l us∧us.length<64∧Pv 0 [] H2∧(∀base' i x zs H',q6Y cells σ base' ix→us[i]?=some x→Pv i zs H'→sp base' [x] H' (λz H''=>Pv (i+1) (zs++[z]) H'') E0)∧
 ∀zs H',zs.length=us.length→Pv us.length zs H'→∃kk m,Paired (TupI K H') zs kk∧(∀k∈kk,k.length=m)∧0<m∧∀q:List Nat,q.Perm (List.range us.length)→(q.map λi=>kk.getD i []).Pairwise (λa b=>lx b a=false)→NewO H' (.lst (q.map λi=>us.getD i .non)) Q
theorem qCD{X:Cx}{k:Nat}{x:Str}{e le:Expr}{tl:TE}{ta:TA}{p kp pos:Pos}(ix:List (Nat×Str))(hix:∀p∈ix,X.N[p.1]?=some p.2∧X.env.scope.names.lookup p.2=some .cell∧X.fn p.2=true)(hr:Room (k+2) X.A)(hg:Gl X "sorted")(hm:X.mg "sorted"=none)(hl:PE X le tl)(ha:PA X [e] ta)
 (he:starEach [e] X.env=[(false,eval e X.env)]:=by rfl) (hse:starEach ([]:List Expr) X.env=[]:=by rfl):
 PE X (.Call (.Name "sorted" p) [e] [⟨some "key",le,kp⟩] pos) (tSL X.prog X.w X.K X.mg X.base X.env.cells ix k x tl ta):=by
 intro pins s σ H Q I h
 refine dA (q22 I hg hm (u:=.builtin "sorted") (by kernel_rfl) ?_ (by decide) (by decide))
 refine callWith_kw (thn (ha pos pins s σ H _ I h) λus s1 ⟨vs,H1,I1,r1,q1⟩=>?_) (by rw[he,hse];rfl) (by rw[he];rfl)
 have pk:PK X [⟨some "key",le,kp⟩] (qCR tl tNil):=qCS hl qF1
 refine thn (pk pos pins s1 σ H1 (oneQ _) I1 q1) λws s2 hZ=>?_
 obtain⟨xs,H2,I2,r2,q2⟩:=hZ
 obtain⟨v,rfl,f,fd,sp,rfl,F,hb,q2⟩:=qHJ q2
 obtain⟨w,rfl,rw⟩:=zH r2
 obtain rfl:w=Value.ref f:=rw
 obtain⟨l,us',Pv,ev,hq,h64,p0,hs,hd⟩:=q2
 subst ev
 obtain⟨u,rfl,ru⟩:=zH r1
 obtain rfl:u=Value.ref l:=ru
 obtain⟨its,rv,pl,hz⟩:=I2.list hq
 have hlen:=rv.length
 show wpAny (model X.prog X.w) X.A (call (.builtin "sorted") [.ref l] [(Str.ofString "key",.ref f)]) _ _ _
 refine call_function_entry_kw kind_sorted plain_sorted entry_sorted (ksk_s1 _ _) ?_
 unfold Builtin.«sorted»
 refine kD (m:=checkCount "sorted" 1 1 _) (kZ (kD (collect_list pl.isList (kD (PySem.wpAny_newList ?_ (by rw[gD];show its.length≤_;omega))))))
 have hsz:((s2.heap.push (seqObj "list" #[] 0)).update s2.heap.objs.size (Obj.mapSeq (· ++its.toArray))).objs.size=s2.heap.objs.size+1:=by
  rw[PySem.Heap.size_update,size_push']
 have g:(((s2.heap.push (seqObj "list" #[] 0)).update s2.heap.objs.size (Obj.mapSeq (· ++its.toArray))).push (seqObj "list" its.toArray 0)).get? (s2.heap.objs.size+1)=some (seqObj "list" its.toArray 0):=by
  rw[←hsz];exact mI _ rfl
 show wpAny _ _ _ _ _ { s2 with heap:=((s2.heap.push (seqObj "list" #[] 0)).update s2.heap.objs.size (Obj.mapSeq (· ++its.toArray))).push (seqObj "list" its.toArray 0) }
 rw[hsz]
 have I3:Inv X pins σ H2 { s2 with heap:=((s2.heap.push (seqObj "list" #[] 0)).update s2.heap.objs.size (Obj.mapSeq (· ++its.toArray))).push (seqObj "list" its.toArray 0),toks:=s2.toks }:=
  I2.kept (t':=s2.toks) λb o e=>hZ _ ((mE _ _ (g7 (kO e))).trans (hZ _ e))
 refine kD (gU (wpAny_call_entry_kw slot_list_sort ⟨_,g,rfl⟩ entry_list_sort ?_ (ksk_l1 _ _)))
 rw[ksk_t1]
 have fr:s2.heap.objs.size≤s2.heap.objs.size+1:=dC _
 refine q8Y I3 g (I2.fpOk fr (I2.hok.fresh fr)) (mD I2.sz fr) rv h64 Pv p0 (λi x zs H' pins' s' u hx rx pv I'=>qHI (X:={ X with A:=X.A.in1.in1,xe:=λ_ _=>False }) (dvs:=[]) (ds:=[]) (E:=E0) ix hix F hr.in1.in1 hb .nil qK I' (.cons rx .nil) (λbase' up cv=>hs base' i x zs H' cv hx pv)) λzs H' na lz pv=>?_
 obtain⟨kk,m,a1,a2,a3,a4⟩:=hd zs H' lz pv
 refine⟨kk,m,a1,a2,a3,λq b1 b2 s' I'=>⟨_,rfl,kZ ⟨_,rfl,.ref _,_,I',rfl,(a4 q b1 b2).at _ na⟩⟩⟩
end L2
namespace W1
open PySem L2
structure QM where
 P:Nat
 B:Nat
 nx:Int
 V:Mp
 lv:List Int
 fi:List Int
 bo:List Int
namespace QM
structure Ok(m:QM):Prop where
 p1:1≤m.P
 p2:m.P≤16
 b2:m.B≤16
 ll:m.lv.length=m.B
 lf:m.fi.length=m.B
 lo:m.bo.length=m.B
 nd:(m.V.map (·.1)).Nodup
 nm:∀q∈m.V,0≤q.1∧q.1≤64
 blk:∀q∈m.V,∃b:Nat,b<m.B∧q.2 / (m.P:Int)=(b:Int)
 wr:∀b,b<m.B→∃f:Nat,m.fi.getD b 0=(f:Int)∧f≤m.P
variable{m:QM}
theorem Ok.lenV(h:m.Ok):m.V.length≤65:=by
 have:=q6U (l:=m.V.map (·.1)) (m:=(List.range 65).map λi:Nat=>(i:Int)) h.nd λx hx=>by
  obtain⟨q,hq,rfl⟩:=kX.mp hx
  have:=h.nm q hq
  exact kX.mpr ⟨q.1.toNat,mK.mpr (by omega),by omega⟩
 rw[hC,hC,mR]at this
 exact this
noncomputable def forget(m:QM)(n:Int):QM:={ m with V:=y9 m.V n,lv:=BM.lvF m.P m.V m.lv n }
theorem find_V{n:Int}:(∃p,(n,p)∈m.V∧m.V.find? (λq=>decide (q.1=n))=some (n,p))∨((∀q∈m.V,q.1≠n)∧m.V.find? (λq=>decide (q.1=n))=none):=by
 cases e:m.V.find? (λq=>decide (q.1=n))with
 |none=>
  refine .inr ⟨λq hq z=>?_,rfl⟩
  have:=rY.mp e q hq
  exact this (hI z)
 |some q=>
  have h1:q.1=n:=by
   have:=g8 e
   simpa using this
  have h2:=gO e
  refine .inl ⟨q.2,by rw[←h1];exact h2,by rw[←h1]⟩
theorem lvF_len{n:Int}:(BM.lvF m.P m.V m.lv n).length=m.lv.length:=by
 unfold BM.lvF
 split
 ·rw[mV]
 ·rfl
theorem Ok.forget(h:m.Ok)(n:Int):(m.forget n).Ok:=
 { h with ll:=by show(BM.lvF m.P m.V m.lv n).length=m.B;rw[lvF_len];exact h.ll,nd:=q6V h.nd,nm:=λq hq=>h.nm q (jG.mp hq).1,blk:=λq hq=>h.blk q (jG.mp hq).1 }
noncomputable def put(m:QM)(b f:Nat)(n:Int):QM:=
 { m with V:=y9 m.V n++[(n,((b*m.P+f:Nat):Int))],lv:=(BM.lvF m.P m.V m.lv n).set b ((BM.lvF m.P m.V m.lv n).getD b 0+1),bo:=if m.fi.getD b 0=0 then m.bo.set b m.nx else m.bo,fi:=m.fi.set b (m.fi.getD b 0+1),nx:=m.nx+1 }
theorem Ok.put(h:m.Ok){b f:Nat}{n:Int}(hb:b<m.B)(hf:f<m.P)(ef:m.fi.getD b 0=(f:Int))(n0:0≤n)(n1:n≤64):(m.put b f n).Ok where
 p1:=h.p1
 p2:=h.p2
 b2:=h.b2
 ll:=by show(List.set _ _ _).length=m.B;rw[mV,lvF_len];exact h.ll
 lf:=by show(List.set _ _ _).length=m.B;rw[mV];exact h.lf
 lo:=by
  show(if m.fi.getD b 0=0 then m.bo.set b m.nx else m.bo).length=m.B
  split
  ·rw[mV];exact h.lo
  ·exact h.lo
 nd:=by
  show((y9 m.V n++[(n,((b*m.P+f:Nat):Int))]).map (·.1)).Nodup
  rw[kU]
  refine List.nodup_append.mpr ⟨q6V h.nd,by simp,λa ha c hc=>?_⟩
  obtain⟨q,hq,rfl⟩:=kX.mp ha
  have hc:c=n:=by simpa using hc
  rw[hc]
  exact(jG.mp hq).2
 nm:=λq hq=>by
  rcases gF.mp hq with hq|hq
  ·exact h.nm q (jG.mp hq).1
  ·rw[kC.mp hq];exact⟨n0,n1⟩
 blk:=λq hq=>by
  rcases gF.mp hq with hq|hq
  ·exact h.blk q (jG.mp hq).1
  ·rw[kC.mp hq]
   refine⟨b,hb,?_⟩
   show((b*m.P+f:Nat):Int) / (m.P:Int)=_
   rw[←Int.natCast_ediv,u7 hf]
 wr:=λc hc=>by
  show ∃g:Nat,(m.fi.set b (m.fi.getD b 0+1)).getD c 0=(g:Int)∧g≤m.P
  rw[jI]
  split
  ·exact⟨f+1,by rw[ef];rfl,hf⟩
  ·exact h.wr c hc
end QM
noncomputable def vn(b:Nat):V:=.int (b:Int)
noncomputable def uH(B:Nat)(br:List Bool):List Nat:=(List.range B).filter λb=>!(br.getD b false)
noncomputable def yV(B:Nat)(br:List Bool)(fi:List Int):List Nat:=(uH B br).filter λb=>decide (fi.getD b 0=0)
noncomputable def keyN(cl:List Int)(b:Nat):List Int:=[cl.getD b 0,(b:Int)]
structure FreeIs(B:Nat)(br:List Bool)(cl fi:List Int)(l:List Nat):Prop where
 pm:l.Perm (yV B br fi)
 so:(l.map (keyN cl)).Pairwise λa b=>lx b a=false
theorem q9K{cl:List Int}{a b:Nat}(h:keyN cl a=keyN cl b):a=b:=by
 unfold keyN at h
 injection h with _ h
 injection h with h _
 omega
theorem qD9{α β:Type}{f:α→β}(hf:∀a b,f a=f b→a=b):∀{l m:List α},l.map f=m.map f→l=m
 | [],[],_=>rfl
 | [],_::_,h=>by cases h
 |_::_,[],h=>by cases h
 |a::l,b::m,h=>by
  rw[mJ,mJ]at h
  injection h with h1 h2
  rw[hf _ _ h1,qD9 hf h2]
theorem FreeIs.one{B:Nat}{br:List Bool}{cl fi:List Int}{l l':List Nat}(h:FreeIs B br cl fi l)(h':FreeIs B br cl fi l'):l=l':=
 qD9 (f:=keyN cl) (λ_ _=>q9K) (qCA ((h.pm.trans h'.pm.symm).map _) h.so h'.so)
theorem q0Z{B:Nat}{br:List Bool}{b:Nat}:b∈uH B br↔b<B∧br.getD b false=false:=by
 unfold uH
 rw[m9,mK,dW]
theorem q8Z{B:Nat}{br:List Bool}{fi:List Int}{b:Nat}:b∈yV B br fi↔(b<B∧br.getD b false=false)∧fi.getD b 0=0:=by
 unfold yV
 rw[m9,q0Z,kW]
theorem q10{B:Nat}{br:List Bool}:(uH B br).length≤B:=mD (kY _ _) (by rw[mR];exact kM _)
theorem qEC{B:Nat}{br:List Bool}{fi:List Int}:(yV B br fi).length≤B:=mD (kY _ _) q10
theorem FreeIs.mem{B:Nat}{br:List Bool}{cl fi:List Int}{l:List Nat}(h:FreeIs B br cl fi l){b:Nat}(hb:b∈l):b<B∧br.getD b false=false∧fi.getD b 0=0:=by
 have:=q8Z.mp (h.pm.mem_iff.mp hb)
 exact⟨this.1.1,this.1.2,this.2⟩
noncomputable def jX(P:Nat)(fi:List Int)(b:Nat):Bool:=decide (0<fi.getD b 0)&&decide (fi.getD b 0<(P:Int))
noncomputable def jJ(B P:Nat)(br:List Bool)(fi:List Int):Option Nat:=(uH B br).find? (jX P fi)
theorem q1G{B P:Nat}{br:List Bool}{fi:List Int}{b:Nat}(h:jJ B P br fi=some b):b<B∧br.getD b false=false∧0<fi.getD b 0∧fi.getD b 0<(P:Int):=by
 have h1:=q0Z.mp (gO h)
 have h2:=g8 h
 unfold jX at h2
 rw[mT,kW,kW]at h2
 exact⟨h1.1,h1.2,h2.1,h2.2⟩
noncomputable def q3D(B P:Nat)(br:List Bool)(fi:List Int)(l:List Nat):Option Nat:=match jJ B P br fi with
 |some b=>some b
 |none=>l.head?
theorem q6Z{B P:Nat}{br:List Bool}{cl fi:List Int}{l:List Nat}(hl:FreeIs B br cl fi l)(hP:1≤P){b:Nat}(h:q3D B P br fi l=some b):b<B∧br.getD b false=false∧0≤fi.getD b 0∧fi.getD b 0<(P:Int):=by
 unfold q3D at h
 split at h
 ·rename_i b' e
  cases h
  have:=q1G e
  exact⟨this.1,this.2.1,by omega,this.2.2.2⟩
 ·cases l with
  |nil=>cases h
  |cons c r=>
   cases h
   have:=hl.mem mL
   exact⟨this.1,this.2.1,by omega,by omega⟩
noncomputable def pgV(P:Nat)(fi:List Int):Option Nat→V
 |none=>.non
 |some b=>.int ((b:Int)*(P:Int)+fi.getD b 0)
noncomputable def oV:Option Nat→V
 |none=>.non
 |some b=>.int (b:Int)
theorem q70{α β:Type}{L:List α}{f:α→β}{d:β}{e:α}:∀{q:List Nat},(∀i∈q,i<L.length)→(q.map λi=>(L.map f).getD i d)=(q.map λi=>L.getD i e).map f
 | [],_=>rfl
 |i::q,h=>by
  have hi:=h i mL
  rw[mJ,mJ,mJ,q70 (q:=q) λj hj=>h j (kE _ hj)]
  congr 1
  rw[hU,hU,kN,hE hi]
  rfl
theorem qCE{α:Type}{L:List α}{e:α}{q:List Nat}(h:q.Perm (List.range L.length)):(q.map λi=>L.getD i e).Perm L:=by
 have:=h.map λi=>L.getD i e
 refine this.trans ?_
 have eq:(List.range L.length).map (λi=>L.getD i e)=L:=by
  refine List.ext_getElem (by simp) λi h1 h2=>?_
  rw[List.getElem_map,List.getElem_range,hU,hE h2]
  rfl
 rw[eq]
theorem qHK{B:Nat}{br:List Bool}{cl fi:List Int}{q:List Nat}(h:q.Perm (List.range (yV B br fi).length))(so:(q.map λi=>((yV B br fi).map (keyN cl)).getD i []).Pairwise λa b=>lx b a=false):FreeIs B br cl fi (q.map λi=>(yV B br fi).getD i 0):=by
 have hin:∀i∈q,i<(yV B br fi).length:=λi hi=>mK.mp (h.mem_iff.mp hi)
 refine⟨qCE h,?_⟩
 rw[q70 (e:=0) hin]at so
 exact so
theorem qED{α β:Type}{L:List α}{f:α→β}{i:Nat}{x:α}(h:L[i]?=some x):(L.take (i+1)).map f=(L.take i).map f++[f x]:=by
 have hi:=(hG.mp h).1
 obtain rfl:L[i]=x:=(hG.mp h).2
 rw[←mB hi,kU]
 rfl
theorem qHL{a b:List Int}(h:lx a b=true):lx b a=false:=by
 cases z:lx b a with
 |false=>rfl
 |true=>
  have:=zJ a b a h z
  rw[q3J]at this
  cases this
theorem qI9{a b c:List Int}(h1:lx b a=false)(h2:lx c b=false):lx c a=false:=by
 cases z:lx c a with
 |false=>rfl
 |true=>
  cases y:lx a b with
  |true=>
   have:=zJ c a b z y
   rw[h2]at this
   cases this
  |false=>
   have e:=q09 a b y h1
   rw[e]at z
   rw[h2]at z
   cases z
theorem FreeIs.ex(B:Nat)(br:List Bool)(cl fi:List Int):∃l,FreeIs B br cl fi l:=by
 refine⟨(yV B br fi).mergeSort λa b=>!(lx (keyN cl b) (keyN cl a)),List.mergeSort_perm _ _,?_⟩
 have:=List.pairwise_mergeSort (le:=λa b=>!(lx (keyN cl b) (keyN cl a))) (λa b c h1 h2=>by
  rw[dW]at h1 h2 ⊢
  exact qI9 h1 h2) (λa b=>by
  cases z:lx (keyN cl b) (keyN cl a)with
  |false=>rfl
  |true=>rw[qHL z];rfl) (yV B br fi)
 rw[gC]
 exact this.imp λh=>by
  rw[dW]at h
  exact h
theorem rep8{α:Type}{n i:Nat}{y:α}:(List.replicate n y).getD i y=y:=by
 rw[hU,gE]
 split<;>rfl
theorem yF{B:Nat}:uH B (List.replicate B false)=List.range B:=by
 unfold uH
 refine List.filter_eq_self.mpr λb _=>?_
 rw[rep8]
 rfl
end W1
namespace L2
open PySem PySem.Spec PyProof.Rows
structure ClM(K:PySem.W.Frag)(W:Addr)(m:Str)(f:Addr):Prop where
 rd:PySem.W.readsIn K W (.type "type")=true
 fd:PySem.W.findCls K (.ref W) (.type "type") m=some (.val (.ref f))
 ga:PySem.W.specialIn K (.ref W) "__getattribute__"=some (some (.builtin "type.__getattribute__"))
 kp:PySem.W.keepIn K (.ref f)=true
noncomputable def gLst(K:PySem.W.Frag)(n:Nat)(t:TGs):TG:=λv σ H Q=>∃a xs,v=.ref a∧SqL K H a xs∧xs.length=n∧t xs σ H Q
theorem qJQ{X:Cx}{pos:Pos}{es:List Expr}{k:Nat}{t:TGs}{n:Nat}(hc:X.calm=true)(h:PGs X es t)
 (hn:(assignEach es X.env).length=n:=by rfl) (hst:(assignEach es X.env).findIdx? (·.1)=none:=by rfl):PG X (.Tuple es k pos) (gLst X.K n t):=by
 intro pins s σ H v u Q I r hw
 obtain⟨a,xs,e1,hq,hl,hw⟩:=hw
 subst e1
 cases r
 obtain⟨its,rv,p,hz⟩:=I.list hq
 rw[PyProof.Rows.assign_Tuple]
 refine kD (PySem.wpAny_standAt ?_)
 unfold unpack
 rw[show(assignEach es X.env).length=its.toArray.size by simp[hn,←hl,rv.length],hst]
 refine kD (gU (PySem.W.kun_itemsOf (I.ok.hd hc) p.isList λh' hx=>?_))
 have I1:Inv X pins σ H { s with heap:=h' }:=I.kept (t':=s.toks) λb o e=>hx b o (mM (kO e)) e
 exact h pins _ σ H xs _ Q I1 (by simpa using rv) hw
section
variable{X:Cx}{k:Nat}{f W:Addr}{fd:FuncData}{ps:List Str}{sp:Sp}{dvs:List V}{ds:List Value}{x m:Str}{p pos apos:Pos}{e:Expr}{es:List Expr}{t:TA}
theorem qJR{CX:CXT}{E:XK}(b:ClM X.K W m f)(F:FnOk X.prog X.w X.K X.mg X.base CX k f fd ps sp)(hr:Room k X.A)(hg:Gl X x)(hm:X.mg x=some (.ref W))(hb:jT X.K fd ps ds)(hd:Vals dvs ds)(hx:q07 CX X E)(ha:PA X (e::es) t)(hdb:(x==("__debug__":Str))=false:=by decide)
 (he:starEach (e::es) X.env=(false,eval e X.env)::starEach es X.env:=by rfl) (hpl:(backTo pos (starEach es X.env)).any (·.1)=false:=by rfl) {pl:Sem Bool}
 (ht:eval (.Call (.Attribute (.Name x p) m apos) (e::es) [] pos) X.env=(do
  let ov←eval (.Name x p) X.env
  standAt apos.atName
  let(f,first)←holding [ov] (getMethod ov m pl)
  callWith pos f first (backTo pos (starEach (e::es) X.env)) (backToKw pos (keywordEach [] X.env))):=by rfl):
 PE X (.Call (.Attribute (.Name x p) m apos) (e::es) [] pos) (qI2 sp dvs E t):=by
 intro pins s σ H Q I h
 refine PySem.W.methodCall_KW (pl:=pl) (q46 I hg hm ?_ hdb) ht
 refine PySem.W.method_cls I.kIn b.ga (PySem.W.cls_value I.kIn b.rd b.fd rfl ?_)
 refine PySem.W.callWith_K (first:=[]) (h₀:=X.base) I.ok.mod.kin b.kp (thn (ha pos pins _ σ H _ (I.tok _) h) λus s2 ⟨vs,H2,I2,r,q2⟩=>⟨I2.kIn,?_⟩) he hpl
 exact q4P F hr hb hd hx I2 r q2
end
end L2
namespace W1
open PySem L2
noncomputable def rdy(ie:Int)(l:List Nat)(p:Option Nat):Bool:=decide ((l.length:Int)-(1+ie)>0)||(decide ((l.length:Int)-(1+ie)=0)&&p.isSome)
noncomputable abbrev tyL(m:CM)(q:QM)(b:Nat):List V:=[.int (b:Int),.int (q.lv.getD b 0),.int (m.cl.getD b 0),.int (q.bo.getD b 0)]
noncomputable def spcN(ie:Int)(l:List Nat)(P:Nat)(fi:List Int)(p:Option Nat):Int:=if 1+ie≤(l.length:Int)then(P:Int)else match p with|none=>0|some b=>(P:Int)-fi.getD b 0
noncomputable def yA(B P:Nat)(br:List Bool)(fi:List Int):List Nat:=(uH B br).filter λb=>decide (fi.getD b 0=(P:Int))
noncomputable def optN(ie:Int)(m:CM)(q:QM)(l:List Nat):List Nat:=((yA q.B q.P m.br q.fi).filter λb=>decide (q.lv.getD b 0≤spcN ie l q.P q.fi (jJ q.B q.P m.br q.fi))).filter λb=>decide (q.lv.getD b 0<(q.P:Int))
noncomputable def nmK(c s:Int)(k:Nat):Int:=(c+s*(k:Int))%64
noncomputable def qG7(q:QM)(r:Int×Nat×Int):QM:={ q with nx:=r.1 }.put (r.2.1 / q.P) (r.2.1%q.P) r.2.2
structure Fits(q:QM)(r:Int×Nat×Int):Prop where
 b:r.2.1 / q.P<q.B
 f:q.fi.getD (r.2.1 / q.P) 0=((r.2.1%q.P:Nat):Int)
 s:q.nx≤r.1
 n0:0≤r.2.2
 n1:r.2.2≤64
section
variable{q q0:QM}{r:Int×Nat×Int}{R:List (Int×Nat×Int)}
theorem Fits.ok(h:Fits q r)(ok:q.Ok):(qG7 q r).Ok:=by
 have okn:QM.Ok { q with nx:=r.1 }:={ ok with }
 exact okn.put h.b (Nat.mod_lt _ ok.p1) h.f h.n0 h.n1
structure QS(q:QM):Prop where
 ok:q.Ok
 lv:∀b,b<q.B→q.lv.getD b 0=(cntB q.P q.V b:Nat)
theorem qHM(h:QS q)(n:Int){b:Nat}(hb:b<q.B):(BM.lvF q.P q.V q.lv n).getD b 0=(cntB q.P (y9 q.V n) b:Nat):=by
 unfold BM.lvF
 rcases QM.find_V (m:=q) (n:=n)with⟨p,hp,e⟩|⟨no,e⟩
 ·rw[e]
  obtain⟨c,hc,ec⟩:=h.ok.blk _ hp
  have ec:p / (q.P:Int)=(c:Int):=ec
  have cd:=qFY (P:=q.P) (b:=b) h.ok.nd hp
  show(q.lv.set (p / (q.P:Int)).toNat (q.lv.getD (p / (q.P:Int)).toNat 0-1)).getD b 0=_
  rw[ec,mH,jI]
  rw[ec]at cd
  have e1:=h.lv b hb
  by_cases z:c=b
  ·subst z
   rw[kG rfl]at cd
   rw[kG ⟨rfl,by rw[h.ok.ll];exact hb⟩,e1]
   omega
  ·rw[hX (by omega)]at cd
   rw[hX (λy=>z y.1),e1]
   omega
 ·rw[e,h.lv b hb,show y9 q.V n=q.V from List.filter_eq_self.mpr λy hy=>hI (no y hy)]
theorem Fits.qs(h:Fits q r)(qs:QS q):QS (qG7 q r):=by
 refine⟨h.ok qs.ok,λb hb=>?_⟩
 have hb:b<q.B:=hb
 have lc:=qHM qs r.2.2 hb
 show((BM.lvF q.P q.V q.lv r.2.2).set (r.2.1 / q.P) ((BM.lvF q.P q.V q.lv r.2.2).getD (r.2.1 / q.P) 0+1)).getD b 0=((cntB q.P (y9 q.V r.2.2++[(r.2.2,((r.2.1 / q.P*q.P+r.2.1%q.P:Nat):Int))]) b:Nat):Int)
 have ep:r.2.1 / q.P*q.P+r.2.1%q.P=r.2.1:=by
  rw[Nat.mul_comm]
  exact Nat.div_add_mod _ _
 have ea:cntB q.P (y9 q.V r.2.2++[(r.2.2,(r.2.1:Int))]) b=cntB q.P (y9 q.V r.2.2) b+(if r.2.1 / q.P=b then 1 else 0):=by
  unfold cntB
  rw[List.countP_append,List.countP_singleton,←Int.natCast_ediv]
  by_cases z:r.2.1 / q.P=b
  ·rw[kG z,z,hI rfl]
   rfl
  ·rw[hX z,hV (by omega)]
   rfl
 rw[ep,ea,jI]
 by_cases z:r.2.1 / q.P=b
 ·rw[kG z,kG ⟨z,by rw[QM.lvF_len,qs.ok.ll];omega⟩,z,lc]
  omega
 ·rw[hX z,hX (λy=>z y.1),lc]
  omega
end
noncomputable def OneP(B P:Nat)(fi:List Int):Prop:=∀b c,b<B→c<B→jX P fi b=true→jX P fi c=true→b=c
noncomputable def clr1(P:Nat)(fi:List Int)(b:Nat):Nat:=P-(fi.getD b 0).toNat
noncomputable def rm(B P:Nat)(fi:List Int):Nat:=((List.range B).map (clr1 P fi)).sum
theorem qDA{L:List Nat}{f g:Nat→Nat}:(L.map λb=>f b+g b).sum=(L.map f).sum+(L.map g).sum:=by
 induction L with
 |nil=>rfl
 |cons x L ih=>
  rw[mJ,mJ,mJ,gY,gY,gY,ih]
  omega
theorem q11{L:List Nat}{f g:Nat→Nat}(h:∀b∈L,f b=g b):(L.map f).sum=(L.map g).sum:=by rw[List.map_congr_left h]
theorem qJS{L:List Nat}{p:Nat→Bool}{c:Nat}:(L.map λb=>if p b=true then c else 0).sum=(L.filter p).length*c:=by
 induction L with
 |nil=>rw[List.filter_nil];simp
 |cons x L ih=>
  rw[mJ,gY,ih,mY]
  by_cases h:p x=true
  ·rw[kG h,kG h,mP,Nat.succ_mul]
   omega
  ·rw[hX h,hX h]
   omega
theorem qDB{L:List Nat}{p:Nat→Bool}{h:Nat→Nat}(nd:L.Nodup)(one:∀a∈L,∀b∈L,p a=true→p b=true→a=b):(L.map λb=>if p b=true then h b else 0).sum=match L.find? p with|some b=>h b|none=>0:=by
 induction L with
 |nil=>rfl
 |cons x L ih=>
  obtain⟨n1,n2⟩:=mQ.mp nd
  rw[mJ,gY,dO]
  by_cases hx:p x=true
  ·rw[hx,kG rfl]
   have:(L.map λb=>if p b=true then h b else 0).sum=(L.map λ_=>0).sum:=q11 λb hb=>by
    rw[hX]
    intro z
    exact n1 (by rw[one x (by simp) b (kE _ hb) hx z];exact hb)
   rw[this]
   have z:(L.map λ_=>0).sum=0:=by
    clear this ih nd one n1 n2
    induction L with
    |nil=>rfl
    |cons y L ih=>rw[mJ,gY,ih]
   rw[z]
   rfl
  ·rw[hX hx]
   rw[Bool.not_eq_true]at hx
   rw[hx]
   rw[Nat.zero_add]
   exact ih n2 λa ha b hb=>one a (kE _ ha) b (kE _ hb)
section
variable{B P:Nat}{fi cl:List Int}{l:List Nat}
noncomputable abbrev noB(B:Nat):List Bool:=List.replicate B false
theorem qL6(on:OneP B P fi)(wr:∀b,b<B→∃f:Nat,fi.getD b 0=(f:Int)∧f≤P)(p1:1≤P)(hl:FreeIs B (noB B) cl fi l):
 rm B P fi=l.length*P+(match jJ B P (noB B) fi with|some b=>P-(fi.getD b 0).toNat|none=>0):=by
 have h1:l.length=((List.range B).filter λb=>decide (fi.getD b 0=0)).length:=by
  rw[hl.pm.length_eq]
  unfold yV
  rw[yF]
 unfold rm jJ
 rw[yF,h1,←qJS,←qDB (p:=jX P fi) (h:=λb=>P-(fi.getD b 0).toNat) List.nodup_range (λa ha b hb=>on a b (mK.mp ha) (mK.mp hb)),←qDA]
 refine q11 λb hb=>?_
 obtain⟨f,ef,hf⟩:=wr b (mK.mp hb)
 unfold clr1 jX
 rw[ef,mH]
 by_cases z:f=0
 ·subst z
  simp
 ·by_cases y:f<P
  ·rw[hX (by simp;omega),hI (by omega),hI (by omega)]
   simp
  ·rw[hX (by simp;omega),hV (show ¬(f:Int)<(P:Int) by omega)]
   simp
   omega
theorem qB3{b:Nat}(h:jJ B P (noB B) fi=some b):b<B∧0<fi.getD b 0∧fi.getD b 0<(P:Int):=by
 have:=q1G h
 exact⟨this.1,this.2.2⟩
theorem q12(on:OneP B P fi)(wr:∀b,b<B→∃f:Nat,fi.getD b 0=(f:Int)∧f≤P)(p1:1≤P)(hl:FreeIs B (noB B) cl fi l):
 (jJ B P (noB B) fi=none∧rm B P fi=l.length*P)∨∃b e,jJ B P (noB B) fi=some b∧1≤e∧e<P∧rm B P fi=l.length*P+e∧fi.getD b 0+(e:Int)=(P:Int):=by
 have h:=qL6 on wr p1 hl
 cases hp:jJ B P (noB B) fi with
 |none=>
  rw[hp]at h
  exact .inl ⟨rfl,h⟩
 |some b=>
  rw[hp]at h
  obtain⟨a,c,d⟩:=qB3 hp
  exact .inr ⟨b,P-(fi.getD b 0).toNat,rfl,by omega,by omega,h,by omega⟩
theorem qDC{ie:Nat}(on:OneP B P fi)(wr:∀b,b<B→∃f:Nat,fi.getD b 0=(f:Int)∧f≤P)(p1:1≤P)(hl:FreeIs B (noB B) cl fi l):
 rdy (ie:Int) l (jJ B P (noB B) fi)=decide ((1+ie)*P<rm B P fi):=by
 have key:∀e,e<P→((1+ie)*P<l.length*P+e↔(1+ie<l.length∨(1+ie=l.length∧0<e))):=λe he=>by
  rcases Nat.lt_trichotomy (1+ie) l.length with h|h|h
  ·have:=gM P (show 1+ie+1≤l.length from h)
   rw[Nat.succ_mul]at this
   exact⟨λ_=>.inl h,λ_=>by omega⟩
  ·rw[h]
   exact⟨λz=>.inr ⟨rfl,by omega⟩,λz=>by omega⟩
  ·have:=gM P (show l.length+1≤1+ie from h)
   rw[Nat.succ_mul]at this
   exact⟨λz=>by omega,λz=>by omega⟩
 unfold rdy
 rcases q12 on wr p1 hl with⟨h1,h2⟩|⟨b,e,h1,e1,e2,h2,_⟩
 ·rw[h1,h2]
  have k:=key 0 (by omega)
  rw[Nat.add_zero]at k
  by_cases z:(1+ie)*P<l.length*P
  ·rw[hI z,hI (show(l.length:Int)-(1+(ie:Int))>0 by rcases k.mp z with h|h<;>omega)]
   rfl
  ·rw[hV z,hV (show ¬(l.length:Int)-(1+(ie:Int))>0 by intro y;exact z (k.mpr (.inl (by omega))))]
   simp
 ·rw[h1,h2]
  have k:=key e e2
  by_cases z:(1+ie)*P<l.length*P+e
  ·rw[hI z]
   rcases k.mp z with h|h
   ·rw[hI (show(l.length:Int)-(1+(ie:Int))>0 by omega)]
    rfl
   ·rw[hI (show(l.length:Int)-(1+(ie:Int))=0 by omega)]
    simp
  ·rw[hV z,hV (show ¬(l.length:Int)-(1+(ie:Int))>0 by intro y;exact z (k.mpr (.inl (by omega)))),hV (show ¬(l.length:Int)-(1+(ie:Int))=0 by intro y;exact z (k.mpr (.inr ⟨by omega,by omega⟩)))]
   rfl
theorem q4W(on:OneP B P fi)(wr:∀b,b<B→∃f:Nat,fi.getD b 0=(f:Int)∧f≤P)(p1:1≤P)(hl:FreeIs B (noB B) cl fi l)(h:0<rm B P fi):∃b,q3D B P (noB B) fi l=some b∧((jJ B P (noB B) fi=some b)∨(jJ B P (noB B) fi=none∧fi.getD b 0=0)):=by
 unfold q3D
 rcases q12 on wr p1 hl with⟨h1,h2⟩|⟨b,e,h1,_⟩
 ·rw[h1]
  cases l with
  |nil=>rw[h2]at h;simp at h
  |cons x l=>exact⟨x,rfl,.inr ⟨rfl,(hl.mem (by simp)).2.2⟩⟩
 ·rw[h1]
  exact⟨b,rfl,.inl rfl⟩
theorem qHN{L:List Nat}{f g:Nat→Nat}{b:Nat}(nd:L.Nodup)(hb:b∈L)(h:∀c∈L,c≠b→f c=g c):(L.map f).sum+g b=(L.map g).sum+f b:=by
 induction L with
 |nil=>exact absurd hb (by simp)
 |cons x L ih=>
  obtain⟨n1,n2⟩:=mQ.mp nd
  rw[mJ,mJ,gY,gY]
  rcases kI.mp hb with rfl|hb
  ·rw[q11 (L:=L) (f:=f) (g:=g) λc hc=>h c (kE _ hc) λz=>n1 (by rw[←z];exact hc)]
   omega
  ·have:=ih n2 hb λc hc=>h c (kE _ hc)
   have e:=h x (by simp) λz=>n1 (by rw[z];exact hb)
   omega
theorem qG8{b:Nat}{v:Int}(hb:b<B)(lf:fi.length=B):rm B P (fi.set b v)+(P-(fi.getD b 0).toNat)=rm B P fi+(P-v.toNat):=by
 have:=qHN (L:=List.range B) (f:=clr1 P (fi.set b v)) (g:=clr1 P fi) (b:=b) List.nodup_range (mK.mpr hb) λc _ hc=>by
  unfold clr1
  rw[jI,hX (λz=>hc z.1.symm)]
 unfold rm
 have e:clr1 P (fi.set b v) b=P-v.toNat:=by
  unfold clr1
  rw[jI,kG ⟨rfl,by omega⟩]
 rw[e]at this
 exact this
theorem qG9{b f:Nat}(hb:b<B)(lf:fi.length=B)(ef:fi.getD b 0=(f:Int))(hf:f<P):rm B P (fi.set b (fi.getD b 0+1))+1=rm B P fi:=by
 have:=qG8 (P:=P) (v:=fi.getD b 0+1) hb lf
 rw[ef]at this ⊢
 have e1:((f:Int)).toNat=f:=mH f
 have e2:((f:Int)+1).toNat=f+1:=by omega
 rw[e1,e2]at this
 omega
theorem qDD{b:Nat}(hb:b<B)(lf:fi.length=B)(ef:fi.getD b 0=(P:Int)):rm B P (fi.set b 0)=rm B P fi+P:=by
 have:=qG8 (P:=P) (v:=0) hb lf
 rw[ef]at this
 have e1:((P:Int)).toNat=P:=mH P
 rw[e1]at this
 simpa using this
theorem qDE{b:Nat}(on:OneP B P fi)(hb:b<B)(lf:fi.length=B)(h:(jJ B P (noB B) fi=some b)∨(jJ B P (noB B) fi=none∧fi.getD b 0=0)):OneP B P (fi.set b (fi.getD b 0+1)):=by
 have other:∀c,c<B→c≠b→jX P (fi.set b (fi.getD b 0+1)) c=true→False:=λc hc nc hp=>by
  have hp':jX P fi c=true:=by
   unfold jX at hp ⊢
   rw[jI,hX (λz=>nc z.1.symm)]at hp
   exact hp
  rcases h with h|⟨h,_⟩
  ·have h2:jX P fi b=true:=g8 h
   exact nc (on c b hc hb hp' h2)
  ·have:=rY.mp h c (by rw[yF];exact mK.mpr hc)
   exact this hp'
 intro c d hc hd pc pd
 by_cases e1:c=b
 ·by_cases e2:d=b
  ·rw[e1,e2]
  ·exact(other d hd e2 pd).elim
 ·exact(other c hc e1 pc).elim
theorem qB4{b:Nat}(on:OneP B P fi):OneP B P (fi.set b 0):=by
 have old:∀c,c<B→jX P (fi.set b 0) c=true→jX P fi c=true:=λc hc hp=>by
  unfold jX at hp ⊢
  rw[jI]at hp
  split at hp
  ·simp at hp
  ·exact hp
 exact λc d hc hd pc pd=>on c d hc hd (old c hc pc) (old d hd pd)
theorem qHO{V:Mp}:∀{L:List Nat},L.Nodup→(L.map (cntB P V)).sum≤V.length:=by
 induction V with
 |nil=>
  intro L _
  have:(L.map (cntB P [])).sum=(L.map λ_=>0).sum:=q11 λb _=>rfl
  rw[this]
  clear this
  induction L with
  |nil=>exact kM _
  |cons x L ih=>
   rename_i h
   rw[mJ,gY]
   have:=ih (mQ.mp h).2
   omega
 |cons x V ih=>
  intro L nd
  have e:(L.map (cntB P (x::V))).sum=(L.map (cntB P V)).sum+(L.map λb=>if(λb:Nat=>decide (x.2 / (P:Int)=(b:Int))) b=true then 1 else 0).sum:=by
   rw[←qDA]
   refine q11 λb _=>?_
   unfold cntB
   rw[List.countP_cons]
  rw[e,qDB (h:=λ_=>1) nd λa _ b _ ha hb=>by
   have h1:=kP ha
   have h2:=kP hb
   omega]
  have:=ih nd
  rw[mP]
  cases L.find? (λb:Nat=>decide (x.2 / (P:Int)=(b:Int)))with
  |none=>show _ +0≤_;omega
  |some b=>show _ +1≤_;omega
theorem q9L{L:List Nat}{f:Nat→Nat}{k:Nat}(h:∀b∈L,k≤f b):L.length*k≤(L.map f).sum:=by
 induction L with
 |nil=>simp
 |cons x L ih=>
  rw[mP,mJ,gY,Nat.succ_mul]
  have:=ih λb hb=>h b (kE _ hb)
  have:=h x (by simp)
  omega
theorem qGA(on:OneP B P fi)(wr:∀b,b<B→∃f:Nat,fi.getD b 0=(f:Int)∧f≤P)(p1:1≤P)(hl:FreeIs B (noB B) cl fi l)(hp:jJ B P (noB B) fi=none):(yA B P (noB B) fi).length+l.length=B:=by
 have h1:l.length=((List.range B).filter λb=>decide (fi.getD b 0=0)).length:=by
  rw[hl.pm.length_eq]
  unfold yV
  rw[yF]
 have h2:yA B P (noB B) fi=(List.range B).filter λb=>!decide (fi.getD b 0=0):=by
  unfold yA
  rw[yF]
  refine List.filter_congr λb hb=>?_
  obtain⟨f,ef,hf⟩:=wr b (mK.mp hb)
  have np:=rY.mp hp b (by rw[yF];exact hb)
  unfold jX at np
  rw[ef]at np ⊢
  by_cases z:f=0
  ·subst z
   rw[hI (show((0:Nat):Int)=0 from rfl),hV (by omega)]
   rfl
  ·rw[hV (show ¬(f:Int)=0 by omega)]
   by_cases y:f<P
   ·exact(np (by rw[hI (show(0:Int)<(f:Int) by omega),hI (show(f:Int)<(P:Int) by omega)];rfl)).elim
   ·exact hI (by omega)
 rw[h1,h2]
 have e:∀{L:List Nat} {p:Nat→Bool},(L.filter λb=>!p b).length+(L.filter p).length=L.length:=by
  intro L p
  induction L with
  |nil=>rfl
  |cons x L ih=>
   rw[mY,mY]
   cases p x<;>simp<;>omega
 have:=e (L:=List.range B) (p:=λb=>decide (fi.getD b 0=0))
 rw[mR]at this
 exact this
end
section
variable{q:QM}{m:CM}{l:List Nat}
theorem qGB{b f:Nat}{n:Int}(hf:f<q.P):qG7 q (q.nx,b*q.P+f,n)=q.put b f n:=by
 show({ q with nx:=q.nx }:QM).put ((b*q.P+f) / q.P) ((b*q.P+f)%q.P) n=_
 rw[u7 hf,Nat.mul_comm,Nat.mul_add_mod,Nat.mod_eq_of_lt hf]
theorem QS.put{b f:Nat}{n:Int}(h:QS q)(hb:b<q.B)(hf:f<q.P)(ef:q.fi.getD b 0=(f:Int))(n0:0≤n)(n1:n≤64):QS (q.put b f n):=by
 have ft:Fits q (q.nx,b*q.P+f,n):=by
  refine⟨?_,?_,dD _,n0,n1⟩
  ·show(b*q.P+f) / q.P<q.B
   rw[u7 hf]
   exact hb
  ·show q.fi.getD ((b*q.P+f) / q.P) 0=(((b*q.P+f)%q.P:Nat):Int)
   rw[u7 hf,ef,Nat.mul_comm,Nat.mul_add_mod,Nat.mod_eq_of_lt hf]
 have:=ft.qs h
 rw[qGB hf]at this
 exact this
theorem zC{b f:Nat}{n:Int}{x:Int×Int}:x∈(q.put b f n).V↔x=(n,((b*q.P+f:Nat):Int))∨(x∈q.V∧x.1≠n):=by
 show x∈y9 q.V n++[(n,((b*q.P+f:Nat):Int))]↔_
 rw[gF,jG,kC]
 exact⟨λh=>h.symm,λh=>h.symm⟩
noncomputable def QM.emptied(q:QM)(b:Nat):QM:={ q with fi:=q.fi.set b 0,bo:=q.bo.set b 0 }
theorem QS.emptied(h:QS q)(b:Nat):QS (q.emptied b):=by
 refine⟨{ h.ok with lf:=by show(q.fi.set b 0).length=q.B;rw[mV];exact h.ok.lf,lo:=by show(q.bo.set b 0).length=q.B;rw[mV];exact h.ok.lo,wr:=λc hc=>?_ },h.lv⟩
 show ∃f:Nat,(q.fi.set b 0).getD c 0=(f:Int)∧f≤q.P
 rw[jI]
 split
 ·exact⟨0,rfl,mN _⟩
 ·exact h.ok.wr c hc
theorem qJT{ie:Nat}{B P:Nat}{fi cl:List Int}(on:OneP B P fi)(wr:∀b,b<B→∃f:Nat,fi.getD b 0=(f:Int)∧f≤P)(p1:1≤P)(hl:FreeIs B (noB B) cl fi l):spcN (ie:Int) l P fi (jJ B P (noB B) fi)≤(rm B P fi:Int):=by
 unfold spcN
 rcases q12 on wr p1 hl with⟨h1,h2⟩|⟨b,e,h1,e1,e2,h2,h3⟩
 ·rw[h1,h2]
  split
  ·rename_i z
   have:=gM P (show 1≤l.length by omega)
   omega
  ·exact Int.ofNat_nonneg _
 ·rw[h1,h2]
  split
  ·rename_i z
   have:=gM P (show 1≤l.length by omega)
   omega
  ·show(P:Int)-fi.getD b 0≤_
   have:0≤l.length*P:=mN _
   omega
noncomputable def tlOf(m:CM)(q:QM)(b:Nat):Tl:=⟨(b:Int),q.lv.getD b 0,m.cl.getD b 0,q.bo.getD b 0⟩
theorem qGC{f:Tl→Int}{ts:List Tl}(h:ts≠[]):∃T∈ts,pk f ts=T.b∧∀o∈ts,f T≤f o:=by
 obtain⟨i,hi,hu,hn⟩:=q6N f ts h
 exact⟨ts[i],mU hi,qFN hi hu hn,λo ho=>by have:=q32.mp hu o ho;omega⟩
theorem qB5{ie:Nat}(h:QS q)(on:OneP q.B q.P q.fi)(br:m.br=noB q.B)(hl:FreeIs q.B (noB q.B) m.cl q.fi l)(hr:rm q.B q.P q.fi=(1+ie)*q.P)(hv:q.V.length<(q.B-(1+ie))*q.P):
 optN (ie:Int) m q l≠[]∧∀b∈optN (ie:Int) m q l,(∀c∈optN (ie:Int) m q l,q.lv.getD b 0≤q.lv.getD c 0)→cntB q.P q.V b*(q.B-(1+ie))≤q.V.length:=by
 have p1:=h.ok.p1
 have ll:jJ q.B q.P (noB q.B) q.fi=none∧l.length=1+ie:=by
  rcases q12 on h.ok.wr p1 hl with⟨h1,h2⟩|⟨b,e,h1,e1,e2,h2,_⟩
  ·refine⟨h1,?_⟩
   rw[hr]at h2
   exact(Nat.eq_of_mul_eq_mul_right (by omega) h2).symm
  ·exfalso
   rw[hr]at h2
   have k:(1+ie)*q.P%q.P=e:=by rw[h2,Nat.mul_comm,Nat.mul_add_mod,Nat.mod_eq_of_lt e2]
   rw[Nat.mul_mod_left]at k
   omega
 have fl:=qGA on h.ok.wr p1 hl ll.1
 have flC:(yA q.B q.P (noB q.B) q.fi).length=q.B-(1+ie):=by omega
 have hsp:spcN (ie:Int) l q.P q.fi (jJ q.B q.P (noB q.B) q.fi)=(q.P:Int):=by
  unfold spcN
  rw[kG (by omega)]
 have ndF:(yA q.B q.P (noB q.B) q.fi).Nodup:=by
  unfold yA
  rw[yF]
  exact List.Pairwise.filter _ List.nodup_range
 have hB:∀b∈yA q.B q.P (noB q.B) q.fi,b<q.B:=λb hb=>by
  unfold yA at hb
  rw[yF]at hb
  exact mK.mp (m9.mp hb).1
 have memo:∀b,b∈optN (ie:Int) m q l↔b∈yA q.B q.P (noB q.B) q.fi∧cntB q.P q.V b<q.P:=λb=>by
  unfold optN
  rw[br,hsp,m9,m9,kW,kW]
  constructor
  ·rintro⟨⟨a,_⟩,c⟩
   rw[h.lv b (hB b a)]at c
   exact⟨a,by omega⟩
  ·rintro⟨a,c⟩
   rw[h.lv b (hB b a)]
   exact⟨⟨a,by omega⟩,by omega⟩
 have cs:=qHO (P:=q.P) (V:=q.V) ndF
 constructor
 ·intro z
  have:(yA q.B q.P (noB q.B) q.fi).length*q.P≤((yA q.B q.P (noB q.B) q.fi).map (cntB q.P q.V)).sum:=q9L λb hb=>by
   refine Decidable.byContradiction λy=>?_
   have:b∈optN (ie:Int) m q l:=(memo b).mpr ⟨hb,by omega⟩
   rw[z]at this
   cases this
  rw[flC]at this
  omega
 ·intro b hb hmin
  obtain⟨bF,bP⟩:=(memo b).mp hb
  have:(yA q.B q.P (noB q.B) q.fi).length*cntB q.P q.V b≤((yA q.B q.P (noB q.B) q.fi).map (cntB q.P q.V)).sum:=q9L λc hc=>by
   by_cases y:cntB q.P q.V c<q.P
   ·have:=hmin c ((memo c).mpr ⟨hc,y⟩)
    rw[h.lv b (hB b bF),h.lv c (hB c hc)]at this
    omega
   ·omega
  rw[flC,Nat.mul_comm]at this
  omega
theorem q9M{ie:Int}(br:m.br=noB q.B){b:Nat}(h:b∈optN ie m q l):b<q.B∧q.fi.getD b 0=(q.P:Int)∧q.lv.getD b 0≤spcN ie l q.P q.fi (jJ q.B q.P (noB q.B) q.fi)∧q.lv.getD b 0<(q.P:Int):=by
 unfold optN at h
 rw[br,m9,m9,kW,kW]at h
 obtain⟨⟨a,b1⟩,c⟩:=h
 unfold yA at a
 rw[yF,m9,kW]at a
 exact⟨mK.mp a.1,a.2,b1,c⟩
end
end W1
namespace L2
open PySem PySem.Spec PyProof.Rows
theorem qB6{val:Nat→Int}:∀i,(firstMet val i).Nodup
 |0=>by rw[firstMet_zero];exact List.nodup_nil
 |i+1=>by
  rw[firstMet_succ]
  have h:=qB6 (val:=val) i
  unfold step_dedup
  by_cases z:((firstMet val i).any λx=>x==val i)=true
  ·rw[kG z]
   exact h
  ·rw[hX z]
   refine List.nodup_append.mpr ⟨h,by simp,λa ha b hb e=>z (dE.mpr ⟨a,ha,?_⟩)⟩
   rw[e,kC.mp hb]
   simp
theorem qJU{ns:List Int}{x:Int}:x∈firstMet (λi=>ns.getD i 0) ns.length↔x∈ns:=by
 have h:=firstMet_any (λi=>ns.getD i 0) ns.length x
 have e:(List.range ns.length).map (λi=>ns.getD i 0)=ns:=by
  refine List.ext_getElem (by simp) λi h1 h2=>?_
  simp[hE h2]
 rw[e]at h
 constructor
 ·intro z
  have:(firstMet (λi=>ns.getD i 0) ns.length).any (λy=>y==x)=true:=dE.mpr ⟨x,z,by simp⟩
  rw[h]at this
  obtain⟨y,hy,e⟩:=dE.mp this
  rw[←(beq_iff_eq.mp e)]
  exact hy
 ·intro z
  have:ns.any (λy=>y==x)=true:=dE.mpr ⟨x,z,by simp⟩
  rw[←h]at this
  obtain⟨y,hy,e⟩:=dE.mp this
  rw[←(beq_iff_eq.mp e)]
  exact hy
section
variable{X:Cx}
theorem qEE(hc:X.calm=true):zY X (.type "set") (λxs H Q=>∃(p:Addr) (ns:List Int),xs=[.ref p]∧SqL X.K H p (ns.map V.int)∧ns.length<1000∧∀(S:Int→Bool) (M:List Int),M.Nodup→(∀x,x∈M↔x∈ns)→NewO H (.set S M.length) Q):=by
 intro pins s σ H xs us Q I r hZ
 obtain⟨p,ns,ex,hq,h1,q⟩:=hZ
 subst ex
 obtain⟨u,rfl,rx⟩:=zH r
 cases rx
 obtain⟨its,rv,pl,hz⟩:=I.list hq
 have hlen:its.length=ns.length:=by rw[←rv.length,hC]
 have sb:(1001:Nat)<scanBound:=by decide
 refine call_set_list (ns:=ns) (I.ok.hd hc) pl.isList (q4B rv) (by show its.toArray.size+1<scanBound;simp;omega) λh' tk hs hk=>?_
 have e:its.toArray.size=ns.length:=by simp[hlen]
 rw[e]at hs
 exact⟨.ref s.heap.objs.size,_,I.laid (λb o e=>hk b o (kO e) e) (kM _) (show jN X.prog X.w _ _ _ (.set _ _)from hs),rfl,(q _ _ (qB6 _) λx=>qJU).at _ (I.hok.fresh (kM _))⟩
theorem qEF:zY X (.builtin "len") (λxs H Q=>∃a S n,xs=[V.ref a]∧H a=some (.set S n)∧n<1000∧Q (.int (n:Nat)) H):=by
 intro pins s σ H xs us Q I r hZ
 obtain⟨a,S,n,ex,hq,h1,q⟩:=hZ
 subst ex
 obtain⟨u,rfl,rx⟩:=zH r
 cases rx
 have ho:s.heap.SetOf (intKind X.prog X.w) a S n:=I.hok a _ hq
 obtain⟨o,es,ep,t,a1,a2,a3,a4,a5,a6,a7,a8⟩:=ho
 subst a8
 exact call_len_set a1 a2 a3 a7 (by omega) ⟨.int _,H,I.kept λb o e=>e,⟨_,rfl⟩,q⟩
end
end L2
namespace W1
open PySem L2
inductive Rl where
 |rk (f:Int→Int→Tl→Int)
 |win (m:Int)
 |fol (row:List Int) (u:Nat)
noncomputable def Rl.Ok:Rl→Prop
 | .win m=>1≤m
 |_=>True
noncomputable def leL(k:Tl→List Int)(a b:Tl):Bool:=!lx (k b) (k a)
noncomputable def winC(m:Int)(ts:List Tl):List Tl:=((ts.mergeSort (leL λT=>[T.bo,T.b])).take m.toNat).mergeSort (leL Tl.ns)
theorem q9N{k:Tl→List Int}{l:List Tl}:(l.mergeSort (leL k)).Pairwise λa b=>lx (k b) (k a)=false:=by
 have h:=List.pairwise_mergeSort (le:=leL k) (λa b c h1 h2=>?_) (λa b=>?_) l
 ·exact h.imp fun {a b} z=>by
   unfold leL at z
   rw[dW]at z
   exact z
 ·unfold leL at *
  rw[dW]at *
  cases z:lx (k c) (k a)with
  |false=>rfl
  |true=>
   cases y:lx (k a) (k b)with
   |false=>rw[q09 _ _ y h1,h2]at z;cases z
   |true=>rw[zJ _ _ _ z y]at h2;cases h2
 ·unfold leL
  cases z:lx (k b) (k a)with
  |false=>rfl
  |true=>
   cases y:lx (k a) (k b)with
   |false=>rfl
   |true=>
    have:=zJ _ _ _ z y
    rw[q3J]at this
    cases this
theorem qGD{m:Int}{ts A C:List Tl}(un:∀a∈ts,∀c∈ts,a.b=c.b→a=c)(AP:A.Perm ts)(w1:A.Pairwise agR)(CP:C.Perm (A.take m.toNat))(w2:C.Pairwise λx y=>lx (Tl.ns y) (Tl.ns x)=false):C=winC m ts:=by
 have eA:A=ts.mergeSort (leL λT=>[T.bo,T.b]):=List.Perm.eq_of_pairwise (le:=agR) (λa b ha hb h1 h2=>by
  have:=q09 _ _ h2 h1
  injection this with _ this
  injection this with this _
  exact un a (AP.mem_iff.mp ha) b (List.mem_mergeSort.mp hb) this) w1 q9N (AP.trans (List.mergeSort_perm _ _).symm)
 unfold winC
 rw[←eA]
 exact List.Perm.eq_of_pairwise (le:=λx y=>lx (Tl.ns y) (Tl.ns x)=false) (λa b _ _ h1 h2=>Tl.eq_of (q09 _ _ h2 h1)) w2 q9N (CP.trans (List.mergeSort_perm _ _).symm)
theorem qHP{m:Int}{ts:List Tl}:∀o∈winC m ts,o∈ts:=λo ho=>List.mem_mergeSort.mp (List.mem_of_mem_take (List.mem_mergeSort.mp ho))
theorem qHQ{m:Int}{ts:List Tl}(m1:1≤m)(h:ts≠[]):winC m ts≠[]:=λz=>by
 have:=dB List.length z
 unfold winC at this
 rw[List.length_mergeSort,gA,List.length_mergeSort,List.length_nil]at this
 have:=List.length_pos_iff.mpr h
 omega
noncomputable def fo(row:List Int)(u:Nat)(ts:List Tl):Int:=match row[u]? with
 |some n=>if n∈ts.map Tl.b then n else(ts.map Tl.b).headD 0
 |none=>(ts.map Tl.b).headD 0
noncomputable def Rl.ch:Rl→Int→Int→List Tl→Int×Rl
 | .rk f,pg,nw,ts=>(pk (f pg nw) ts,.rk f)
 | .win m,_,_,ts=>(pk Tl.lv (winC m ts),.win m)
 | .fol row u,_,_,ts=>(fo row u ts,.fol row (min (u+1) row.length))
structure RS where
 q:QM
 cl:List Int
noncomputable def minF(cl:List Int):List Nat→Option Nat
 | []=>none
 |b::L=>match minF cl L with
  |none=>some b
  |some c=>if cl.getD c 0<cl.getD b 0 then some c else some b
noncomputable def spF(q:QM)(cl:List Int):Nat:=match(List.range q.B).find? (jX q.P q.fi)with
 |some b=>b
 |none=>(minF cl ((List.range q.B).filter λb=>decide (q.fi.getD b 0=0))).getD 0
noncomputable def putS(s:RS)(n:Int):RS:={ s with q:=s.q.put (spF s.q s.cl) (s.q.fi.getD (spF s.q s.cl) 0).toNat n }
noncomputable def lvS(P b:Nat)(V:Mp):List Int:=(List.range P).filterMap λf=>(V.find? λy=>decide (y.2=((b*P+f:Nat):Int))).map (·.1)
noncomputable def movS(s:RS)(b:Nat):RS:=(lvS s.q.P b s.q.V).foldl putS s
noncomputable def wipS(s:RS)(b:Nat):RS:=⟨s.q.emptied b,s.cl.set b (s.cl.getD b 0+1)⟩
noncomputable def tyS(s:RS)(b:Nat):Tl:=⟨(b:Int),s.q.lv.getD b 0,s.cl.getD b 0,s.q.bo.getD b 0⟩
noncomputable def opB(q:QM):List Nat:=(List.range q.B).filter λb=>decide (q.fi.getD b 0=(q.P:Int))&&decide (q.lv.getD b 0<(q.P:Int))
noncomputable def opS(s:RS):List Tl:=(opB s.q).map (tyS s)
structure Pp where
 ts:List Tl
 b:Nat
 k:Nat
noncomputable def stp(s:RS)(g:Rl)(n:Int):RS×Rl×List Pp:=
 if s.q.P<rm s.q.B s.q.P s.q.fi then(putS s n,g,[])
 else(putS (wipS (movS s (g.ch (s.q.P:Int) s.q.nx (opS s)).1.toNat) (g.ch (s.q.P:Int) s.q.nx (opS s)).1.toNat) n,(g.ch (s.q.P:Int) s.q.nx (opS s)).2,[⟨opS s,(g.ch (s.q.P:Int) s.q.nx (opS s)).1.toNat,(lvS s.q.P (g.ch (s.q.P:Int) s.q.nx (opS s)).1.toNat s.q.V).length⟩])
noncomputable def runS(s:RS)(g:Rl):List Int→List Pp×Rl
 | []=>([],g)
 |n::r=>((stp s g n).2.2++(runS (stp s g n).1 (stp s g n).2.1 r).1,(runS (stp s g n).1 (stp s g n).2.1 r).2)
noncomputable def ini(B P:Nat):RS:=⟨⟨P,B,1,[],List.replicate B 0,List.replicate B 0,List.replicate B 0⟩,List.replicate B 0⟩
noncomputable def mvN(ps:List Pp):Nat:=(ps.map Pp.k).sum
noncomputable def chN(ps:List Pp):List Int:=ps.map λp=>(p.b:Int)
section
variable{B P:Nat}{q:QM}{m:CM}{cl fi:List Int}{l:List Nat}
theorem q9O:∀{L:List Nat},L.Pairwise (· < ·)→(minF cl L=none→L=[])∧∀b,minF cl L=some b→b∈L∧∀c∈L,lx (keyN cl c) (keyN cl b)=false
 | [],_=>⟨λ_=>rfl,λb h=>by cases h⟩
 |a::L,pw=>by
  obtain⟨p1,p2⟩:=List.pairwise_cons.mp pw
  obtain⟨h1,h2⟩:=q9O p2
  unfold minF
  cases z:minF cl L with
  |none=>
   have:=h1 z
   subst this
   refine⟨λy=>(by cases y),λb h=>?_⟩
   injection h with h
   subst h
   exact⟨by simp,λc hc=>by rw[kC.mp hc];exact q3J _⟩
  |some c=>
   obtain⟨g1,g2⟩:=h2 c z
   have hac:=p1 c g1
   dsimp only
   by_cases y:cl.getD c 0<cl.getD a 0
   ·rw[kG y]
    refine⟨λw=>(by cases w),λb h=>?_⟩
    injection h with h
    subst h
    refine⟨kE _ g1,λd hd=>?_⟩
    rcases kI.mp hd with e|e
    ·subst e
     unfold keyN lx
     rw[hX (by omega)]
     exact hV (by omega)
    ·exact g2 d e
   ·rw[hX y]
    refine⟨λw=>(by cases w),λb h=>?_⟩
    injection h with h
    subst h
    refine⟨by simp,λd hd=>?_⟩
    rcases kI.mp hd with e|e
    ·subst e
     exact q3J _
    ·refine qI9 (b:=keyN cl c) ?_ (g2 d e)
     unfold keyN lx
     by_cases w:cl.getD c 0=cl.getD a 0
     ·rw[kG w]
      unfold lx
      rw[hX (by omega)]
      exact hV (by omega)
     ·rw[hX w]
      exact hV (by omega)
theorem qEG(hl:FreeIs B (noB B) cl fi l):l.head?=minF cl ((List.range B).filter λb=>decide (fi.getD b 0=0)):=by
 have pm:=hl.pm
 unfold yV at pm
 rw[yF]at pm
 have pw:((List.range B).filter λb=>decide (fi.getD b 0=0)).Pairwise (· < ·):=List.Pairwise.filter _ List.pairwise_lt_range
 obtain⟨h1,h2⟩:=q9O (cl:=cl) pw
 cases l with
 |nil=>
  rw[List.nil_perm.mp pm]
  rfl
 |cons a r=>
  cases z:minF cl ((List.range B).filter λb=>decide (fi.getD b 0=0))with
  |none=>
   rw[h1 z]at pm
   have:=pm.length_eq
   cases this
  |some b=>
   obtain⟨g1,g2⟩:=h2 b z
   have so:=hl.so
   rw[mJ]at so
   have so:=(List.pairwise_cons.mp so).1
   have hb:=pm.mem_iff.mpr g1
   have e:a=b:=by
    rcases kI.mp hb with e|e
    ·exact e.symm
    ·exact q9K (q09 _ _ (g2 a (pm.mem_iff.mp (by simp))) (so _ (kX.mpr ⟨b,e,rfl⟩)))
   rw[e]
   rfl
theorem qGE(on:OneP q.B q.P q.fi)(wr:∀b,b<q.B→∃f:Nat,q.fi.getD b 0=(f:Int)∧f≤q.P)(p1:1≤q.P)(hl:FreeIs q.B (noB q.B) cl q.fi l)(h:0<rm q.B q.P q.fi):q3D q.B q.P (noB q.B) q.fi l=some (spF q cl):=by
 obtain⟨b,hb,_⟩:=q4W on wr p1 hl h
 rw[hb]
 unfold q3D jJ at hb
 unfold spF
 rw[yF]at hb
 cases z:(List.range q.B).find? (jX q.P q.fi)with
 |some c=>rw[z]at hb;exact hb.symm
 |none=>
  rw[z]at hb
  rw[←qEG hl]
  have hb:l.head?=some b:=hb
  rw[hb]
  rfl
theorem qIA{ie:Nat}(h:QS q)(on:OneP q.B q.P q.fi)(br:m.br=noB q.B)(hl:FreeIs q.B (noB q.B) m.cl q.fi l)(hr:rm q.B q.P q.fi=(1+ie)*q.P):optN (ie:Int) m q l=opB q:=by
 have p1:=h.ok.p1
 have ll:l.length=1+ie:=by
  rcases q12 on h.ok.wr p1 hl with⟨h1,h2⟩|⟨b,e,h1,e1,e2,h2,_⟩
  ·rw[hr]at h2
   exact(Nat.eq_of_mul_eq_mul_right (by omega) h2).symm
  ·exfalso
   rw[hr]at h2
   have k:(1+ie)*q.P%q.P=e:=by rw[h2,Nat.mul_comm,Nat.mul_add_mod,Nat.mod_eq_of_lt e2]
   rw[Nat.mul_mod_left]at k
   omega
 unfold optN yA opB spcN
 rw[br,yF,kG (by omega),List.filter_filter,List.filter_filter]
 refine List.filter_congr λb _=>?_
 by_cases y:q.lv.getD b 0<(q.P:Int)
 ·rw[hI y,hI (show q.lv.getD b 0≤(q.P:Int) by omega)]
  simp
 ·rw[hV y]
  simp
noncomputable def lvP(P b:Nat)(V:Mp):List (List Int):=(List.range P).filterMap λf=>(V.find? λy=>decide (y.2=((b*P+f:Nat):Int))).map λy=>[y.2,y.1]
theorem qB7{P b:Nat}{V:Mp}:(lvP P b V).map (λk=>k.getD 1 0)=lvS P b V:=by
 unfold lvP lvS
 rw[List.map_filterMap]
 refine dB (λf=>List.filterMap f _) (funext λf=>?_)
 cases V.find? λy=>decide (y.2=((b*P+f:Nat):Int))with
 |none=>rfl
 |some y=>rfl
theorem q63{P b:Nat}{V:Mp}(hP:1≤P)(pd:(V.map (·.2)).Nodup){k:List Int}:k∈lvP P b V↔∃y∈V,y.2 / (P:Int)=(b:Int)∧k=[y.2,y.1]:=by
 unfold lvP
 rw[List.mem_filterMap]
 constructor
 ·rintro⟨f,hf,e⟩
  have hf:=mK.mp hf
  cases z:V.find? λy=>decide (y.2=((b*P+f:Nat):Int))with
  |none=>rw[z]at e;cases e
  |some y=>
   rw[z]at e
   have e1:=gO z
   have e2:y.2=((b*P+f:Nat):Int):=by simpa using g8 z
   refine⟨y,e1,?_,(kF e).symm⟩
   rw[e2,←Int.natCast_ediv,u7 hf]
 ·rintro⟨y,hy,hb,rfl⟩
  have h0:0≤y.2:=by
   refine Decidable.byContradiction λz=>?_
   have:=Int.ediv_neg_of_neg_of_pos (a:=y.2) (b:=(P:Int)) (by omega) (by omega)
   omega
  have e:=Int.mul_ediv_add_emod y.2 (P:Int)
  have m0:=Int.emod_nonneg y.2 (show(P:Int)≠0 by omega)
  have m1:=Int.emod_lt_of_pos y.2 (show(0:Int)<(P:Int) by omega)
  refine⟨(y.2%(P:Int)).toNat,mK.mpr (by omega),?_⟩
  have ey:y.2=((b*P+(y.2%(P:Int)).toNat:Nat):Int):=by
   rw[Int.natCast_add,Int.natCast_mul,←hb,Int.mul_comm]
   omega
  cases z:V.find? λw=>decide (w.2=((b*P+(y.2%(P:Int)).toNat:Nat):Int))with
  |none=>exact absurd (hI ey) (rY.mp z y hy)
  |some w=>
   have e1:=gO z
   have e2:w.2=((b*P+(y.2%(P:Int)).toNat:Nat):Int):=by simpa using g8 z
   have:w=y:=by
    clear z
    induction V with
    |nil=>cases e1
    |cons v V ih=>
     rw[mJ]at pd
     obtain⟨n1,n2⟩:=mQ.mp pd
     rcases kI.mp e1 with a|a<;>rcases kI.mp hy with c|c
     ·rw[a,c]
     ·exact(n1 (by rw[←a,e2,←ey];exact kX.mpr ⟨y,c,rfl⟩)).elim
     ·exact(n1 (by rw[←c,ey,←e2];exact kX.mpr ⟨w,a,rfl⟩)).elim
     ·exact ih n2 c a
   rw[this]
   rfl
theorem qCF{P b:Nat}{V:Mp}:(lvP P b V).Pairwise λa c=>lx c a=false∧a≠c:=by
 unfold lvP
 refine List.pairwise_filterMap.mpr (List.pairwise_lt_range.imp fun {f g} hfg k hk k' hk'=>?_)
 cases z:V.find? λy=>decide (y.2=((b*P+f:Nat):Int))with
 |none=>rw[z]at hk;cases hk
 |some y=>
  cases z':V.find? λy=>decide (y.2=((b*P+g:Nat):Int))with
  |none=>rw[z']at hk';cases hk'
  |some y'=>
   rw[z]at hk
   rw[z']at hk'
   have e2:y.2=((b*P+f:Nat):Int):=by simpa using g8 z
   have e3:y'.2=((b*P+g:Nat):Int):=by simpa using g8 z'
   obtain rfl:[y.2,y.1]=k:=kF hk
   obtain rfl:[y'.2,y'.1]=k':=kF hk'
   refine⟨?_,λw=>?_⟩
   ·unfold lx
    rw[hX (by omega)]
    exact hV (by omega)
   ·injection w with w _
    omega
theorem qHR{P b:Nat}{V:Mp}{rs:List (List Int)}(hP:1≤P)(pd:(V.map (·.2)).Nodup)(nd:rs.Nodup)(mm:∀k,k∈rs↔∃n p,k=[p,n]∧(n,p)∈V∧p / (P:Int)=(b:Int))(so:rs.Pairwise λa b=>lx b a=false):rs=lvP P b V:=by
 refine qCA (q61 nd (qCF.imp λz=>z.2) λk=>?_) so (qCF.imp λz=>z.1)
 rw[mm,q63 hP pd]
 constructor
 ·rintro⟨n,p,rfl,h1,h2⟩
  exact⟨(n,p),h1,h2,rfl⟩
 ·rintro⟨y,h1,h2,rfl⟩
  exact⟨y.1,y.2,rfl,h1,h2⟩
end
noncomputable abbrev rnS(B P:Nat)(g:Rl)(ns:List Int):List Pp:=(runS (ini B P) g ns).1
structure LM where
 hd:List (List (Int×Int))
 tm:List Int
 nw:Mp
 st:Int
noncomputable def LM.row(m:LM)(b:Nat):List (Int×Int):=m.hd.getD b []
noncomputable def LM.put(m:LM)(b:Nat)(n:Int):LM:=⟨m.hd.set b (m.row b++[(n,m.st+1)]),m.tm,putW m.nw n (m.st+1),m.st+1⟩
noncomputable def LM.wip(m:LM)(b:Nat):LM:=⟨m.hd.set b [],m.tm.set b (m.tm.getD b 0+1),m.nw,m.st⟩
noncomputable def LM.lvs(m:LM)(b:Nat):List Int:=((m.row b).filter λe=>decide (e∈m.nw)).map (·.1)
structure Sim(m:LM)(s:RS):Prop where
 qs:QS s.q
 on:OneP s.q.B s.q.P s.q.fi
 lb:m.hd.length=s.q.B
 tm:m.tm=s.cl
 lc:s.cl.length=s.q.B
 fi:∀b,b<s.q.B→s.q.fi.getD b 0=((m.row b).length:Nat)
 nd:(m.nw.map (·.1)).Nodup
 V:∀n p,(n,p)∈s.q.V↔∃(b f:Nat) (st:Int),b<s.q.B∧p=((b*s.q.P+f:Nat):Int)∧(m.row b)[f]?=some (n,st)∧(n,st)∈m.nw
 le:∀(b f:Nat) (n st:Int),(m.row b)[f]?=some (n,st)→st≤m.st∧n∈m.nw.map (·.1)
 sx:s.q.nx=m.st+1
 bo:∀(b:Nat) (e:Int×Int),(m.row b)[0]?=some e→s.q.bo.getD b 0=e.2
section
variable{m:LM}{s:RS}
theorem q4F{m:LM}{b c:Nat}{r:List (Int×Int)}{t:List Int}{w:Mp}{st:Int}(hb:b<m.hd.length):(⟨m.hd.set b r,t,w,st⟩:LM).row c=if b=c then r else m.row c:=by
 show(m.hd.set b r).getD c []=_
 rw[hU,List.getElem?_set]
 by_cases z:b=c
 ·rw[kG z,kG z,kG hb];rfl
 ·rw[hX z,hX z]
  show _=m.hd.getD c []
  rw[hU]
theorem Sim.lP(h:Sim m s){b:Nat}(hb:b<s.q.B):(m.row b).length≤s.q.P:=by
 obtain⟨f,e,l⟩:=h.qs.ok.wr b hb
 have:=h.fi b hb
 omega
theorem q9P{P b c f g:Nat}(hf:f<P)(hg:g<P)(e:b*P+f=c*P+g):b=c∧f=g:=by
 have h1:(b*P+f) / P=b:=by rw[Nat.mul_comm,Nat.mul_add_div (by omega),Nat.div_eq_of_lt hf,Nat.add_zero]
 have h2:(c*P+g) / P=c:=by rw[Nat.mul_comm,Nat.mul_add_div (by omega),Nat.div_eq_of_lt hg,Nat.add_zero]
 have e1:b=c:=by rw[←h1,←h2,e]
 subst e1
 exact⟨rfl,by omega⟩
theorem q0B{b f:Nat}{e:Int×Int}(h:(m.row b)[f]?=some e):f<(m.row b).length:=(hG.mp h).1
theorem Sim.one(h:Sim m s){n n' p:Int}(a:(n,p)∈s.q.V)(b:(n',p)∈s.q.V):n=n':=by
 obtain⟨c,f,st,hc,e,r,_⟩:=(h.V n p).mp a
 obtain⟨c',f',st',hc',e',r',_⟩:=(h.V n' p).mp b
 have l1:=mC (q0B r) (h.lP hc)
 have l2:=mC (q0B r') (h.lP hc')
 obtain⟨rfl,rfl⟩:=q9P l1 l2 (show c*s.q.P+f=c'*s.q.P+f' by omega)
 rw[r]at r'
 injection r' with r'
 injection r' with r'
theorem Sim.pd(h:Sim m s):(s.q.V.map (·.2)).Nodup:=by
 have:=h.qs.ok.nd
 rw[List.nodup_iff_pairwise_ne,gC]at *
 refine List.Pairwise.imp_of_mem (fun {a c} ha hc ne e=>ne ?_) this
 exact h.one (p:=a.2) ha (by rw[e];exact hc)
theorem qB8{g:Nat→Option Int}{R:List (Int×Int)}{p:Int×Int→Bool}(h:∀f e,R[f]?=some e→g f=if p e=true then some e.1 else none){P:Nat}(h0:∀f,f<P→R.length≤f→g f=none):
 ∀k,k≤P→(List.range k).filterMap g=((R.take k).filter p).map (·.1)
 |0,_=>rfl
 |k+1,hk=>by
  rw[List.range_succ,List.filterMap_append,qB8 h h0 k (by omega)]
  by_cases z:k<R.length
  ·rw[←mB z,gI,kU,List.filterMap_cons,h k _ (hE z)]
   by_cases y:p R[k]=true
   ·rw[kG y,mY,kG y];rfl
   ·rw[hX y,mY,hX y];rfl
  ·rw[List.take_of_length_le (show R.length≤k+1 by omega),List.take_of_length_le (show R.length≤k by omega),List.filterMap_cons,h0 k (by omega) (by omega)]
   simp
theorem Sim.lvS(h:Sim m s){b:Nat}(hb:b<s.q.B):lvS s.q.P b s.q.V=m.lvs b:=by
 unfold W1.lvS LM.lvs
 have lP:=h.lP hb
 rw[qB8 (R:=m.row b) (p:=λe=>decide (e∈m.nw)) (P:=s.q.P) (λf e he=>?_) (λf hfP hf=>?_) _ (kM _),List.take_of_length_le lP]
 ·have hf:=q0B he
  by_cases z:e∈m.nw
  ·rw[kG (hI z)]
   have hv:(e.1,((b*s.q.P+f:Nat):Int))∈s.q.V:=(h.V _ _).mpr ⟨b,f,e.2,hb,rfl,he,z⟩
   cases y:s.q.V.find? λy=>decide (y.2=((b*s.q.P+f:Nat):Int))with
   |none=>exact absurd rfl (of_decide_eq_false (Bool.eq_false_iff.mpr (rY.mp y _ hv)))
   |some x=>
    have e2:x.2=((b*s.q.P+f:Nat):Int):=kP (p:=x.2=((b*s.q.P+f:Nat):Int)) (g8 (p:=λy:Int×Int=>decide (y.2=((b*s.q.P+f:Nat):Int))) y)
    have hx:=gO y
    show some x.1=some e.1
    rw[h.one (n:=x.1) (n':=e.1) (p:=x.2) hx (by rw[e2];exact hv)]
  ·rw[hX (λy=>z (kP y))]
   cases y:s.q.V.find? λy=>decide (y.2=((b*s.q.P+f:Nat):Int))with
   |none=>rfl
   |some x=>
    have e2:x.2=((b*s.q.P+f:Nat):Int):=kP (p:=x.2=((b*s.q.P+f:Nat):Int)) (g8 (p:=λy:Int×Int=>decide (y.2=((b*s.q.P+f:Nat):Int))) y)
    have hx:=gO y
    obtain⟨c,g,st,hc,e3,r,w⟩:=(h.V x.1 x.2).mp hx
    obtain⟨rfl,rfl⟩:=q9P (mC hf lP) (mC (q0B r) (h.lP hc)) (show b*s.q.P+f=c*s.q.P+g by omega)
    rw[he]at r
    injection r with r
    rw[←r]at w
    exact absurd w z
 ·cases y:s.q.V.find? λy=>decide (y.2=((b*s.q.P+f:Nat):Int))with
  |none=>rfl
  |some x=>
   have e2:x.2=((b*s.q.P+f:Nat):Int):=kP (p:=x.2=((b*s.q.P+f:Nat):Int)) (g8 (p:=λy:Int×Int=>decide (y.2=((b*s.q.P+f:Nat):Int))) y)
   have hx:=gO y
   obtain⟨c,g,st,hc,e3,r,w⟩:=(h.V x.1 x.2).mp hx
   have l2:=mC (q0B r) (h.lP hc)
   obtain⟨rfl,rfl⟩:=q9P hfP l2 (show b*s.q.P+f=c*s.q.P+g by omega)
   exact absurd (q0B r) (by omega)
theorem Sim.cnt(h:Sim m s){b:Nat}(hb:b<s.q.B):cntB s.q.P s.q.V b=(m.lvs b).length:=by
 rw[←h.lvS hb,←qB7,hC]
 have A:((s.q.V.filter λy=>decide (y.2 / (s.q.P:Int)=(b:Int))).map λy=>[y.2,y.1]).Perm (lvP s.q.P b s.q.V):=by
  refine q61 ?_ ?_ λk=>?_
  ·refine gC.mpr (((gC.mp h.qs.ok.nd).imp fun {a c} hne z=>hne ?_).filter _)
   injection z with _ z
   injection z with z _
  ·exact qCF.imp fun {a c} z=>z.2
  ·rw[q63 h.qs.ok.p1 h.pd,kX]
   constructor
   ·rintro⟨y,hy,rfl⟩
    obtain⟨a1,a2⟩:=m9.mp hy
    exact⟨y,a1,kP a2,rfl⟩
   ·rintro⟨y,a1,a2,rfl⟩
    exact⟨y,m9.mpr ⟨a1,hI a2⟩,rfl⟩
 rw[←A.length_eq,hC]
 unfold cntB
 rw[List.countP_eq_length_filter]
theorem Sim.spot(h:Sim m s)(hr:0<rm s.q.B s.q.P s.q.fi):spF s.q s.cl<s.q.B∧(m.row (spF s.q s.cl)).length<s.q.P∧((jJ s.q.B s.q.P (noB s.q.B) s.q.fi=some (spF s.q s.cl))∨(jJ s.q.B s.q.P (noB s.q.B) s.q.fi=none∧s.q.fi.getD (spF s.q s.cl) 0=0)):=by
 obtain⟨l,hl⟩:=FreeIs.ex (B:=s.q.B) (br:=noB s.q.B) (cl:=s.cl) (fi:=s.q.fi)
 obtain⟨b,hsp,hc⟩:=q4W h.on h.qs.ok.wr h.qs.ok.p1 hl hr
 have hF:=qGE h.on h.qs.ok.wr h.qs.ok.p1 hl hr
 obtain⟨hB,_,f0,f1⟩:=q6Z hl h.qs.ok.p1 hsp
 obtain rfl:b=spF s.q s.cl:=kF (hsp.symm.trans hF)
 have:=h.fi _ hB
 exact⟨hB,by omega,hc⟩
theorem Sim.put(h:Sim m s)(hr:0<rm s.q.B s.q.P s.q.fi){n:Int}(n0:0≤n)(n1:n<64):Sim (m.put (spF s.q s.cl) n) (putS s n)∧rm s.q.B s.q.P (putS s n).q.fi+1=rm s.q.B s.q.P s.q.fi:=by
 obtain⟨hB,hl,hc⟩:=h.spot hr
 have ef:=h.fi _ hB
 have et:(s.q.fi.getD (spF s.q s.cl) 0).toNat=(m.row (spF s.q s.cl)).length:=by rw[ef,mH]
 have hbl:spF s.q s.cl<m.hd.length:=by rw[h.lb];exact hB
 unfold putS LM.put
 rw[et]
 generalize spF s.q s.cl=b at *
 obtain⟨f,hf⟩:∃f,f=(m.row b).length:=⟨_,rfl⟩
 rw[←hf]at ef hl ⊢
 clear et
 have rr:∀c,(⟨m.hd.set b (m.row b++[(n,m.st+1)]),m.tm,putW m.nw n (m.st+1),m.st+1⟩:LM).row c=if b=c then m.row b++[(n,m.st+1)]else m.row c:=λc=>q4F hbl
 have new:∀(c g:Nat) e,((⟨m.hd.set b (m.row b++[(n,m.st+1)]),m.tm,putW m.nw n (m.st+1),m.st+1⟩:LM).row c)[g]?=some e↔((m.row c)[g]?=some e∨(c=b∧g=f∧e=(n,m.st+1))):=λc g e=>by
  rw[rr]
  by_cases z:b=c
  ·subst z
   rw[kG rfl,List.getElem?_append]
   by_cases y:g<(m.row b).length
   ·rw[kG y]
    exact⟨.inl,λx=>x.elim id λ⟨_,a,_⟩=>absurd y (by omega)⟩
   ·rw[hX y]
    have no:(m.row b)[g]?=none:=List.getElem?_eq_none_iff.mpr (by omega)
    rw[no]
    by_cases x:g=f
    ·subst x
     rw[hf,Nat.sub_self]
     constructor
     ·intro w
      injection w with w
      exact .inr ⟨rfl,rfl,w.symm⟩
     ·rintro(w|⟨_,_,w⟩)
      ·cases w
      ·rw[w];rfl
    ·have:[(n,m.st+1)][g-(m.row b).length]?=none:=List.getElem?_eq_none_iff.mpr (by show 1≤_;omega)
     rw[this]
     exact⟨λw=>(nomatch w),λw=>w.elim (λw=>(nomatch w)) λ⟨_,a,_⟩=>absurd a x⟩
  ·rw[hX z]
   exact⟨.inl,λx=>x.elim id λ⟨a,_⟩=>absurd a.symm z⟩
 refine⟨⟨h.qs.put hB (by omega) (by omega) n0 (by omega),qDE h.on hB h.qs.ok.lf hc,?_,h.tm,h.lc,λc hc'=>?_,qE8 h.nd,λn' p=>?_,λc g n' st e=>?_,?_,λc e he=>?_⟩,qG9 hB h.qs.ok.lf ef (by omega)⟩
 ·rw[mV];exact h.lb
 ·show(s.q.fi.set b (s.q.fi.getD b 0+1)).getD c 0=_
  rw[jI,rr]
  by_cases z:b=c
  ·subst z
   rw[kG ⟨rfl,by rw[h.qs.ok.lf];exact hB⟩,kG rfl,k8,ef,hf]
   show _=((_ +1:Nat):Int)
   omega
  ·rw[hX (λy=>z y.1),hX z]
   exact h.fi c hc'
 ·have key:(n',p)∈(s.q.put b f n).V↔(n',p)=(n,((b*s.q.P+f:Nat):Int))∨((n',p)∈s.q.V∧n'≠n):=zC
  refine key.trans ?_
  constructor
  ·rintro(e|⟨a,ne⟩)
   ·injection e with e1 e2
    exact⟨b,f,m.st+1,hB,e2,(new _ _ _).mpr (.inr ⟨rfl,rfl,by rw[e1]⟩),(q0Y h.nd).mpr (.inl (by rw[e1]))⟩
   ·obtain⟨c,g,st,hc',e,r,w⟩:=(h.V _ _).mp a
    exact⟨c,g,st,hc',e,(new _ _ _).mpr (.inl r),(q0Y h.nd).mpr (.inr (jG.mpr ⟨w,ne⟩))⟩
  ·rintro⟨c,g,st,hc',e,r,w⟩
   rcases(q0Y h.nd).mp w with w|w
   ·injection w with w1 w2
    rcases(new _ _ _).mp r with r|⟨rfl,rfl,_⟩
    ·have:=(h.le _ _ _ _ r).1
     omega
    ·exact .inl (by rw[w1,e];rfl)
   ·obtain⟨w1,w2⟩:=jG.mp w
    rcases(new _ _ _).mp r with r|⟨_,_,r⟩
    ·exact .inr ⟨(h.V _ _).mpr ⟨c,g,st,hc',e,r,w1⟩,w2⟩
    ·injection r with r1 r2
     exact absurd r1 w2
 ·have keyIn:∀x,x∈(putW m.nw n (m.st+1)).map (·.1)↔x=n∨x∈m.nw.map (·.1):=λx=>by
   rw[kX]
   constructor
   ·rintro⟨y,hy,rfl⟩
    rcases(q0Y h.nd).mp hy with z|z
    ·exact .inl (by rw[z])
    ·exact .inr (kX.mpr ⟨y,(jG.mp z).1,rfl⟩)
   ·intro hx
    by_cases z:x=n
    ·exact⟨(n,m.st+1),(q0Y h.nd).mpr (.inl rfl),z.symm⟩
    ·rcases hx with hx|hx
     ·exact absurd hx z
     ·obtain⟨y,hy,rfl⟩:=kX.mp hx
      exact⟨y,(q0Y h.nd).mpr (.inr (jG.mpr ⟨hy,z⟩)),rfl⟩
  rcases(new _ _ _).mp e with e|⟨_,_,e⟩
  ·have:=h.le _ _ _ _ e
   exact⟨by show st≤m.st+1;omega,(keyIn n').mpr (.inr this.2)⟩
  ·injection e with e1 e2
   exact⟨by show st≤m.st+1;omega,(keyIn n').mpr (.inl e1)⟩
 ·show s.q.nx+1=m.st+1+1
  rw[h.sx]
 ·show(if s.q.fi.getD b 0=0 then s.q.bo.set b s.q.nx else s.q.bo).getD c 0=e.2
  rcases(new _ _ _).mp he with r|⟨rfl,z,rfl⟩
  ·by_cases y:b=c
   ·subst y
    have:=q0B r
    rw[hX (by omega)]
    exact h.bo _ _ r
   ·by_cases x:s.q.fi.getD b 0=0
    ·rw[kG x,jI,hX (λw=>y w.1)]
     exact h.bo _ _ r
    ·rw[hX x]
     exact h.bo _ _ r
  ·rw[kG (by omega),jI,kG ⟨rfl,by rw[h.qs.ok.lo];exact hB⟩]
   exact h.sx
theorem Sim.wipe(h:Sim m s){b:Nat}(hB:b<s.q.B)(ef:(m.row b).length=s.q.P)(nl:∀y∈s.q.V,¬y.2 / (s.q.P:Int)=(b:Int)):Sim (m.wip b) (wipS s b)∧rm s.q.B s.q.P (wipS s b).q.fi=rm s.q.B s.q.P s.q.fi+s.q.P:=by
 have hbl:b<m.hd.length:=by rw[h.lb];exact hB
 have rr:∀c,(m.wip b).row c=if b=c then[]else m.row c:=λc=>q4F hbl
 refine⟨⟨h.qs.emptied b,qB4 h.on,?_,?_,?_,λc hc'=>?_,h.nd,λn' p=>?_,λc g n' st e=>?_,h.sx,λc e he=>?_⟩,qDD hB h.qs.ok.lf (by rw[h.fi b hB,ef])⟩
 ·show(m.hd.set b []).length=_
  rw[mV];exact h.lb
 ·show m.tm.set b (m.tm.getD b 0+1)=_
  rw[h.tm];rfl
 ·show(s.cl.set b _).length=_
  rw[mV];exact h.lc
 ·show(s.q.fi.set b 0).getD c 0=_
  rw[jI,rr]
  by_cases z:b=c
  ·subst z
   rw[kG ⟨rfl,by rw[h.qs.ok.lf];exact hB⟩,kG rfl]
   rfl
  ·rw[hX (λy=>z y.1),hX z]
   exact h.fi c hc'
 ·refine(h.V n' p).trans ⟨?_,?_⟩
  ·rintro⟨c,g,st,hc',e,r,w⟩
   refine⟨c,g,st,hc',e,?_,w⟩
   rw[rr,hX]
   ·exact r
   ·rintro rfl
    have l1:=mC (q0B r) (h.lP hc')
    refine nl (n',p) ((h.V _ _).mpr ⟨b,g,st,hc',e,r,w⟩) ?_
    show p / (s.q.P:Int)=_
    rw[e,←Int.natCast_ediv,Nat.mul_comm,Nat.mul_add_div (by omega),Nat.div_eq_of_lt l1,Nat.add_zero]
  ·rintro⟨c,g,st,hc',e,r,w⟩
   rw[rr]at r
   by_cases z:b=c
   ·rw[kG z]at r
    cases r
   ·rw[hX z]at r
    exact⟨c,g,st,hc',e,r,w⟩
 ·rw[rr]at e
  by_cases z:b=c
  ·rw[kG z]at e
   cases e
  ·rw[hX z]at e
   exact h.le _ _ _ _ e
 ·rw[rr]at he
  by_cases z:b=c
  ·rw[kG z]at he
   cases he
  ·rw[hX z]at he
   show(s.q.bo.set b 0).getD c 0=e.2
   rw[jI,hX (λw=>z w.1)]
   exact h.bo _ _ he
noncomputable def LM.emp(m:LM)(k:Nat):List Nat:=(List.range k).filter λb=>decide ((m.row b).length=0)
noncomputable def LM.beg(m:LM)(P k:Nat):List Nat:=(List.range k).filter λb=>decide (0<(m.row b).length)&&decide ((m.row b).length<P)
noncomputable def LM.way(m:LM)(P k:Nat):List Nat:=(List.range k).filter λb=>decide ((m.row b).length=P)&&decide ((m.lvs b).length<(m.row b).length)
theorem q0C{p q:Nat→Bool}{B:Nat}(h:∀b,b<B→p b=q b):(List.range B).filter p=(List.range B).filter q:=List.filter_congr λb hb=>h b (mK.mp hb)
theorem Sim.emp_eq(h:Sim m s):m.emp s.q.B=(List.range s.q.B).filter λb=>decide (s.q.fi.getD b 0=0):=q0C λb hb=>by
 rw[h.fi b hb]
 exact dF.mpr (by omega)
theorem Sim.beg_eq(h:Sim m s):m.beg s.q.P s.q.B=(List.range s.q.B).filter (jX s.q.P s.q.fi):=q0C λb hb=>by
 unfold jX
 rw[h.fi b hb]
 congr 1<;>exact dF.mpr (by omega)
theorem Sim.way_eq(h:Sim m s):m.way s.q.P s.q.B=opB s.q:=q0C λb hb=>by
 rw[h.fi b hb,h.qs.lv b hb,h.cnt hb]
 by_cases z:(m.row b).length=s.q.P
 ·rw[z]
  congr 1<;>exact dF.mpr (by omega)
 ·rw[hV z,hV (show ¬(((m.row b).length:Nat):Int)=(s.q.P:Int) by omega)]
  rfl
theorem Sim.part_eq(h:Sim m s):jJ s.q.B s.q.P (noB s.q.B) s.q.fi=(m.beg s.q.P s.q.B).head?:=by
 unfold jJ
 rw[yF,h.beg_eq,pM]
theorem Sim.short(h:Sim m s)(ge:s.q.P≤rm s.q.B s.q.P s.q.fi):(1<(m.emp s.q.B).length→s.q.P<rm s.q.B s.q.P s.q.fi)∧((m.beg s.q.P s.q.B).length≠0→s.q.P<rm s.q.B s.q.P s.q.fi)∧(¬1<(m.emp s.q.B).length→(m.beg s.q.P s.q.B).length=0→¬s.q.P<rm s.q.B s.q.P s.q.fi):=by
 obtain⟨l,hl⟩:=FreeIs.ex s.q.B (noB s.q.B) s.cl s.q.fi
 have ll:l.length=(m.emp s.q.B).length:=by
  rw[hl.pm.length_eq,h.emp_eq]
  unfold yV
  rw[yF]
 have p1:=h.qs.ok.p1
 rw[←ll]
 rcases q12 h.on h.qs.ok.wr p1 hl with⟨h1,h2⟩|⟨b,e,h1,e1,e2,h2,_⟩
 ·rw[h.part_eq,List.head?_eq_none_iff]at h1
  rw[h1,h2]
  refine⟨λz=>?_,λz=>absurd rfl z,λz _=>?_⟩
  ·have:=gM s.q.P (show 2≤l.length by omega)
   omega
  ·have:=gM s.q.P (show l.length≤1 by omega)
   omega
 ·have hb:(m.beg s.q.P s.q.B).length≠0:=λz=>by
   rw[h.part_eq,List.length_eq_zero_iff.mp z]at h1
   cases h1
  have:s.q.P<rm s.q.B s.q.P s.q.fi:=by
   rcases Nat.eq_zero_or_pos l.length with z|z
   ·rw[z]at h2
    omega
   ·have:=gM s.q.P z
    omega
  exact⟨λ_=>this,λ_=>this,λ_ z=>absurd z hb⟩
theorem Sim.opt(h:Sim m s)(hr:rm s.q.B s.q.P s.q.fi=s.q.P)(hv:s.q.V.length<(s.q.B-1)*s.q.P):opB s.q≠[]:=by
 obtain⟨l,hl⟩:=FreeIs.ex s.q.B (noB s.q.B) s.cl s.q.fi
 obtain⟨c,ec,eb⟩:∃c:CM,c.cl=s.cl∧c.br=noB s.q.B:=⟨{ CM.new 2 1 0 []with cl:=s.cl,br:=noB s.q.B },rfl,rfl⟩
 rw[←ec]at hl
 have:=(qB5 (ie:=0) h.qs h.on eb hl (by omega) hv).1
 rw[qIA h.qs h.on eb hl (by omega)]at this
 exact this
theorem q1H{q:QM}{b:Nat}(h:b∈opB q):b<q.B∧q.fi.getD b 0=(q.P:Int)∧q.lv.getD b 0<(q.P:Int):=by
 unfold opB at h
 obtain⟨h1,h2⟩:=m9.mp h
 rw[mT]at h2
 exact⟨mK.mp h1,kP h2.1,kP h2.2⟩
end
end W1
namespace L2
open PySem
theorem qDF{X:Cx}{K:PySem.W.Frag}(e:X.K=K)(hu:X.A.units+64<cLine):OpR X (compareOp .Eq) (rEmp K):=by
 subst e
 exact q9D hu
end L2
namespace W1
open PySem L2
theorem uX{p:Nat→Bool}{i:Nat}:(List.range (i+1)).filter p=(List.range i).filter p++if p i=true then[i]else[]:=by
 rw[List.range_succ,gI]
 congr 1
 rw[mY]
 split<;>rfl
theorem qGF{rs:List Addr}{i:Nat}{x:V}(h:(rs.map V.ref)[i]?=some x):∃r,x=.ref r∧rs[i]?=some r:=by
 rw[kN]at h
 obtain⟨r,a,b⟩:=mF.mp h
 exact⟨r,b.symm,a⟩
theorem q4X{rs:List Addr}{i:Nat}(h:i<rs.length):∃r,rs[i]?=some r∧atI (rs.map V.ref) (i:Int)=some (.ref r):=by
 refine⟨rs[i],hE h,yC ?_⟩
 rw[kN,hE h]
 rfl
theorem lxd2{a b c d:Int}:lx [a,b] [c,d]=decide (a<c∨(a=c∧b<d)):=by
 show(if a=c then(if b=d then false else decide (b<d))else decide (a<c))=_
 by_cases h2:a=c
 ·rw[kG h2]
  by_cases h3:b=d
  ·rw[kG h3,hV (by omega)]
  ·rw[hX h3]
   exact dF.mpr (by omega)
 ·rw[hX h2]
  exact dF.mpr (by omega)
theorem qDG{s:RS}:(opS s).Pairwise λa b=>a.b<b.b:=by
 unfold opS
 rw[gC]
 refine List.Pairwise.imp ?_ (List.Pairwise.filter _ List.pairwise_lt_range)
 intro a b h
 show(a:Int)<(b:Int)
 omega
theorem qGG{f:Tl→Int}{C:List Tl}(so:C.Pairwise λa c=>a.b<c.b){A:Tl}(hA:A∈C)(le:∀o∈C,lx [f o,o.b] [f A,A.b]=false):pk f C=A.b:=by
 obtain⟨i,hi,rfl⟩:=gK hA
 refine qFN hi (q32.mpr λo ho=>?_) λj hj=>?_
 ·have:=le o ho
  rw[lxd2]at this
  have:=of_decide_eq_false this
  omega
 ·cases z:unb f C (C[j]'(by omega))with
  |false=>rfl
  |true=>
   exfalso
   have h1:=q32.mp z C[i] (mU _)
   have h2:=List.pairwise_iff_getElem.mp so j i (by omega) hi hj
   have:=le (C[j]'(by omega)) (mU _)
   rw[lxd2]at this
   have:=of_decide_eq_false this
   omega
noncomputable def keyB(T:Tl):List Int:=[T.bo,T.b]
noncomputable def agd(ts:List Tl):List Tl:=ts.mergeSort (leL λT=>[T.bo,T.b])
theorem qHS{m:Int}{ts:List Tl}(so:ts.Pairwise λa c=>a.b<c.b){A:Tl}(hA:A∈(agd ts).take m.toNat)(le:∀o∈(agd ts).take m.toNat,lx [o.lv,o.b] [A.lv,A.b]=false):pk Tl.lv (winC m ts)=A.b:=by
 have mm:∀o,o∈winC m ts↔o∈(agd ts).take m.toNat:=λo=>List.mem_mergeSort
 refine qGG ?_ ((mm A).mpr hA) λo ho=>le o ((mm o).mp ho)
 have nd:(winC m ts).Pairwise λa c=>a.b≠c.b:=by
  have h0:(agd ts).Pairwise λa c=>a.b≠c.b:=(List.mergeSort_perm ts _).symm.pairwise (so.imp λh=>by omega) (fun {a b} h=>λz=>h z.symm)
  have h1:((agd ts).take m.toNat).Pairwise λa c=>a.b≠c.b:=h0.sublist (List.take_sublist _ _)
  exact(List.mergeSort_perm _ _).symm.pairwise h1 (fun {a b} h=>λz=>h z.symm)
 have so2:(winC m ts).Pairwise λa b=>lx (Tl.ns b) (Tl.ns a)=false:=q9N
 refine(List.Pairwise.and so2 nd).imp fun {a b} ⟨h1,h2⟩=>?_
 have h1:lx [b.b,b.lv,b.cl,b.bo] [a.b,a.lv,a.cl,a.bo]=false:=h1
 have h1:(if b.b=a.b then lx [b.lv,b.cl,b.bo] [a.lv,a.cl,a.bo]else decide (b.b<a.b))=false:=h1
 rw[hX (λz=>h2 z.symm)]at h1
 have:=of_decide_eq_false h1
 omega
theorem q90{s:RS}{T:Tl}(h:T∈opS s):∃b∈opB s.q,T=tyS s b:=by
 obtain⟨b,hb,e⟩:=kX.mp h
 exact⟨b,hb,e.symm⟩
theorem Sim.lv'{m:LM}{s:RS}(h:Sim m s){b:Nat}(hb:b∈opB s.q):(((m.lvs b).length:Nat):Int)=(tyS s b).lv:=by
 have:=h.qs.lv b (q1H hb).1
 rw[h.cnt (q1H hb).1]at this
 exact this.symm
theorem Sim.row0{m:LM}{s:RS}(h:Sim m s){b:Nat}(hb:b∈opB s.q):∃e,(m.row b)[0]?=some e∧e.2=(tyS s b).bo:=by
 obtain⟨h1,h2,_⟩:=q1H hb
 have h3:=h.fi b h1
 have p1:=h.qs.ok.p1
 have l:0<(m.row b).length:=by omega
 exact⟨(m.row b)[0],hE l,(h.bo b _ (hE l)).symm⟩
theorem q91{s:RS}{g:Rl}{n:Int}{r:List Int}:runS s g (n::r)=((stp s g n).2.2++(runS (stp s g n).1 (stp s g n).2.1 r).1,(runS (stp s g n).1 (stp s g n).2.1 r).2):=rfl
theorem qJV{s:RS}{g:Rl}{n:Int}(h:s.q.P<rm s.q.B s.q.P s.q.fi):stp s g n=(putS s n,g,[]):=kG h
theorem qJW{s:RS}{g:Rl}{n:Int}{b:Nat}(h:¬s.q.P<rm s.q.B s.q.P s.q.fi)(e:g.ch (s.q.P:Int) s.q.nx (opS s)=((b:Int),g)):stp s g n=(putS (wipS (movS s b) b) n,g,[⟨opS s,b,(lvS s.q.P b s.q.V).length⟩]):=by
 unfold stp
 rw[hX h,e,mH]
end W1
namespace L2
open PySem PySem.Spec PyProof.Rows
structure Fn1(K:PySem.W.Frag)(x q:Str)(st:Stmt)(f:Addr)(ps:List Str) where
 fd:FuncData
 F:FunD K x q st .none f fd
 b:jT K fd ps []
noncomputable abbrev Fn1.Ok0{K:PySem.W.Frag}{x q:Str}{st:Stmt}{f:Addr}{ps:List Str}(F:Fn1 K x q st f ps)(P:Program)(w:World)(mg:Str→Option Value)(base:Heap)(k:Nat)(sp:Sp):Prop:=FnOk P w K mg base CX0 k f F.fd ps sp
noncomputable abbrev FnX(K:PySem.W.Frag)(x q:Str)(st:Stmt)(f:Addr):Prop:=∃fd,FunD K x q st .none f fd
section
variable{K:PySem.W.Frag}{x q:Str}{st:Stmt}{f:Addr}{ps:List Str}
noncomputable def BnX(x q:Str)(st:Stmt)(ps:List Str):Prop:=∀(kV doc pm:Value) (an:Option Addr) (cdv ct:Value) (us:List Value),us.length=ps.length→bindArgs (PySem.W.fnOf x q (yK st) (yD st) (qF st) .none kV doc pm an cdv ct) ⟨us,[]⟩=pure (ps.zip us)
theorem fn1b(h:BnX x q st ps){fd:FuncData}(F:FunD K x q st .none f fd):jT K fd ps []:=by
 obtain⟨oc,od,kV,doc,pm,an,cdv,ct,osl,rfl,lk,hcd⟩:=F.ex
 exact jT.all λus hl=>h kV doc pm an cdv ct us hl
theorem lnx{us:List Value}{n:Nat}(h:us.length=n):us=(List.range n).map (us.getD · .none):=by
 subst h
 refine List.ext_getElem (by simp) λi h1 h2=>?_
 simp[hE h1]
theorem bnx(h:∀kV doc pm an cdv ct (g:Nat→Value),bindArgs (PySem.W.fnOf x q (yK st) (yD st) (qF st) .none kV doc pm an cdv ct) ⟨(List.range ps.length).map g,[]⟩=pure (ps.zip ((List.range ps.length).map g))):BnX x q st ps:=λkV doc pm an cdv ct us hl=>by
 rw[lnx hl]
 exact h ..
noncomputable def fn1 (l:FnX K x q st f) (h:∀kV doc pm an cdv ct (g:Nat→Value),bindArgs (PySem.W.fnOf x q (yK st) (yD st) (qF st) .none kV doc pm an cdv ct) ⟨(List.range ps.length).map g,[]⟩=pure (ps.zip ((List.range ps.length).map g)):=by intros;rfl):Fn1 K x q st f ps:=⟨l.choose,l.choose_spec,fn1b (bnx h) l.choose_spec⟩
theorem FnX.bind1{a:Str}{fd:FuncData}(h:∀kV doc pm an cdv ct u,bindArgs (PySem.W.fnOf x q (yK st) (yD st) (qF st) .none kV doc pm an cdv ct) ⟨[u],[]⟩=pure [(a,u)])(F:FunD K x q st .none f fd)(s:Shared)(v:Value):BindsTo s fd ⟨[v],[]⟩ [(a,v)]:=by
 obtain⟨oc,od,kV,doc,pm,an,cdv,ct,osl,rfl,lk,hcd⟩:=F.ex
 exact .of_eq (h kV doc pm an cdv ct v)
theorem FnX.of{oc:Value}{od an:Option Addr}{osl:Array (Option Value)}{kV doc pm cdv ct:Value}(l:K.lookup f=some ⟨oc,od,.func (PySem.W.fnOf x q (yK st) (yD st) (qF st) .none kV doc pm an cdv ct),osl⟩)(c:PySem.W.codeIn K cdv q=true):FnX K x q st f:=⟨_,FunD.mk' l c⟩
theorem qP{N P:List Str}{sc:Scope}(h:(sc.kind=.function∧sc.isCoroutine=false∧sc.isGenerator=false)∧N.Nodup∧N.take P.length=P∧(∀x∈P,sc.names.lookup x=some .local∨sc.names.lookup x=some .cell)∧∀y∈sc.names,y.2≠ .free):FnScope N P sc:=⟨h.1.1,h.1.2.1,h.1.2.2,h.2.1,h.2.2.1,h.2.2.2.1,h.2.2.2.2⟩
end
noncomputable abbrev GFn(K:PySem.W.Frag)(n:Str)(f:Addr):Prop:=PySem.W.nsIn K mainGlobals n=some (some (.ref f))∧PySem.W.keepIn K (.ref f)=true
theorem sz0:0≤sizeLine:=by decide
theorem sz1:1≤sizeLine:=by decide
theorem sz2:2≤sizeLine:=by decide
theorem sz3:3≤sizeLine:=by decide
theorem sz4:4≤sizeLine:=by decide
theorem sz5:5≤sizeLine:=by decide
end L2
namespace W1
open PySem L2
noncomputable def top(i:Nat):Stmt:=PySem.Challenge.pw_wornpages_k71_moves_by_rules.main.body.getD i (.Pass ⟨0,0,0,0⟩)
noncomputable abbrev q3K:Stmt:=(top 17)
noncomputable abbrev q2A:Stmt:=(top 18)
noncomputable abbrev q3L:Stmt:=(top 19)
noncomputable abbrev q3M:Stmt:=(top 20)
noncomputable abbrev q2B:Stmt:=(top 22)
noncomputable abbrev uT:Stmt:=(qO (top 23) 0)
noncomputable abbrev q3N:Stmt:=(qO (top 23) 1)
noncomputable abbrev q2C:Stmt:=(qO (top 23) 2)
noncomputable abbrev q2D:Stmt:=(qO (top 23) 3)
noncomputable abbrev zK:Stmt:=(qO (top 23) 6)
noncomputable abbrev zL:Stmt:=(qO (top 23) 7)
noncomputable abbrev q0D:Stmt:=(qO (top 23) 8)
noncomputable abbrev uY:Stmt:=(qO (top 23) 10)
noncomputable abbrev uM:Stmt:=(qO (top 23) 11)
noncomputable abbrev uN:Stmt:=(qO (top 23) 12)
noncomputable abbrev uZ:Stmt:=(qO (top 23) 13)
noncomputable abbrev vU:Stmt:=(qO (top 23) 14)
noncomputable abbrev zM:Stmt:=(qO (top 23) 15)
noncomputable abbrev q3O:Stmt:=(top 27)
noncomputable abbrev q4Y:Stmt:=(top 28)
noncomputable abbrev q0E:Stmt:=(top 31)
noncomputable abbrev vF:Stmt:=(top 32)
noncomputable abbrev q71:Stmt:=(top 33)
noncomputable abbrev v1:Stmt:=(qO (top 34) 0)
noncomputable abbrev q0F:Stmt:=(qO (top 34) 1)
noncomputable abbrev uA:Stmt:=(qO (top 35) 0)
noncomputable abbrev uB:Stmt:=(qO (top 36) 0)
noncomputable abbrev uO:Stmt:=(qO (top 37) 0)
noncomputable abbrev zN:Stmt:=(qO (top 38) 0)
noncomputable abbrev yZ:Stmt:=(qO (top 38) 1)
noncomputable abbrev q0G:Stmt:=(qO (top 39) 0)
noncomputable abbrev uC:Stmt:=(qO (top 39) 1)
noncomputable abbrev q0H:Stmt:=(qO (top 40) 0)
noncomputable abbrev vV:Stmt:=(qO (top 40) 1)
noncomputable abbrev q2E:Stmt:=(qO (top 42) 0)
noncomputable abbrev q2F:Stmt:=(qO (top 42) 1)
noncomputable abbrev q2G:Stmt:=(qO (top 42) 2)
noncomputable abbrev q0I:Stmt:=(qO (top 42) 3)
noncomputable abbrev zO:Stmt:=(qO (top 42) 4)
noncomputable abbrev v3:Stmt:=(qO (top 42) 6)
noncomputable abbrev q2H:Stmt:=(qO (top 42) 7)
noncomputable abbrev q1I:Stmt:=(qO (top 44) 0)
noncomputable abbrev q1J:Stmt:=(qO (top 44) 1)
noncomputable abbrev jU:Stmt:=(qO (top 44) 2)
noncomputable abbrev q1K:Stmt:=(qO (top 44) 3)
noncomputable abbrev q1L:Stmt:=(qO (top 44) 4)
noncomputable abbrev q0J:Stmt:=(qO (top 44) 6)
noncomputable abbrev vG:Stmt:=(qO (top 44) 8)
noncomputable abbrev q2I:Stmt:=(qO (top 44) 9)
noncomputable abbrev q0K:Stmt:=(qO (top 44) 10)
noncomputable abbrev q1M:Stmt:=(qO (top 44) 13)
noncomputable abbrev uD:Stmt:=(qO (top 44) 14)
noncomputable abbrev uE:Stmt:=(qO (top 44) 15)
noncomputable abbrev q3P:Stmt:=(top 46)
noncomputable abbrev q0L:Stmt:=(top 47)
noncomputable abbrev q1N:Stmt:=(qO (top 48) 0)
noncomputable abbrev vW:Stmt:=(qO (top 48) 2)
noncomputable abbrev q0M:Stmt:=(qO (top 48) 3)
noncomputable abbrev q0N:Stmt:=(qO (top 48) 4)
noncomputable abbrev v4:Stmt:=(qO (top 48) 5)
noncomputable abbrev yR:Stmt:=(qO (top 48) 6)
noncomputable abbrev vX:Stmt:=(qO (top 48) 7)
noncomputable abbrev zP:Stmt:=(qO (top 48) 8)
noncomputable abbrev yS:Stmt:=(qO (top 48) 9)
noncomputable abbrev q0O:Stmt:=(qO (top 48) 10)
noncomputable abbrev yW:Stmt:=(qO (top 48) 11)
noncomputable abbrev q0P:Stmt:=(qO (top 48) 12)
noncomputable abbrev v6:Stmt:=(qO (top 48) 13)
noncomputable abbrev v7:Stmt:=(qO (top 48) 14)
noncomputable abbrev uP:Stmt:=(qO (top 48) 15)
noncomputable abbrev uQ:Stmt:=(qO (top 48) 16)
noncomputable abbrev u8:Stmt:=(qO (top 50) 0)
noncomputable abbrev zQ:Stmt:=(qO (top 50) 1)
noncomputable abbrev q72:Stmt:=(top 52)
noncomputable abbrev zR:Stmt:=(top 53)
noncomputable abbrev q1O:Stmt:=(top 54)
noncomputable abbrev zS:Stmt:=(top 55)
noncomputable abbrev zT:Stmt:=(top 56)
noncomputable abbrev vH:Stmt:=(top 57)
noncomputable abbrev q1P:Stmt:=(top 58)
noncomputable abbrev q2J:Stmt:=(top 59)
noncomputable abbrev q3Q:Stmt:=(top 60)
noncomputable abbrev q2K:Stmt:=(top 62)
noncomputable abbrev q2L:Stmt:=(top 63)
noncomputable abbrev q3R:Stmt:=(top 64)
noncomputable abbrev q4Z:Stmt:=(top 65)
noncomputable abbrev q50:Stmt:=(top 66)
noncomputable abbrev q3S:Stmt:=(top 67)
noncomputable abbrev q2M:Stmt:=(top 68)
noncomputable abbrev q3T:Stmt:=(top 69)
noncomputable abbrev v8:Stmt:=(top 70)
noncomputable abbrev yN:Stmt:=(top 71)
noncomputable abbrev q3U:Stmt:=(top 72)
noncomputable abbrev q1Q:Stmt:=(top 73)
noncomputable abbrev q51:Stmt:=(top 74)
noncomputable abbrev qGH:Stmt:=(top 75)
set_option genInjectivity false in
structure Adr where
 (f_is_whole f_is_within f_is_shape f_is_value f_limits_of f_Chip_init f_Chip_put f_Chip_wipe f_Chip_read f_Chip_is_dark f_Chip_cleared f_Chip_failed f_Chip_check_page f_Chip_check_block f_Chip_check_power f_Chip_check_deed f_Chip_is_spent f_Chip_do_deed f_is_sheet f_mark_of f_is_unbeaten f_first_unbeaten f_by_age f_Rule_goes_ahead f_Rule_choose f_Fewest_goes_ahead f_Eldest_goes_ahead f_Worth_goes_ahead f_Weighed_init f_Weighed_goes_ahead f_Turned_init f_Turned_goes_ahead f_Window_init f_Window_choose f_Book_init f_Book_mark f_Book_note f_Book_forget f_Book_emptied f_Book_live_pages f_Book_held f_Plain_init f_Plain_good f_Plain_free f_Plain_part f_Plain_spot f_Plain_ready f_Plain_set_down f_Plain_lay f_Plain_write f_Plain_held f_Plain_check_sheet f_Plain_check_share f_paper_of f_pages_moved f_Store_init f_Store_reserve f_Store_tally f_Store_space f_Store_full_ones f_Store_with_dead_page f_Store_options f_Store_choice f_Store_choice_by_rule f_Store_moved f_Store_value_to_move f_Store_wiped f_Store_clear_out f_Store_make_room f_Store_make_ready f_Store_make_rooms f_Terms_init f_Terms_closed f_is_row f_closed_pages f_check_race f_check_length f_check_unlike f_papers_of_race f_outcome_of f_chosen_in f_moves_by f_law_whole f_law_drawn f_law_race f_law_new f_law_put f_law_live f_law_short f_law_ways f_law_cleared_out f_law_rule f_law_rank f_law_chosen f_law_due f_law C_Chip C_Rule C_Fewest C_Eldest C_Worth C_Weighed C_Turned C_Window C_Book C_Plain C_Store C_Terms:Addr)
 tk_MOST_TOLD:Tok
 tk_ROLL:Tok
 tk_NAMES:Tok
 c_Plain_free:Addr
 T_Plain_free:Addr
 c_law_rule:Addr
 T_law_rule:Addr
structure Txt(K:W.Frag)(mg:Str→Option Value)(t:Adr):Prop where
 mg_Chip:mg "Chip"=some (.ref t.C_Chip)
 cl_Chip:Cls K t.C_Chip
 na_Chip_blocks:qR K t.C_Chip "blocks"
 na_Chip_pages:qR K t.C_Chip "pages"
 na_Chip_most:qR K t.C_Chip "most"
 na_Chip_limits:qR K t.C_Chip "limits"
 na_Chip_borne:qR K t.C_Chip "borne"
 na_Chip_clearings:qR K t.C_Chip "clearings"
 na_Chip_deed_counts:qR K t.C_Chip "deed_counts"
 na_Chip_broken:qR K t.C_Chip "broken"
 na_Chip_deeds_left:qR K t.C_Chip "deeds_left"
 na_Chip_record:qR K t.C_Chip "record"
 m_Chip_put:Meth K t.C_Chip "put" t.f_Chip_put
 m_Chip_wipe:Meth K t.C_Chip "wipe" t.f_Chip_wipe
 m_Chip_read:Meth K t.C_Chip "read" t.f_Chip_read
 m_Chip_is_dark:Meth K t.C_Chip "is_dark" t.f_Chip_is_dark
 m_Chip_cleared:Meth K t.C_Chip "cleared" t.f_Chip_cleared
 m_Chip_failed:Meth K t.C_Chip "failed" t.f_Chip_failed
 m_Chip_check_page:Meth K t.C_Chip "check_page" t.f_Chip_check_page
 m_Chip_check_block:Meth K t.C_Chip "check_block" t.f_Chip_check_block
 m_Chip_check_power:Meth K t.C_Chip "check_power" t.f_Chip_check_power
 m_Chip_check_deed:Meth K t.C_Chip "check_deed" t.f_Chip_check_deed
 m_Chip_is_spent:Meth K t.C_Chip "is_spent" t.f_Chip_is_spent
 m_Chip_do_deed:Meth K t.C_Chip "do_deed" t.f_Chip_do_deed
 mk_Chip:Mk K t.C_Chip t.f_Chip_init
 mg_Rule:mg "Rule"=some (.ref t.C_Rule)
 cl_Rule:Cls K t.C_Rule
 m_Rule_goes_ahead:Meth K t.C_Rule "goes_ahead" t.f_Rule_goes_ahead
 m_Rule_choose:Meth K t.C_Rule "choose" t.f_Rule_choose
 mk0_Rule:Mk0 K t.C_Rule
 mg_Fewest:mg "Fewest"=some (.ref t.C_Fewest)
 cl_Fewest:Cls K t.C_Fewest
 m_Fewest_goes_ahead:Meth K t.C_Fewest "goes_ahead" t.f_Fewest_goes_ahead
 m_Fewest_choose:Meth K t.C_Fewest "choose" t.f_Rule_choose
 mk0_Fewest:Mk0 K t.C_Fewest
 mg_Eldest:mg "Eldest"=some (.ref t.C_Eldest)
 cl_Eldest:Cls K t.C_Eldest
 m_Eldest_goes_ahead:Meth K t.C_Eldest "goes_ahead" t.f_Eldest_goes_ahead
 m_Eldest_choose:Meth K t.C_Eldest "choose" t.f_Rule_choose
 mk0_Eldest:Mk0 K t.C_Eldest
 mg_Worth:mg "Worth"=some (.ref t.C_Worth)
 cl_Worth:Cls K t.C_Worth
 m_Worth_goes_ahead:Meth K t.C_Worth "goes_ahead" t.f_Worth_goes_ahead
 m_Worth_choose:Meth K t.C_Worth "choose" t.f_Rule_choose
 mk0_Worth:Mk0 K t.C_Worth
 mg_Weighed:mg "Weighed"=some (.ref t.C_Weighed)
 cl_Weighed:Cls K t.C_Weighed
 na_Weighed_weigh:qR K t.C_Weighed "weigh"
 m_Weighed_goes_ahead:Meth K t.C_Weighed "goes_ahead" t.f_Weighed_goes_ahead
 m_Weighed_choose:Meth K t.C_Weighed "choose" t.f_Rule_choose
 mk_Weighed:Mk K t.C_Weighed t.f_Weighed_init
 mg_Turned:mg "Turned"=some (.ref t.C_Turned)
 cl_Turned:Cls K t.C_Turned
 na_Turned_inner:qR K t.C_Turned "inner"
 m_Turned_goes_ahead:Meth K t.C_Turned "goes_ahead" t.f_Turned_goes_ahead
 m_Turned_choose:Meth K t.C_Turned "choose" t.f_Rule_choose
 mk_Turned:Mk K t.C_Turned t.f_Turned_init
 mg_Window:mg "Window"=some (.ref t.C_Window)
 cl_Window:Cls K t.C_Window
 na_Window_many:qR K t.C_Window "many"
 m_Window_choose:Meth K t.C_Window "choose" t.f_Window_choose
 m_Window_goes_ahead:Meth K t.C_Window "goes_ahead" t.f_Fewest_goes_ahead
 mk_Window:Mk K t.C_Window t.f_Window_init
 mg_Book:mg "Book"=some (.ref t.C_Book)
 cl_Book:Cls K t.C_Book
 na_Book_blocks:qR K t.C_Book "blocks"
 na_Book_pages:qR K t.C_Book "pages"
 na_Book_stamp:qR K t.C_Book "stamp"
 na_Book_where:qR K t.C_Book "where"
 na_Book_live:qR K t.C_Book "live"
 na_Book_filled:qR K t.C_Book "filled"
 na_Book_born:qR K t.C_Book "born"
 m_Book_mark:Meth K t.C_Book "mark" t.f_Book_mark
 m_Book_note:Meth K t.C_Book "note" t.f_Book_note
 m_Book_forget:Meth K t.C_Book "forget" t.f_Book_forget
 m_Book_emptied:Meth K t.C_Book "emptied" t.f_Book_emptied
 m_Book_live_pages:Meth K t.C_Book "live_pages" t.f_Book_live_pages
 m_Book_held:Meth K t.C_Book "held" t.f_Book_held
 mk_Book:Mk K t.C_Book t.f_Book_init
 mg_Plain:mg "Plain"=some (.ref t.C_Plain)
 mg_Store:mg "Store"=some (.ref t.C_Store)
 cl_Store:Cls K t.C_Store
 na_Store_chip:qR K t.C_Store "chip"
 na_Store_terms:qR K t.C_Store "terms"
 na_Store_book:qR K t.C_Store "book"
 na_Store_rule:qR K t.C_Store "rule"
 na_Store_papers:qR K t.C_Store "papers"
 m_Store_reserve:Meth K t.C_Store "reserve" t.f_Store_reserve
 m_Store_tally:Meth K t.C_Store "tally" t.f_Store_tally
 m_Store_space:Meth K t.C_Store "space" t.f_Store_space
 m_Store_full_ones:Meth K t.C_Store "full_ones" t.f_Store_full_ones
 m_Store_with_dead_page:Meth K t.C_Store "with_dead_page" t.f_Store_with_dead_page
 m_Store_options:Meth K t.C_Store "options" t.f_Store_options
 m_Store_choice:Meth K t.C_Store "choice" t.f_Store_choice
 m_Store_choice_by_rule:Meth K t.C_Store "choice_by_rule" t.f_Store_choice_by_rule
 m_Store_moved:Meth K t.C_Store "moved" t.f_Store_moved
 m_Store_value_to_move:Meth K t.C_Store "value_to_move" t.f_Store_value_to_move
 m_Store_wiped:Meth K t.C_Store "wiped" t.f_Store_wiped
 m_Store_clear_out:Meth K t.C_Store "clear_out" t.f_Store_clear_out
 m_Store_make_room:Meth K t.C_Store "make_room" t.f_Store_make_room
 m_Store_make_ready:Meth K t.C_Store "make_ready" t.f_Store_make_ready
 m_Store_make_rooms:Meth K t.C_Store "make_rooms" t.f_Store_make_rooms
 m_Store_good:Meth K t.C_Store "good" t.f_Plain_good
 m_Store_free:Meth K t.C_Store "free" t.f_Plain_free
 m_Store_part:Meth K t.C_Store "part" t.f_Plain_part
 m_Store_spot:Meth K t.C_Store "spot" t.f_Plain_spot
 m_Store_ready:Meth K t.C_Store "ready" t.f_Plain_ready
 m_Store_set_down:Meth K t.C_Store "set_down" t.f_Plain_set_down
 m_Store_lay:Meth K t.C_Store "lay" t.f_Plain_lay
 m_Store_write:Meth K t.C_Store "write" t.f_Plain_write
 m_Store_held:Meth K t.C_Store "held" t.f_Plain_held
 m_Store_check_sheet:Meth K t.C_Store "check_sheet" t.f_Plain_check_sheet
 m_Store_check_share:Meth K t.C_Store "check_share" t.f_Plain_check_share
 mk_Store:Mk K t.C_Store t.f_Store_init
 mg_Terms:mg "Terms"=some (.ref t.C_Terms)
 cl_Terms:Cls K t.C_Terms
 na_Terms_blocks:qR K t.C_Terms "blocks"
 na_Terms_pages:qR K t.C_Terms "pages"
 na_Terms_sheets:qR K t.C_Terms "sheets"
 na_Terms_share:qR K t.C_Terms "share"
 na_Terms_ill:qR K t.C_Terms "ill"
 na_Terms_spread:qR K t.C_Terms "spread"
 m_Terms_closed:Meth K t.C_Terms "closed" t.f_Terms_closed
 mk_Terms:Mk K t.C_Terms t.f_Terms_init
 ci_Plain:ClM K t.C_Plain "__init__" t.f_Plain_init
 cd_Plain_free:W.codeHdIn K t.c_Plain_free t.T_Plain_free=true
 cd_law_rule:W.codeHdIn K t.c_law_rule t.T_law_rule=true
 tne_Plain_free:t.T_Plain_free≠t.T_law_rule
 mg_is_whole:mg "is_whole"=some (.ref t.f_is_whole)
 kp_is_whole:W.keepIn K (.ref t.f_is_whole)=true
 mg_is_within:mg "is_within"=some (.ref t.f_is_within)
 kp_is_within:W.keepIn K (.ref t.f_is_within)=true
 mg_is_shape:mg "is_shape"=some (.ref t.f_is_shape)
 kp_is_shape:W.keepIn K (.ref t.f_is_shape)=true
 mg_is_value:mg "is_value"=some (.ref t.f_is_value)
 kp_is_value:W.keepIn K (.ref t.f_is_value)=true
 mg_limits_of:mg "limits_of"=some (.ref t.f_limits_of)
 kp_limits_of:W.keepIn K (.ref t.f_limits_of)=true
 mg_is_sheet:mg "is_sheet"=some (.ref t.f_is_sheet)
 kp_is_sheet:W.keepIn K (.ref t.f_is_sheet)=true
 mg_mark_of:mg "mark_of"=some (.ref t.f_mark_of)
 kp_mark_of:W.keepIn K (.ref t.f_mark_of)=true
 mg_is_unbeaten:mg "is_unbeaten"=some (.ref t.f_is_unbeaten)
 kp_is_unbeaten:W.keepIn K (.ref t.f_is_unbeaten)=true
 mg_first_unbeaten:mg "first_unbeaten"=some (.ref t.f_first_unbeaten)
 kp_first_unbeaten:W.keepIn K (.ref t.f_first_unbeaten)=true
 mg_by_age:mg "by_age"=some (.ref t.f_by_age)
 mg_paper_of:mg "paper_of"=some (.ref t.f_paper_of)
 kp_paper_of:W.keepIn K (.ref t.f_paper_of)=true
 mg_pages_moved:mg "pages_moved"=some (.ref t.f_pages_moved)
 kp_pages_moved:W.keepIn K (.ref t.f_pages_moved)=true
 mg_is_row:mg "is_row"=some (.ref t.f_is_row)
 kp_is_row:W.keepIn K (.ref t.f_is_row)=true
 mg_closed_pages:mg "closed_pages"=some (.ref t.f_closed_pages)
 kp_closed_pages:W.keepIn K (.ref t.f_closed_pages)=true
 mg_check_race:mg "check_race"=some (.ref t.f_check_race)
 kp_check_race:W.keepIn K (.ref t.f_check_race)=true
 mg_check_length:mg "check_length"=some (.ref t.f_check_length)
 kp_check_length:W.keepIn K (.ref t.f_check_length)=true
 mg_check_unlike:mg "check_unlike"=some (.ref t.f_check_unlike)
 kp_check_unlike:W.keepIn K (.ref t.f_check_unlike)=true
 mg_papers_of_race:mg "papers_of_race"=some (.ref t.f_papers_of_race)
 kp_papers_of_race:W.keepIn K (.ref t.f_papers_of_race)=true
 mg_outcome_of:mg "outcome_of"=some (.ref t.f_outcome_of)
 kp_outcome_of:W.keepIn K (.ref t.f_outcome_of)=true
 mg_chosen_in:mg "chosen_in"=some (.ref t.f_chosen_in)
 kp_chosen_in:W.keepIn K (.ref t.f_chosen_in)=true
 mg_moves_by:mg "moves_by"=some (.ref t.f_moves_by)
 kp_moves_by:W.keepIn K (.ref t.f_moves_by)=true
 mg_law_whole:mg "_law_whole"=some (.ref t.f_law_whole)
 kp_law_whole:W.keepIn K (.ref t.f_law_whole)=true
 mg_law_drawn:mg "_law_drawn"=some (.ref t.f_law_drawn)
 kp_law_drawn:W.keepIn K (.ref t.f_law_drawn)=true
 mg_law_race:mg "_law_race"=some (.ref t.f_law_race)
 kp_law_race:W.keepIn K (.ref t.f_law_race)=true
 mg_law_new:mg "_law_new"=some (.ref t.f_law_new)
 kp_law_new:W.keepIn K (.ref t.f_law_new)=true
 mg_law_put:mg "_law_put"=some (.ref t.f_law_put)
 kp_law_put:W.keepIn K (.ref t.f_law_put)=true
 mg_law_live:mg "_law_live"=some (.ref t.f_law_live)
 kp_law_live:W.keepIn K (.ref t.f_law_live)=true
 mg_law_short:mg "_law_short"=some (.ref t.f_law_short)
 kp_law_short:W.keepIn K (.ref t.f_law_short)=true
 mg_law_ways:mg "_law_ways"=some (.ref t.f_law_ways)
 kp_law_ways:W.keepIn K (.ref t.f_law_ways)=true
 mg_law_cleared_out:mg "_law_cleared_out"=some (.ref t.f_law_cleared_out)
 kp_law_cleared_out:W.keepIn K (.ref t.f_law_cleared_out)=true
 mg_law_rule:mg "_law_rule"=some (.ref t.f_law_rule)
 kp_law_rule:W.keepIn K (.ref t.f_law_rule)=true
 mg_law_rank:mg "_law_rank"=some (.ref t.f_law_rank)
 kp_law_rank:W.keepIn K (.ref t.f_law_rank)=true
 mg_law_chosen:mg "_law_chosen"=some (.ref t.f_law_chosen)
 kp_law_chosen:W.keepIn K (.ref t.f_law_chosen)=true
 mg_law_due:mg "_law_due"=some (.ref t.f_law_due)
 kp_law_due:W.keepIn K (.ref t.f_law_due)=true
 mg_MOST_TOLD:mg "MOST_TOLD"=some (.int 1000000 t.tk_MOST_TOLD)
 mg_ROLL:mg "ROLL"=some (.int 64 t.tk_ROLL)
 mg_NAMES:mg "NAMES"=some (.int 128 t.tk_NAMES)
 b_all:mg "all"=none
 b_bool:mg "bool"=none
 b_enumerate:mg "enumerate"=none
 b_int:mg "int"=none
 b_isinstance:mg "isinstance"=none
 b_len:mg "len"=none
 b_list:mg "list"=none
 b_min:mg "min"=none
 b_range:mg "range"=none
 b_set:mg "set"=none
 b_sorted:mg "sorted"=none
 b_sum:mg "sum"=none
 b_tuple:mg "tuple"=none
set_option genInjectivity false
structure Fns(K:W.Frag)(t:Adr) where
 is_whole:Fn1 K "is_whole" "is_whole" q3K t.f_is_whole ["thing"]
 is_within:Fn1 K "is_within" "is_within" q2A t.f_is_within ["thing","low","high"]
 is_shape:Fn1 K "is_shape" "is_shape" q3L t.f_is_shape ["blocks","pages"]
 is_value:Fn1 K "is_value" "is_value" q3M t.f_is_value ["thing"]
 limits_of:Fn1 K "limits_of" "limits_of" q2B t.f_limits_of ["ills","blocks"]
 fd_Chip_init:FuncData
 dv_Chip_init:Value
 F_Chip_init:FunD K "__init__" "Chip.__init__" uT dv_Chip_init t.f_Chip_init fd_Chip_init
 b_Chip_init:jT K fd_Chip_init ["self","blocks","pages","most","ills"] []
 ds_Chip_init_1:List Value
 b_Chip_init_1:jT K fd_Chip_init ["self","blocks","pages","most","ills"] ds_Chip_init_1
 v_Chip_init_1:Vals [.non] ds_Chip_init_1
 ds_Chip_init_2:List Value
 b_Chip_init_2:jT K fd_Chip_init ["self","blocks","pages","most","ills"] ds_Chip_init_2
 v_Chip_init_2:Vals [.int 1000000,.non] ds_Chip_init_2
 Chip_put:Fn1 K "put" "Chip.put" q3N t.f_Chip_put ["self","page","stuff"]
 Chip_wipe:Fn1 K "wipe" "Chip.wipe" q2C t.f_Chip_wipe ["self","block"]
 Chip_read:Fn1 K "read" "Chip.read" q2D t.f_Chip_read ["self","page"]
 Chip_is_dark:Fn1 K "is_dark" "Chip.is_dark" zK t.f_Chip_is_dark ["self"]
 Chip_cleared:Fn1 K "cleared" "Chip.cleared" zL t.f_Chip_cleared ["self","block"]
 Chip_failed:Fn1 K "failed" "Chip.failed" q0D t.f_Chip_failed ["self","block"]
 Chip_check_page:Fn1 K "check_page" "Chip.check_page" uY t.f_Chip_check_page ["self","page"]
 Chip_check_block:Fn1 K "check_block" "Chip.check_block" uM t.f_Chip_check_block ["self","block"]
 Chip_check_power:Fn1 K "check_power" "Chip.check_power" uN t.f_Chip_check_power ["self"]
 Chip_check_deed:Fn1 K "check_deed" "Chip.check_deed" uZ t.f_Chip_check_deed ["self","block"]
 Chip_is_spent:Fn1 K "is_spent" "Chip.is_spent" vU t.f_Chip_is_spent ["self","block"]
 Chip_do_deed:Fn1 K "do_deed" "Chip.do_deed" zM t.f_Chip_do_deed ["self","word","place","block","fails"]
 is_sheet:Fn1 K "is_sheet" "is_sheet" q3O t.f_is_sheet ["thing"]
 mark_of:Fn1 K "mark_of" "mark_of" q4Y t.f_mark_of ["stamp","name"]
 is_unbeaten:Fn1 K "is_unbeaten" "is_unbeaten" q0E t.f_is_unbeaten ["rule","tally","tallies","pages","now"]
 first_unbeaten:Fn1 K "first_unbeaten" "first_unbeaten" vF t.f_first_unbeaten ["rule","tallies","pages","now"]
 by_age:Fn1 K "by_age" "by_age" q71 t.f_by_age ["tally"]
 Rule_goes_ahead:Fn1 K "goes_ahead" "Rule.goes_ahead" v1 t.f_Rule_goes_ahead ["self","one","other","pages","now"]
 Rule_choose:Fn1 K "choose" "Rule.choose" q0F t.f_Rule_choose ["self","tallies","pages","now"]
 Fewest_goes_ahead:Fn1 K "goes_ahead" "Fewest.goes_ahead" uA t.f_Fewest_goes_ahead ["self","one","other","pages","now"]
 Eldest_goes_ahead:Fn1 K "goes_ahead" "Eldest.goes_ahead" uB t.f_Eldest_goes_ahead ["self","one","other","pages","now"]
 Worth_goes_ahead:Fn1 K "goes_ahead" "Worth.goes_ahead" uO t.f_Worth_goes_ahead ["self","one","other","pages","now"]
 Weighed_init:Fn1 K "__init__" "Weighed.__init__" zN t.f_Weighed_init ["self","weigh"]
 Weighed_goes_ahead:Fn1 K "goes_ahead" "Weighed.goes_ahead" yZ t.f_Weighed_goes_ahead ["self","one","other","pages","now"]
 Turned_init:Fn1 K "__init__" "Turned.__init__" q0G t.f_Turned_init ["self","rule"]
 Turned_goes_ahead:Fn1 K "goes_ahead" "Turned.goes_ahead" uC t.f_Turned_goes_ahead ["self","one","other","pages","now"]
 Window_init:Fn1 K "__init__" "Window.__init__" q0H t.f_Window_init ["self","many"]
 Window_choose:Fn1 K "choose" "Window.choose" vV t.f_Window_choose ["self","tallies","pages","now"]
 Book_init:Fn1 K "__init__" "Book.__init__" q2E t.f_Book_init ["self","blocks","pages"]
 Book_mark:Fn1 K "mark" "Book.mark" q2F t.f_Book_mark ["self","name"]
 Book_note:Fn1 K "note" "Book.note" q2G t.f_Book_note ["self","page","name"]
 Book_forget:Fn1 K "forget" "Book.forget" q0I t.f_Book_forget ["self","name"]
 Book_emptied:Fn1 K "emptied" "Book.emptied" zO t.f_Book_emptied ["self","block"]
 Book_live_pages:Fn1 K "live_pages" "Book.live_pages" v3 t.f_Book_live_pages ["self","block"]
 Book_held:Fn1 K "held" "Book.held" q2H t.f_Book_held ["self"]
 Plain_init:Fn1 K "__init__" "Plain.__init__" q1I t.f_Plain_init ["self","chip","terms"]
 Plain_good:Fn1 K "good" "Plain.good" q1J t.f_Plain_good ["self"]
 fd_Plain_free:FuncData
 F_Plain_free:FunT K "free" "Plain.free" jU t.c_Plain_free t.f_Plain_free fd_Plain_free
 b_Plain_free:jT K fd_Plain_free ["self"] []
 Plain_part:Fn1 K "part" "Plain.part" q1K t.f_Plain_part ["self"]
 Plain_spot:Fn1 K "spot" "Plain.spot" q1L t.f_Plain_spot ["self"]
 Plain_ready:Fn1 K "ready" "Plain.ready" q0J t.f_Plain_ready ["self"]
 Plain_set_down:Fn1 K "set_down" "Plain.set_down" vG t.f_Plain_set_down ["self","name","value"]
 Plain_lay:Fn1 K "lay" "Plain.lay" q2I t.f_Plain_lay ["self","name","value"]
 Plain_write:Fn1 K "write" "Plain.write" q0K t.f_Plain_write ["self","sheet","value"]
 Plain_held:Fn1 K "held" "Plain.held" q1M t.f_Plain_held ["self"]
 Plain_check_sheet:Fn1 K "check_sheet" "Plain.check_sheet" uD t.f_Plain_check_sheet ["self","sheet"]
 Plain_check_share:Fn1 K "check_share" "Plain.check_share" uE t.f_Plain_check_share ["self","sheet"]
 paper_of:Fn1 K "paper_of" "paper_of" q3P t.f_paper_of ["why","options","block","moved","wiped"]
 pages_moved:Fn1 K "pages_moved" "pages_moved" q0L t.f_pages_moved ["papers"]
 Store_init:Fn1 K "__init__" "Store.__init__" q1N t.f_Store_init ["self","chip","terms","rule"]
 Store_reserve:Fn1 K "reserve" "Store.reserve" vW t.f_Store_reserve ["self"]
 Store_tally:Fn1 K "tally" "Store.tally" q0M t.f_Store_tally ["self","block"]
 Store_space:Fn1 K "space" "Store.space" q0N t.f_Store_space ["self"]
 Store_full_ones:Fn1 K "full_ones" "Store.full_ones" v4 t.f_Store_full_ones ["self"]
 Store_with_dead_page:Fn1 K "with_dead_page" "Store.with_dead_page" yR t.f_Store_with_dead_page ["self"]
 Store_options:Fn1 K "options" "Store.options" vX t.f_Store_options ["self"]
 Store_choice:Fn1 K "choice" "Store.choice" zP t.f_Store_choice ["self"]
 Store_choice_by_rule:Fn1 K "choice_by_rule" "Store.choice_by_rule" yS t.f_Store_choice_by_rule ["self","options"]
 Store_moved:Fn1 K "moved" "Store.moved" q0O t.f_Store_moved ["self","block"]
 Store_value_to_move:Fn1 K "value_to_move" "Store.value_to_move" yW t.f_Store_value_to_move ["self","page","name"]
 Store_wiped:Fn1 K "wiped" "Store.wiped" q0P t.f_Store_wiped ["self","block"]
 Store_clear_out:Fn1 K "clear_out" "Store.clear_out" v6 t.f_Store_clear_out ["self","block"]
 Store_make_room:Fn1 K "make_room" "Store.make_room" v7 t.f_Store_make_room ["self"]
 Store_make_ready:Fn1 K "make_ready" "Store.make_ready" uP t.f_Store_make_ready ["self"]
 Store_make_rooms:Fn1 K "make_rooms" "Store.make_rooms" uQ t.f_Store_make_rooms ["self"]
 fd_Terms_init:FuncData
 dv_Terms_init:Value
 F_Terms_init:FunD K "__init__" "Terms.__init__" u8 dv_Terms_init t.f_Terms_init fd_Terms_init
 b_Terms_init:jT K fd_Terms_init ["self","blocks","pages","sheets","share","ill","spread"] []
 ds_Terms_init_1:List Value
 b_Terms_init_1:jT K fd_Terms_init ["self","blocks","pages","sheets","share","ill","spread"] ds_Terms_init_1
 v_Terms_init_1:Vals [.int 1000000] ds_Terms_init_1
 ds_Terms_init_2:List Value
 b_Terms_init_2:jT K fd_Terms_init ["self","blocks","pages","sheets","share","ill","spread"] ds_Terms_init_2
 v_Terms_init_2:Vals [.int 0,.int 1000000] ds_Terms_init_2
 Terms_closed:Fn1 K "closed" "Terms.closed" zQ t.f_Terms_closed ["self"]
 is_row:Fn1 K "is_row" "is_row" q72 t.f_is_row ["thing"]
 closed_pages:Fn1 K "closed_pages" "closed_pages" zR t.f_closed_pages ["blocks","pages"]
 check_race:Fn1 K "check_race" "check_race" q1O t.f_check_race ["blocks","pages","row"]
 check_length:Fn1 K "check_length" "check_length" zS t.f_check_length ["blocks","pages","length"]
 check_unlike:Fn1 K "check_unlike" "check_unlike" zT t.f_check_unlike ["blocks","pages","sheets"]
 papers_of_race:Fn1 K "papers_of_race" "papers_of_race" vH t.f_papers_of_race ["blocks","pages","row","rule"]
 outcome_of:Fn1 K "outcome_of" "outcome_of" q1P t.f_outcome_of ["papers"]
 chosen_in:Fn1 K "chosen_in" "chosen_in" q2J t.f_chosen_in ["papers"]
 moves_by:Fn1 K "moves_by" "moves_by" q3Q t.f_moves_by ["blocks","pages","row","rule"]
 law_whole:Fn1 K "_law_whole" "_law_whole" q2K t.f_law_whole ["_law_found"]
 law_drawn:Fn1 K "_law_drawn" "_law_drawn" q2L t.f_law_drawn ["_law_script","_law_k"]
 law_race:Fn1 K "_law_race" "_law_race" q3R t.f_law_race ["_law_script"]
 law_new:Fn1 K "_law_new" "_law_new" q4Z t.f_law_new ["_law_blocks","_law_pages"]
 law_put:Fn1 K "_law_put" "_law_put" q50 t.f_law_put ["_law_state","_law_sheet"]
 law_live:Fn1 K "_law_live" "_law_live" q3S t.f_law_live ["_law_state","_law_block"]
 law_short:Fn1 K "_law_short" "_law_short" q2M t.f_law_short ["_law_state"]
 law_ways:Fn1 K "_law_ways" "_law_ways" q3T t.f_law_ways ["_law_state"]
 law_cleared_out:Fn1 K "_law_cleared_out" "_law_cleared_out" v8 t.f_law_cleared_out ["_law_state","_law_block"]
 fd_law_rule:FuncData
 F_law_rule:FunT K "_law_rule" "_law_rule" yN t.c_law_rule t.f_law_rule fd_law_rule
 b_law_rule:jT K fd_law_rule ["_law_kind"] []
 law_rank:Fn1 K "_law_rank" "_law_rank" q3U t.f_law_rank ["_law_kind","_law_state","_law_block"]
 law_chosen:Fn1 K "_law_chosen" "_law_chosen" q1Q t.f_law_chosen ["_law_kind","_law_state"]
 law_due:Fn1 K "_law_due" "_law_due" q51 t.f_law_due ["_law_blocks","_law_pages","_law_row","_law_kind"]
 law:Fn1 K "law" "law" qGH t.f_law ["_law_script"]
structure HkE where
 P:Program
 w:World
 K:W.Frag
 mg:Str→Option Value
 t:Adr
noncomputable def hkB(e:HkE):Prop:=∃(S:Fns e.K e.t) (base:Heap),Txt e.K e.mg e.t∧BmIn base e.mg∧¬S.law.Ok0 e.P e.w e.mg base 20 (q4V e.K [e.t.T_Plain_free,e.t.T_law_rule])
instance:Nonempty HkE:=⟨⟨PySem.Challenge.pw_wornpages_k71_moves_by_rules,⟨λ_ _=>0,{ strHash:=λ_=>0,shareClass:=λ_=>0,mergeTok:=id,idOf:=λ_=>0,idOfShared:=λ_ _=>0,followText:=λ_=>false,idOfImm:=λ_=>0 }⟩,[],λ_=>none,by constructor<;>exact(0:Nat)⟩⟩
@[irreducible] noncomputable def hkE:HkE:=Classical.epsilon hkB
noncomputable def P:Program:=hkE.P
noncomputable def w:World:=hkE.w
noncomputable def K:W.Frag:=hkE.K
noncomputable def mg:Str→Option Value:=hkE.mg
noncomputable def t:Adr:=hkE.t
section
variable{base:Heap}
theorem qB9:FnScope ["thing"] ["thing"] (qF q3K):=qP (by decide+kernel)
theorem q9Q:FnScope ["thing","low","high"] ["thing","low","high"] (qF q2A):=qP (by decide+kernel)
theorem qBA:FnScope ["blocks","pages"] ["blocks","pages"] (qF q3L):=qP (by decide+kernel)
theorem qBB:FnScope ["thing"] ["thing"] (qF q3M):=qP (by decide+kernel)
theorem zD:FnScope ["ills","blocks","limits","block","deeds"] ["ills","blocks"] (qF q2B):=qP (by decide+kernel)
theorem q9R:FnScope ["self","blocks","pages","most","ills"] ["self","blocks","pages","most","ills"] (qF uT):=qP (by decide+kernel)
theorem q5B:FnScope ["self","page","stuff","block"] ["self","page","stuff"] (qF q3N):=qP (by decide+kernel)
theorem zE:FnScope ["self","block","fails","first","page"] ["self","block"] (qF q2C):=qP (by decide+kernel)
theorem q9S:FnScope ["self","page"] ["self","page"] (qF q2D):=qP (by decide+kernel)
theorem q5F:FnScope ["self"] ["self"] (qF zK):=qP (by decide+kernel)
theorem q5G:FnScope ["self","block"] ["self","block"] (qF zL):=qP (by decide+kernel)
theorem q73:FnScope ["self","block"] ["self","block"] (qF q0D):=qP (by decide+kernel)
theorem q3V:FnScope ["self","page"] ["self","page"] (qF uY):=qP (by decide+kernel)
theorem q34:FnScope ["self","block"] ["self","block"] (qF uM):=qP (by decide+kernel)
theorem q35:FnScope ["self"] ["self"] (qF uN):=qP (by decide+kernel)
theorem q3W:FnScope ["self","block"] ["self","block"] (qF uZ):=qP (by decide+kernel)
theorem q52:FnScope ["self","block"] ["self","block"] (qF vU):=qP (by decide+kernel)
theorem q5H:FnScope ["self","word","place","block","fails"] ["self","word","place","block","fails"] (qF zM):=qP (by decide+kernel)
theorem qBC:FnScope ["thing"] ["thing"] (qF q3O):=qP (by decide+kernel)
theorem qCG:FnScope ["stamp","name"] ["stamp","name"] (qF q4Y):=qP (by decide+kernel)
theorem q2N:FnScope ["rule","tally","tallies","pages","now","other"] ["rule","tally","tallies","pages","now"] (qF q0E):=qP (by decide+kernel)
theorem v9:FnScope ["rule","tallies","pages","now","place"] ["rule","tallies","pages","now"] (qF vF):=qP (by decide+kernel)
theorem qEH:FnScope ["tally"] ["tally"] (qF q71):=qP (by decide+kernel)
theorem q3X:FnScope ["self","one","other","pages","now"] ["self","one","other","pages","now"] (qF v1):=qP (by decide+kernel)
theorem q74:FnScope ["self","tallies","pages","now"] ["self","tallies","pages","now"] (qF q0F):=qP (by decide+kernel)
theorem q2O:FnScope ["self","one","other","pages","now"] ["self","one","other","pages","now"] (qF uA):=qP (by decide+kernel)
theorem q2P:FnScope ["self","one","other","pages","now"] ["self","one","other","pages","now"] (qF uB):=qP (by decide+kernel)
theorem uF:FnScope ["self","one","other","pages","now","gain_of_one","gain_of_other"] ["self","one","other","pages","now"] (qF uO):=qP (by decide+kernel)
theorem q5I:FnScope ["self","weigh"] ["self","weigh"] (qF zN):=qP (by decide+kernel)
theorem vB:FnScope ["self","one","other","pages","now","weigh"] ["self","one","other","pages","now"] (qF yZ):=qP (by decide+kernel)
theorem q75:FnScope ["self","rule"] ["self","rule"] (qF q0G):=qP (by decide+kernel)
theorem q2Q:FnScope ["self","one","other","pages","now"] ["self","one","other","pages","now"] (qF uC):=qP (by decide+kernel)
theorem q76:FnScope ["self","many"] ["self","many"] (qF q0H):=qP (by decide+kernel)
theorem q13:FnScope ["self","tallies","pages","now","seen"] ["self","tallies","pages","now"] (qF vV):=qP (by decide+kernel)
theorem q9T:FnScope ["self","blocks","pages"] ["self","blocks","pages"] (qF q2E):=qP (by decide+kernel)
theorem q9U:FnScope ["self","name"] ["self","name"] (qF q2F):=qP (by decide+kernel)
theorem q4G:FnScope ["self","page","name","block"] ["self","page","name"] (qF q2G):=qP (by decide+kernel)
theorem q2R:FnScope ["self","name","page"] ["self","name"] (qF q0I):=qP (by decide+kernel)
theorem q5J:FnScope ["self","block"] ["self","block"] (qF zO):=qP (by decide+kernel)
theorem q3Y:FnScope ["self","block"] ["self","block"] (qF v3):=qP (by decide+kernel)
theorem q9V:FnScope ["self"] ["self"] (qF q2H):=qP (by decide+kernel)
theorem q7Z:FnScope ["self","chip","terms"] ["self","chip","terms"] (qF q1I):=qP (by decide+kernel)
theorem q80:FnScope ["self"] ["self"] (qF q1J):=qP (by decide+kernel)
theorem q3E:FnScope ["self","clear"] ["self"] (qF jU):=qP (by decide+kernel)
theorem q3F:FnScope ["self","block"] ["self"] (qF q1K):=qP (by decide+kernel)
theorem q0Q:FnScope ["self","part","free"] ["self"] (qF q1L):=qP (by decide+kernel)
theorem q2S:FnScope ["self","spare"] ["self"] (qF q0J):=qP (by decide+kernel)
theorem q02:FnScope ["self","name","value","page"] ["self","name","value"] (qF vG):=qP (by decide+kernel)
theorem q9W:FnScope ["self","name","value"] ["self","name","value"] (qF q2I):=qP (by decide+kernel)
theorem q77:FnScope ["self","sheet","value"] ["self","sheet","value"] (qF q0K):=qP (by decide+kernel)
theorem q81:FnScope ["self"] ["self"] (qF q1M):=qP (by decide+kernel)
theorem q2T:FnScope ["self","sheet"] ["self","sheet"] (qF uD):=qP (by decide+kernel)
theorem vP:FnScope ["self","sheet","held"] ["self","sheet"] (qF uE):=qP (by decide+kernel)
theorem qBD:FnScope ["why","options","block","moved","wiped"] ["why","options","block","moved","wiped"] (qF q3P):=qP (by decide+kernel)
theorem q78:FnScope ["papers"] ["papers"] (qF q0L):=qP (by decide+kernel)
theorem q82:FnScope ["self","chip","terms","rule"] ["self","chip","terms","rule"] (qF q1N):=qP (by decide+kernel)
theorem q53:FnScope ["self"] ["self"] (qF vW):=qP (by decide+kernel)
theorem q79:FnScope ["self","block"] ["self","block"] (qF q0M):=qP (by decide+kernel)
theorem q2U:FnScope ["self","part"] ["self"] (qF q0N):=qP (by decide+kernel)
theorem yT:FnScope ["self","space","full","tallies"] ["self"] (qF v4):=qP (by decide+kernel)
theorem q14:FnScope ["self"] ["self"] (qF yR):=qP (by decide+kernel)
theorem q54:FnScope ["self"] ["self"] (qF vX):=qP (by decide+kernel)
theorem q1Y:FnScope ["self","options"] ["self"] (qF zP):=qP (by decide+kernel)
theorem q15:FnScope ["self","options"] ["self","options"] (qF yS):=qP (by decide+kernel)
theorem vA:FnScope ["self","block","moves","page","name"] ["self","block"] (qF q0O):=qP (by decide+kernel)
theorem q1R:FnScope ["self","page","name"] ["self","page","name"] (qF yW):=qP (by decide+kernel)
theorem q7A:FnScope ["self","block"] ["self","block"] (qF q0P):=qP (by decide+kernel)
theorem q3Z:FnScope ["self","block"] ["self","block"] (qF v6):=qP (by decide+kernel)
theorem yG:FnScope ["self","options","chosen","moved","wiped"] ["self"] (qF v7):=qP (by decide+kernel)
theorem q36:FnScope ["self"] ["self"] (qF uP):=qP (by decide+kernel)
theorem q37:FnScope ["self"] ["self"] (qF uQ):=qP (by decide+kernel)
theorem q83:FnScope ["self","blocks","pages","sheets","share","ill","spread"] ["self","blocks","pages","sheets","share","ill","spread"] (qF u8):=qP (by decide+kernel)
theorem q5K:FnScope ["self"] ["self"] (qF zQ):=qP (by decide+kernel)
theorem qEI:FnScope ["thing"] ["thing"] (qF q72):=qP (by decide+kernel)
theorem q5L:FnScope ["blocks","pages"] ["blocks","pages"] (qF zR):=qP (by decide+kernel)
theorem q84:FnScope ["blocks","pages","row"] ["blocks","pages","row"] (qF q1O):=qP (by decide+kernel)
theorem q5M:FnScope ["blocks","pages","length"] ["blocks","pages","length"] (qF zS):=qP (by decide+kernel)
theorem q5N:FnScope ["blocks","pages","sheets"] ["blocks","pages","sheets"] (qF zT):=qP (by decide+kernel)
theorem yY:FnScope ["blocks","pages","row","rule","terms","store","sheet"] ["blocks","pages","row","rule"] (qF vH):=qP (by decide+kernel)
theorem q85:FnScope ["papers"] ["papers"] (qF q1P):=qP (by decide+kernel)
theorem q9X:FnScope ["papers"] ["papers"] (qF q2J):=qP (by decide+kernel)
theorem qBE:FnScope ["blocks","pages","row","rule"] ["blocks","pages","row","rule"] (qF q3Q):=qP (by decide+kernel)
theorem q9Y:FnScope ["_law_found"] ["_law_found"] (qF q2K):=qP (by decide+kernel)
theorem q1S:FnScope ["_law_script","_law_k","_law_number"] ["_law_script","_law_k"] (qF q2L):=qP (by decide+kernel)
theorem jY:FnScope ["_law_script","_law_blocks","_law_pages","_law_most","_law_step","_law_unlike","_law_names","_law_many"] ["_law_script"] (qF q3R):=qP (by decide+kernel)
theorem qCH:FnScope ["_law_blocks","_law_pages"] ["_law_blocks","_law_pages"] (qF q4Z):=qP (by decide+kernel)
theorem zU:FnScope ["_law_state","_law_sheet","_law_held","_law_begun","_law_clear"] ["_law_state","_law_sheet"] (qF q50):=qP (by decide+kernel)
theorem qBF:FnScope ["_law_state","_law_block"] ["_law_state","_law_block"] (qF q3S):=qP (by decide+kernel)
theorem q4H:FnScope ["_law_state","_law_held"] ["_law_state"] (qF q2M):=qP (by decide+kernel)
theorem q03:FnScope ["_law_state","_law_found","_law_block","_law_row"] ["_law_state"] (qF q3T):=qP (by decide+kernel)
theorem uR:FnScope ["_law_state","_law_block","_law_moved","_law_sheet"] ["_law_state","_law_block"] (qF v8):=qP (by decide+kernel)
theorem qBG:FnScope ["_law_kind"] ["_law_kind"] (qF yN):=qP (by decide+kernel)
theorem q04:FnScope ["_law_kind","_law_state","_law_block","_law_live_here","_law_born","_law_share"] ["_law_kind","_law_state","_law_block"] (qF q3U):=qP (by decide+kernel)
theorem vK:FnScope ["_law_kind","_law_state","_law_ways_here"] ["_law_kind","_law_state"] (qF q1Q):=qP (by decide+kernel)
theorem uS:FnScope ["_law_blocks","_law_pages","_law_row","_law_kind","_law_state","_law_moves","_law_chosen_here","_law_sheet","_law_block"] ["_law_blocks","_law_pages","_law_row","_law_kind"] (qF q51):=qP (by decide+kernel)
theorem q1T:FnScope ["_law_script","_law_blocks","_law_pages","_law_row","_law_kind","_law_other","_law_which","_law_handed","_law_found"] ["_law_script"] (qF qGH):=qP (by decide+kernel)
local macro_rules| `(tactic|walk_at "r")=>`(tactic|repeat (first|with_reducible refine⟨_,rfl,?_⟩|refine⟨_,rfl,?_⟩|refine(iI ?_)))
theorem qBH(T:Txt K mg t)(S:Fns K t):S.is_whole.Ok0 P w mg base 1 qCY:=by
 refine S.is_whole.F.ok0 qB9 λcdv A _ s H vs Q E hr h=>?_
 ·obtain⟨x,rfl,kn,k⟩:=h
  refine⟨_,(qE (qL (q3G (qW yQ (by rfl) T.b_isinstance (by kernel_rfl) (qA (pv 0) (qA (q1C rfl T.b_int (by kernel_rfl) rfl (v:=.ty "int")) qC))) (q1D (qBW (qW yQ (by rfl) T.b_isinstance (by kernel_rfl) (qA (pv 0) (qA (q1C rfl T.b_bool (by kernel_rfl) rfl (v:=.ty "bool")) qC)))))))),?_⟩
  try dsimp-beta-proj-iota-zeta-eta only[wishK,cxK]
  obtain⟨ty,q,e1,e2,_⟩:=kn.ty (K:=K)
  refine⟨_,rfl,x,_,_,ty,_,rfl,rfl,.inl q,e1,_,rfl,?_⟩
  have z:=qFC x
  cases qi:isI x with
  |true=>
   rw[qi,kG rfl]at z
   refine iteT ?_
   refine⟨_,rfl,x,_,_,ty,_,rfl,rfl,.inl q,e2,_,rfl,?_⟩
   rw[z]
   exact k
  |false=>
   rw[qi]at z
   refine iteF ?_
   have z':false=isW x:=z
   rw[z']
   exact k
theorem jD(T:Txt K mg t)(S:Fns K t):S.is_within.Ok0 P w mg base 2 qFD:=by
 refine S.is_within.F.ok0 q9Q λcdv A _ s H vs Q E hr h=>?_
 ·obtain⟨x,lo,hi,rfl,kn,k⟩:=h
  refine⟨_,(qE (qL (q3G (qM (qBH T S).mono hr rfl T.mg_is_whole T.kp_is_whole S.is_whole.b .nil qK (qA (pv 0) qC)) (q1D (qEW qEU qEU (pv 1) (pv 0) (pv 2)))))),?_⟩
  try dsimp-beta-proj-iota-zeta-eta only[wishK,cxK]
  refine⟨_,rfl,x,rfl,kn,_,rfl,?_⟩
  cases x with
  |int i=>
   refine iteT ?_
   refine⟨_,rfl,_,rfl,_,_,rfl,rfl,_,rfl,?_⟩
   have k':Q (V.bl (decide (lo≤i)&&decide (i≤hi))) H:=k
   by_cases h1:lo≤i
   ·rw[hI h1]at k' ⊢
    refine iteT ?_
    exact⟨_,rfl,_,_,rfl,rfl,k'⟩
   ·rw[hV h1]at k' ⊢
    refine iteF ?_
    exact k'
  |_=>exact iteF k
theorem q5C(T:Txt K mg t)(S:Fns K t):S.is_shape.Ok0 P w mg base 3 qH4:=by
 refine S.is_shape.F.ok0 qBA λcdv A _ s H vs Q E hr h=>?_
 ·obtain⟨x,y,rfl,kx,ky,k⟩:=h
  refine⟨_,(qE (qL (q3G (qM (jD T S).mono hr rfl T.mg_is_within T.kp_is_within S.is_within.b .nil qK (qA (pv 0) (qA qG (qA qG qC)))) (q1D (qM (jD T S).mono hr rfl T.mg_is_within T.kp_is_within S.is_within.b .nil qK (qA (pv 1) (qA qG (qA qG qC)))))))),?_⟩
  try dsimp-beta-proj-iota-zeta-eta only[wishK,cxK]
  refine⟨_,rfl,x,_,_,rfl,kx,_,rfl,?_⟩
  cases q:inB x 2 16 with
  |true=>
   rw[q]at k
   refine iteT ⟨_,rfl,y,_,_,rfl,ky,k⟩
  |false=>
   rw[q]at k
   exact iteF k
structure Gd(m:CM):Prop where
 lf:m.lf=none
 br:∀b,m.br.getD b false=false
 li:∀b,valV m.lim (Sum.inl b)=none
theorem inBi{v lo hi:Int}(h1:lo≤v)(h2:v≤hi):inB (.int v) lo hi=true:=by
 show(decide (lo≤v)&&decide (v≤hi))=true
 rw[hI h1,hI h2]
 rfl
noncomputable def putC(m:CM)(p:Nat)(st:V):CM:={ m.deed "put" (p:Int) ((p:Int) / m.pg) false with bo:=m.bo.set p st }
noncomputable def wipC(m:CM)(b:Nat):CM:={ m.deed "wipe" (b:Int) (b:Int) false with bo:=clr m.bo ((b:Int)*m.pg).toNat m.pg.toNat,cl:=m.cl.set b (m.cl.getD b 0+1) }
noncomputable def spCP(t:Adr):Sp:=λvs H Q E=>∃c a m,∃p:Int,vs=[.ref c,.int p]∧ChipAt t.C_Chip H c a m∧m.Ok∧0≤p∧p≤m.bl*m.pg-1∧Q .non H
theorem zV(T:Txt K mg t)(S:Fns K t):S.Chip_check_page.Ok0 P w mg base 3 (spCP t):=by
 refine S.Chip_check_page.F.ok0 q3V λcdv A _ s H vs Q E hr h=>?_
 ·obtain⟨c,a,m,p,rfl,hc,ok,p0,p1,q⟩:=h
  refine⟨_,(qE (jB (yL (jW (qM (jD T S).mono hr rfl T.mg_is_within T.kp_is_within S.is_within.b .nil qK (qA (pv 1) (qA qG (qA (qN jR (qN yB (qJ (pv 0) rfl) (qJ (pv 0) rfl)) qG) qC)))))) (qE qZ) qQ)),?_⟩
  try dsimp-beta-proj-iota-zeta-eta only[wishK,cxK]
  have b1:=ok.bl1
  have b2:=ok.bl2
  refine⟨_,rfl,_,rfl,c,_,a.dx,_,_,rfl,hc.ins,T.cl_Chip,T.na_Chip_blocks,rfl,_,rfl,c,_,a.dx,_,_,rfl,hc.ins,T.cl_Chip,T.na_Chip_pages,rfl,?_⟩
  refine⟨_,_,rfl,rfl,.inl ⟨by omega,by omega⟩,_,_,rfl,rfl,.int p,_,_,rfl,.int p,_,rfl,?_⟩
  rw[inBi p0 p1]
  exact iteF q
noncomputable def spCB(t:Adr):Sp:=λvs H Q E=>∃c a m,∃p:Int,vs=[.ref c,.int p]∧ChipAt t.C_Chip H c a m∧0≤p∧p≤m.bl-1∧Q .non H
theorem uG(T:Txt K mg t)(S:Fns K t):S.Chip_check_block.Ok0 P w mg base 3 (spCB t):=by
 refine S.Chip_check_block.F.ok0 q34 λcdv A _ s H vs Q E hr h=>?_
 ·obtain⟨c,a,m,p,rfl,hc,p0,p1,q⟩:=h
  refine⟨_,(qE (jB (yL (jW (qM (jD T S).mono hr rfl T.mg_is_within T.kp_is_within S.is_within.b .nil qK (qA (pv 1) (qA qG (qA (qN jR (qJ (pv 0) rfl) qG) qC)))))) (qE qZ) qQ)),?_⟩
  try dsimp-beta-proj-iota-zeta-eta only[wishK,cxK]
  refine⟨_,rfl,_,rfl,c,_,a.dx,_,_,rfl,hc.ins,T.cl_Chip,T.na_Chip_blocks,rfl,_,_,rfl,rfl,.int p,_,_,rfl,.int p,_,rfl,?_⟩
  rw[inBi p0 p1]
  exact iteF q
noncomputable def spID(t:Adr):Sp:=λvs H Q E=>∃c a m,vs=[.ref c]∧ChipAt t.C_Chip H c a m∧Q (.bl (decide (m.lf=some 0))) H
theorem q5O(T:Txt K mg t)(S:Fns K t):S.Chip_is_dark.Ok0 P w mg base 1 (spID t):=by
 refine S.Chip_is_dark.F.ok0 q5F λcdv A _ s H vs Q E hr h=>?_
 ·obtain⟨c,a,m,rfl,hc,q⟩:=h
  refine⟨_,(qE (qL (uV u9 (qJ (pv 0) rfl) qG (qU _)))),?_⟩
  try dsimp-beta-proj-iota-zeta-eta only[wishK,cxK]
  refine⟨_,rfl,c,_,a.dx,_,_,rfl,hc.ins,T.cl_Chip,T.na_Chip_deeds_left,rfl,qH3,?_⟩
  rw[lf0]
  exact q
noncomputable def spPW(t:Adr):Sp:=λvs H Q E=>∃c a m,vs=[.ref c]∧ChipAt t.C_Chip H c a m∧m.lf=none∧Q .non H
theorem zA(T:Txt K mg t)(S:Fns K t):S.Chip_check_power.Ok0 P w mg base 2 (spPW t):=by
 refine S.Chip_check_power.F.ok0 q35 λcdv A _ s H vs Q E hr h=>?_
 ·obtain⟨c,a,m,rfl,hc,hl,q⟩:=h
  refine⟨_,(qE (jB (jW (jC (pv 0) T.cl_Chip T.m_Chip_is_dark (q5O T S).mono hr S.Chip_is_dark.b .nil qK)) (qE qZ) qQ)),?_⟩
  try dsimp-beta-proj-iota-zeta-eta only[wishK,cxK]
  refine⟨_,rfl,c,a.dx,_,rfl,hc.ins,rfl,c,a,m,rfl,hc,_,rfl,?_⟩
  rw[hl]
  exact iteF q
noncomputable def spCD(t:Adr):Sp:=λvs H Q E=>∃c a m b,vs=[.ref c,.int b]∧ChipAt t.C_Chip H c a m∧m.Ok∧Gd m∧0≤b∧b<m.bl∧Q .non H
theorem zW(T:Txt K mg t)(S:Fns K t):S.Chip_check_deed.Ok0 P w mg base 3 (spCD t):=by
 refine S.Chip_check_deed.F.ok0 q3W λcdv A _ s H vs Q E hr h=>?_
 ·obtain⟨c,a,m,b,rfl,hc,ok,g,b0,b1,q⟩:=h
  refine⟨_,(qB (jA (jC (pv 0) T.cl_Chip T.m_Chip_check_power (zA T S).mono hr S.Chip_check_power.b .nil qK)) (qE (jB (jW (qY jE (qJ (pv 0) rfl) (pv 1) (λ_ _=>rfl))) (qE qZ) qQ))),?_⟩
  try dsimp-beta-proj-iota-zeta-eta only[wishK,cxK]
  have nb:=ok.nbr
  refine⟨_,rfl,c,a.dx,_,rfl,hc.ins,rfl,c,a,m,rfl,hc,g.lf,?_⟩
  refine⟨_,rfl,c,_,a.dx,_,_,rfl,hc.ins,T.cl_Chip,T.na_Chip_broken,rfl,_,rfl,a.br,_,b,_,rfl,rfl,SqL.of hc.br,getB b0 (by omega),_,rfl,?_⟩
  rw[g.br]
  exact iteF q
noncomputable def spIS(t:Adr):Sp:=λvs H Q E=>∃c a m b,vs=[.ref c,.int b]∧ChipAt t.C_Chip H c a m∧Gd m∧Q (.bl false) H
theorem q16(T:Txt K mg t)(S:Fns K t):S.Chip_is_spent.Ok0 P w mg base 1 (spIS t):=by
 refine S.Chip_is_spent.F.ok0 q52 λcdv A _ s H vs Q E hr h=>?_
 ·obtain⟨c,a,m,b,rfl,hc,g,q⟩:=h
  have hu:=q1X hr
  refine⟨_,(qE (qL (q3G (qII (qF9 hu (pv 1) (qJ (pv 0) rfl))) (q1D (uV qCQ (qY jE (qJ (pv 0) rfl) (pv 1) (λ_ _=>rfl)) (jS hu (qJ (pv 0) rfl) (pv 1) (λ_ _=>rfl)) (qU _)))))),?_⟩
  try dsimp-beta-proj-iota-zeta-eta only[wishK,cxK]
  refine⟨_,rfl,_,rfl,c,_,a.dx,_,_,rfl,hc.ins,T.cl_Chip,T.na_Chip_limits,rfl,a.li,_,rfl,DGet.k (k:=Sum.inl b) hc.li,_,rfl,?_⟩
  rw[g.li]
  exact iteF q
noncomputable def spDD(t:Adr):Sp:=λvs H Q E=>∃c a m w pl b,vs=[.ref c,.str w,.int pl,.int b,.bl false]∧ChipAt t.C_Chip H c a m∧m.Ok∧m.lf=none∧m.rc.length<1000000∧0≤b∧b<m.bl∧
 ∀H',ChipAt t.C_Chip H' c a (m.deed w pl b false)→Keep (foot c a) H H'→Q .non H'
theorem q1Z(T:Txt K mg t)(S:Fns K t):S.Chip_do_deed.Ok0 P w mg base 3 (spDD t):=by
 refine S.Chip_do_deed.F.ok0 q5H λcdv A _ s H vs Q E hr h=>?_
 ·obtain⟨c,a,m,w,pl,b,rfl,hc,ok,hl,hr1,b0,b1,q⟩:=h
  refine⟨_,(qB (jB (qS q5U (qJ (pv 0) rfl) vS (qU _)) (qE qZ) qQ) (qB (q30 (qJ (pv 0) rfl) (pv 3) q0W qG q3I yU) (qB (jA (q8O PySem.F.plainAttrs_list PySem.F.slot_list_append PySem.F.type_list_append vD (qJ (pv 0) rfl) (qA (yP (qA (pv 1) (qA (pv 2) (qA (qBW (pv 4)) qC)))) qC q49))) (qE (jB (jW (pv 4)) (qB qZ (qE qZ)) qQ))))),?_⟩
  try dsimp-beta-proj-iota-zeta-eta only[wishK,cxK]
  have nd:=ok.ndc
  refine⟨_,rfl,c,_,a.dx,_,_,rfl,hc.ins,T.cl_Chip,T.na_Chip_deeds_left,rfl,rfl,_,rfl,?_⟩
  rw[show lfV m.lf=V.non from by rw[hl];rfl]
  refine iteF ?_
  have hc1:ChipAt t.C_Chip H c a { m with lf:=m.lf.map (· - 1) }:=by
   rw[hl]
   show ChipAt t.C_Chip H c a { m with lf:=none }
   rw[←hl]
   exact hc
  refine⟨_,rfl,c,_,a.dx,_,_,rfl,hc.ins,T.cl_Chip,T.na_Chip_deed_counts,rfl,_,rfl,a.dc,_,b,_,rfl,rfl,SqL.of hc.dc,getI b0 (by omega),_,_,rfl,rfl,a.dc,_,b,b.toNat,rfl,rfl,hc.dc,by rw[hC];exact ixOk b0 (by omega),?_⟩
  rw[←List.map_set]
  have hc2:=hc1.setDc (m.dc.set b.toNat (m.dc.getD b.toNat 0+1))
  have k2:Keep (foot c a) H (upd H a.dc (.lst ((m.dc.set b.toNat (m.dc.getD b.toNat 0+1)).map V.int))):=Keep.upd hc.dc (λ_ z=>by cases z) (by simp[foot])
  generalize upd H a.dc (.lst ((m.dc.set b.toNat (m.dc.getD b.toNat 0+1)).map V.int))=H2 at hc2 k2 ⊢
  obtain⟨rs,er,pr⟩:=hc2.rc
  have ln:rs.length≤1000000:=by
   rw[pr.len]
   exact Nat.le_of_lt hr1
  refine⟨_,rfl,c,_,a.dx,_,_,rfl,hc2.ins,T.cl_Chip,T.na_Chip_record,rfl,.inl ⟨rfl,_,SqL.of er⟩,_,rfl,_,rfl,_,rfl,_,rfl,sz3,λp H3 np sm hp=>?_⟩
  have er3:=sm _ _ er
  refine⟨a.rc,rs,_,rfl,rfl,er3,Nat.lt_of_le_of_lt ln (by decide),?_⟩
  exact⟨_,rfl,_,rfl,iteF (q _ ((hc2.same sm).addRc (d:=(w,pl,!false)) er3 hp) ((k2.trans (Keep.same sm)).trans (Keep.upd (o:=.lst (rs++[.ref p])) er3 (λ_ z=>by cases z) (by simp[foot]))))⟩
noncomputable def qL7(t:Adr):Sp:=λvs H Q E=>∃c a m,∃p:Nat,∃st,vs=[.ref c,.int (p:Int),st]∧ChipAt t.C_Chip H c a m∧m.Ok∧m.rc.length<1000000∧Gd m∧(p:Int)≤m.bl*m.pg-1∧m.bo.getD p .non=.non∧∀H',ChipAt t.C_Chip H' c a (putC m p st)→Keep (foot c a) H H'→Q .non H'
theorem qBI(T:Txt K mg t)(S:Fns K t):S.Chip_put.Ok0 P w mg base 4 (qL7 t):=by
 refine S.Chip_put.F.ok0 q5B λcdv A _ s H vs Q E hr h=>?_
 ·obtain⟨c,a,m,p,st,rfl,hc,ok,hr1,g,p1,hw,q⟩:=h
  refine⟨_,(qB (jA (qT (pv 0) T.cl_Chip T.m_Chip_check_page (zV T S).mono hr S.Chip_check_page.b .nil qK (qA (pv 1) qC))) (qB (qV (i:=3) q5B.nd rfl (Or.inl rfl) (qN q1F (pv 1) (qJ (pv 0) rfl))) (qB (jA (qT (pv 0) T.cl_Chip T.m_Chip_check_deed (zW T S).mono hr S.Chip_check_deed.b .nil qK (qA (pv 3) qC))) (qB (jB (qS q5U (qY jE (qJ (pv 0) rfl) (pv 1) (λ_ _=>rfl)) vS (qU _)) (qE qZ) qQ) (qB (jA (qT (pv 0) T.cl_Chip T.m_Chip_do_deed (q1Z T S).mono hr S.Chip_do_deed.b .nil qK (qA jO (qA (pv 1) (qA (pv 3) (qA (qT (pv 0) T.cl_Chip T.m_Chip_is_spent (q16 T S).mono hr S.Chip_is_spent.b .nil qK (qA (pv 3) qC)) qC)))))) (qE (q3H (pv 2) (q4N (qJ (pv 0) rfl) (pv 1) yU)))))))),?_⟩
  try dsimp-beta-proj-iota-zeta-eta only[wishK,cxK]
  have pg1:=ok.pg1
  have pg2:=ok.pg2
  have nbo:=ok.nbo
  have p0:(0:Int)≤p:=by omega
  obtain⟨b0,b1⟩:=qJE ok p0 p1
  refine⟨_,rfl,c,a.dx,_,rfl,hc.ins,rfl,_,rfl,c,a,m,p,rfl,hc,ok,p0,p1,?_⟩
  refine⟨_,rfl,_,rfl,c,_,a.dx,_,_,rfl,hc.ins,T.cl_Chip,T.na_Chip_pages,rfl,_,_,rfl,rfl,⟨by omega,by omega⟩,?_⟩
  refine⟨_,rfl,c,a.dx,_,rfl,hc.ins,rfl,_,rfl,c,a,m,_,rfl,hc,ok,g,b0,b1,?_⟩
  refine⟨_,rfl,c,_,a.dx,_,_,rfl,hc.ins,T.cl_Chip,T.na_Chip_borne,rfl,_,rfl,a.bo,_,p,_,rfl,rfl,SqL.of hc.bo,getV p0 (by omega),rfl,_,rfl,?_⟩
  rw[mH,hI hw]
  refine iteF ?_
  refine⟨_,rfl,c,a.dx,_,rfl,hc.ins,rfl,_,rfl,_,rfl,_,rfl,c,a.dx,_,rfl,hc.ins,rfl,_,rfl,c,a,m,_,rfl,hc,g,?_⟩
  refine⟨c,a,m,"put",p,_,rfl,hc,ok,g.lf,hr1,b0,b1,λH' hc' k'=>?_⟩
  refine⟨_,rfl,_,rfl,c,_,a.dx,_,_,rfl,hc'.ins,T.cl_Chip,T.na_Chip_borne,rfl,_,rfl,a.bo,_,p,p,rfl,rfl,hc'.bo,ixOk p0 (by show(p:Int)<(m.bo.length:Int);omega),?_⟩
  exact q _ (hc'.setBo (m.bo.set p st)) (k'.trans (Keep.upd hc'.bo (λ_ z=>by cases z) (by simp[foot])))
noncomputable def qJX(t:Adr):Sp:=λvs H Q E=>∃c a m,∃p:Int,vs=[.ref c,.int p]∧ChipAt t.C_Chip H c a m∧m.Ok∧m.lf=none∧0≤p∧p≤m.bl*m.pg-1∧Q (m.bo.getD p.toNat .non) H
theorem q9Z(T:Txt K mg t)(S:Fns K t):S.Chip_read.Ok0 P w mg base 4 (qJX t):=by
 refine S.Chip_read.F.ok0 q9S λcdv A _ s H vs Q E hr h=>?_
 ·obtain⟨c,a,m,p,rfl,hc,ok,hl,p0,p1,q⟩:=h
  refine⟨_,(qB (jA (qT (pv 0) T.cl_Chip T.m_Chip_check_page (zV T S).mono hr S.Chip_check_page.b .nil qK (qA (pv 1) qC))) (qB (jA (jC (pv 0) T.cl_Chip T.m_Chip_check_power (zA T S).mono hr S.Chip_check_power.b .nil qK)) (qE (qL (qY jE (qJ (pv 0) rfl) (pv 1) (λ_ _=>rfl)))))),?_⟩
  try dsimp-beta-proj-iota-zeta-eta only[wishK,cxK]
  have nbo:=ok.nbo
  exact⟨_,rfl,c,a.dx,_,rfl,hc.ins,rfl,_,rfl,c,a,m,p,rfl,hc,ok,p0,p1,_,rfl,c,a.dx,_,rfl,hc.ins,rfl,c,a,m,rfl,hc,hl,_,rfl,c,_,a.dx,_,_,rfl,hc.ins,T.cl_Chip,T.na_Chip_borne,rfl,_,rfl,a.bo,_,p,_,rfl,rfl,SqL.of hc.bo,getV p0 (by omega),q⟩
noncomputable def spCl(t:Adr):Sp:=λvs H Q E=>∃c a m b,vs=[.ref c,.int b]∧ChipAt t.C_Chip H c a m∧m.Ok∧0≤b∧b≤m.bl-1∧Q (.int (m.cl.getD b.toNat 0)) H
theorem q20(T:Txt K mg t)(S:Fns K t):S.Chip_cleared.Ok0 P w mg base 4 (spCl t):=by
 refine S.Chip_cleared.F.ok0 q5G λcdv A _ s H vs Q E hr h=>?_
 ·obtain⟨c,a,m,b,rfl,hc,ok,b0,b1,q⟩:=h
  refine⟨_,(qB (jA (qT (pv 0) T.cl_Chip T.m_Chip_check_block (uG T S).mono hr S.Chip_check_block.b .nil qK (qA (pv 1) qC))) (qE (qL (qY jE (qJ (pv 0) rfl) (pv 1) (λ_ _=>rfl))))),?_⟩
  try dsimp-beta-proj-iota-zeta-eta only[wishK,cxK]
  have n:=ok.ncl
  exact⟨_,rfl,c,a.dx,_,rfl,hc.ins,rfl,_,rfl,c,a,m,b,rfl,hc,b0,b1,_,rfl,c,_,a.dx,_,_,rfl,hc.ins,T.cl_Chip,T.na_Chip_clearings,rfl,_,rfl,a.cl,_,b,_,rfl,rfl,SqL.of hc.cl,getI b0 (by omega),q⟩
noncomputable def spFa(t:Adr):Sp:=λvs H Q E=>∃c a m b,vs=[.ref c,.int b]∧ChipAt t.C_Chip H c a m∧m.Ok∧0≤b∧b≤m.bl-1∧Q (.bl (m.br.getD b.toNat false)) H
theorem q7B(T:Txt K mg t)(S:Fns K t):S.Chip_failed.Ok0 P w mg base 4 (spFa t):=by
 refine S.Chip_failed.F.ok0 q73 λcdv A _ s H vs Q E hr h=>?_
 ·obtain⟨c,a,m,b,rfl,hc,ok,b0,b1,q⟩:=h
  refine⟨_,(qB (jA (qT (pv 0) T.cl_Chip T.m_Chip_check_block (uG T S).mono hr S.Chip_check_block.b .nil qK (qA (pv 1) qC))) (qE (qL (qY jE (qJ (pv 0) rfl) (pv 1) (λ_ _=>rfl))))),?_⟩
  try dsimp-beta-proj-iota-zeta-eta only[wishK,cxK]
  have n:=ok.nbr
  exact⟨_,rfl,c,a.dx,_,rfl,hc.ins,rfl,_,rfl,c,a,m,b,rfl,hc,b0,b1,_,rfl,c,_,a.dx,_,_,rfl,hc.ins,T.cl_Chip,T.na_Chip_broken,rfl,_,rfl,a.br,_,b,_,rfl,rfl,SqL.of hc.br,getB b0 (by omega),q⟩
noncomputable def qJY(t:Adr):Sp:=λvs H Q E=>∃c a m,∃b:Nat,vs=[.ref c,.int (b:Int)]∧ChipAt t.C_Chip H c a m∧m.Ok∧m.rc.length<1000000∧Gd m∧(b:Int)≤m.bl-1∧m.cl.getD b 0<m.mo∧∀H',ChipAt t.C_Chip H' c a (wipC m b)→Keep (foot c a) H H'→Q .non H'
theorem qA0(T:Txt K mg t)(S:Fns K t):S.Chip_wipe.Ok0 P w mg base 4 (qJY t):=by
 refine S.Chip_wipe.F.ok0 zE λcdv A _ s H vs Q E hr h=>?_
 ·obtain⟨c,a,m,b,rfl,hc,ok,hr1,g,b1,hm,q⟩:=h
  refine⟨_,(qB (jA (qT (pv 0) T.cl_Chip T.m_Chip_check_block (uG T S).mono hr S.Chip_check_block.b .nil qK (qA (pv 1) qC))) (qB (jA (qT (pv 0) T.cl_Chip T.m_Chip_check_deed (zW T S).mono hr S.Chip_check_deed.b .nil qK (qA (pv 1) qC))) (qB (qV (i:=2) zE.nd rfl (Or.inl rfl) (qHZ (qT (pv 0) T.cl_Chip T.m_Chip_is_spent (q16 T S).mono hr S.Chip_is_spent.b .nil qK (qA (pv 1) qC)) (q1D (uV qCQ (qY jE (qJ (pv 0) rfl) (pv 1) (λ_ _=>rfl)) (qJ (pv 0) rfl) (qU _))))) (qB (jA (qT (pv 0) T.cl_Chip T.m_Chip_do_deed (q1Z T S).mono hr S.Chip_do_deed.b .nil qK (qA jO (qA (pv 1) (qA (pv 1) (qA (pv 2) qC)))))) (qB (qV (i:=3) zE.nd rfl (Or.inl rfl) (qN yB (pv 1) (qJ (pv 0) rfl))) (qB (q06 gR rfl (qDT rfl T.b_range (qA (pv 3) (qA (qN yI (pv 3) (qJ (pv 0) rfl)) qC))) (qX (i:=4) zE.nd rfl (Or.inl rfl)) (qE (q3H vS (q4N (qJ (pv 0) rfl) (pv 4) yU)))) (qE (q30 (qJ (pv 0) rfl) (pv 1) q0W qG q3I yU)))))))),?_⟩
  try dsimp-beta-proj-iota-zeta-eta only[wishK,cxK]
  have b0:(0:Int)≤b:=by omega
  have pg1:=ok.pg1
  have pg2:=ok.pg2
  have bl1:=ok.bl2
  have nbo:=ok.nbo
  have ncl:=ok.ncl
  refine⟨_,rfl,c,a.dx,_,rfl,hc.ins,rfl,_,rfl,c,a,m,b,rfl,hc,b0,b1,?_⟩
  refine⟨_,rfl,c,a.dx,_,rfl,hc.ins,rfl,_,rfl,c,a,m,b,rfl,hc,ok,g,b0,by omega,?_⟩
  refine⟨_,rfl,c,a.dx,_,rfl,hc.ins,rfl,_,rfl,c,a,m,b,rfl,hc,g,_,rfl,iteF ?_⟩
  refine⟨_,rfl,c,_,a.dx,_,_,rfl,hc.ins,T.cl_Chip,T.na_Chip_clearings,rfl,_,rfl,a.cl,_,b,_,rfl,rfl,SqL.of hc.cl,getI b0 (by omega),_,rfl,c,_,a.dx,_,_,rfl,hc.ins,T.cl_Chip,T.na_Chip_most,rfl,_,_,rfl,rfl,?_⟩
  show q0U 2 (V.bl (decide (m.mo≤m.cl.getD b 0))) _ _ _
  rw[hV (by omega)]
  refine⟨_,rfl,c,a.dx,_,rfl,hc.ins,rfl,_,rfl,_,rfl,_,rfl,c,a,m,"wipe",b,b,rfl,hc,ok,g.lf,hr1,b0,by omega,λH' hc' k'=>?_⟩
  have bp:b*m.pg+m.pg≤m.bl*m.pg:=by
   have:=Int.mul_le_mul_of_nonneg_right (show(b:Int)+1≤m.bl by omega) (show 0≤m.pg by omega)
   rw[Int.add_mul,Int.one_mul]at this
   exact this
  have bq:0≤b*m.pg:=Int.mul_nonneg b0 (by omega)
  have bmax:m.bl*m.pg≤256:=by
   have:=Int.mul_le_mul bl1 pg2 (by omega) (by decide)
   omega
  refine⟨_,rfl,_,rfl,c,_,a.dx,_,.int m.pg,rfl,hc'.ins,T.cl_Chip,T.na_Chip_pages,rfl,_,_,rfl,rfl,.inl ⟨by omega,by omega⟩,?_⟩
  refine⟨_,rfl,_,rfl,_,rfl,c,_,a.dx,_,.int m.pg,rfl,hc'.ins,T.cl_Chip,T.na_Chip_pages,rfl,_,_,rfl,rfl,_,_,rfl,⟨by omega,by omega,by omega,by omega⟩,?_⟩
  refine qDV (λi σ' H1=>∃y,σ'=[some (.ref c),some (.int b),some (.bl false),some (.int (b*m.pg)),y]∧ChipAt t.C_Chip H1 c a { m.deed "wipe" b b false with bo:=clr m.bo (b*m.pg).toNat i }∧Keep (foot c a) H H1) ⟨_,rfl,hc',k'⟩ (λi σ' H1 hi hp=>?_) (λσ' H1 hp=>?_)
  ·obtain⟨y,rfl,h1,k1⟩:=hp
   have hi':(i:Int)<m.pg:=by
    have:i<(b*m.pg+m.pg-b*m.pg).toNat:=hi
    omega
   refine⟨_,rfl,c,_,a.dx,_,_,rfl,h1.ins,T.cl_Chip,T.na_Chip_borne,rfl,_,rfl,a.bo,_,_,(b*m.pg+i).toNat,rfl,rfl,h1.bo,ixOk (by omega) (by rw[q5X];omega),?_⟩
   have e:(b*m.pg+(i:Int)).toNat=(b*m.pg).toNat+i:=by omega
   rw[e]
   exact⟨_,rfl,h1.setBo _,k1.trans (Keep.upd h1.bo (λ_ z=>by cases z) (by simp[foot]))⟩
  ·obtain⟨y,rfl,h1,k1⟩:=hp
   have e:(b*m.pg+m.pg-b*m.pg).toNat=m.pg.toNat:=by omega
   rw[e]at h1
   refine⟨_,rfl,c,_,a.dx,_,_,rfl,h1.ins,T.cl_Chip,T.na_Chip_clearings,rfl,_,rfl,a.cl,_,b,_,rfl,rfl,SqL.of h1.cl,getI b0 (by show(b:Int)<(m.cl.length:Int);omega),_,_,rfl,rfl,a.cl,_,b,b,rfl,rfl,h1.cl,by rw[hC];exact ixOk b0 (by show(b:Int)<(m.cl.length:Int);omega),?_⟩
   rw[←List.map_set]
   exact q _ (h1.setCl _) (k1.trans (Keep.upd h1.cl (λ_ z=>by cases z) (by simp[foot])))
noncomputable def qL8(K:W.Frag):Sp:=λvs H Q E=>∃l bl,vs=[.ref l,.int bl]∧SqL K H l []∧NewO H (.dK []) Q
theorem qA1(T:Txt K mg t)(S:Fns K t):S.limits_of.Ok0 P w mg base 3 (qL8 K):=by
 refine S.limits_of.F.ok0 zD λcdv A _ s H vs Q E hr h=>?_
 ·obtain⟨l,bl,rfl,sq,q⟩:=h
  refine⟨_,(qB (qV (i:=2) zD.nd rfl (Or.inl rfl) q6G) (qB (q06 gR rfl (jP (pv 0)) (q94 rfl (yE (qX (i:=3) zD.nd rfl (Or.inl rfl)) (yE (qX (i:=4) zD.nd rfl (Or.inl rfl)) q1E))) (qB qZ (qB qZ (qB qZ (qE qZ))))) (qE (qL (pv 2))))),?_⟩
  try dsimp-beta-proj-iota-zeta-eta only[wishK,cxK]
  refine λp np=>?_
  have s0:Same H (upd H p (.dK [])):=Same.upd np
  refine⟨_,rfl,l,rfl,⟨[],s0.seq sq⟩,vL (K:=K) (xs:=[]) (λ_ σ' H1=>(∃y z,σ'=[some (.ref l),some (.int bl),some (.ref p),y,z])∧H1=upd H p (.dK [])) ⟨⟨_,_,rfl⟩,rfl⟩ (λi σ' H1 _ hp=>by rw[hp.2];exact s0.seq sq) (λi x σ' H1 hx _=>by simp at hx) (λσ' H1 hp=>?_)⟩
  obtain⟨⟨y,z,rfl⟩,rfl⟩:=hp
  exact⟨_,rfl,q p _ np s0 qH⟩
structure Wm(C x dx:Addr)(H G:Hp)(fs:List (Str×V))(os:List (Addr×HO)):Prop where
 i:G x=some (.ins C dx fs)
 u:Up x H G
 o:∀p∈os,G p.1=some p.2∧H p.1=none∧p.1≠x
 n:(os.map (·.1)).Nodup
section
variable{C x dx:Addr}{H G B:Hp}{fs fs':List (Str×V)}{os:List (Addr×HO)}
theorem Wm.same(h:Wm C x dx H G fs os)(s:Same G B):Wm C x dx H B fs os:=⟨s _ _ h.i,λb o n e=>s _ _ (h.u b o n e),λp hp=>⟨s _ _ (h.o p hp).1,(h.o p hp).2⟩,h.n⟩
theorem Wm.add(h:Wm C x dx H G fs os){a:Addr}{o:HO}(na:G a=none)(s:Same G B)(e:B a=some o):Wm C x dx H B fs (os++[(a,o)]):=by
 have ax:a≠x:=λz=>by rw[z,h.i]at na;cases na
 have w:=h.same s
 refine⟨w.i,w.u,λp hp=>?_,?_⟩
 ·rcases gF.mp hp with hp|hp
  ·exact w.o p hp
  ·rw[kC.mp hp]
   exact⟨e,Up.free h.u ax na,ax⟩
 ·rw[kU]
  refine List.nodup_append.mpr ⟨h.n,by simp,λb hb c hc=>?_⟩
  obtain⟨p,hp,rfl⟩:=kX.mp hb
  obtain rfl:c=a:=by simpa using hc
  exact qI (h.o p hp).1 na
theorem Wm.set(h:Wm C x dx H G fs os):Wm C x dx H (upd G x (.ins C dx fs')) fs' os:=⟨qH,λb o n e=>by rw[qD n];exact h.u b o n e,λp hp=>⟨by rw[qD (h.o p hp).2.2];exact(h.o p hp).1,(h.o p hp).2⟩,h.n⟩
theorem Wm.fr(h:Wm C x dx H G fs os)(a:Addr)(ha:a∈os.map (·.1)):H a=none:=by
 obtain⟨p,hp,rfl⟩:=kX.mp ha
 exact(h.o p hp).2.1
theorem Wm.put(h:Wm C x dx H G fs os)(f:Str)(v:V):Wm C x dx H (upd G x (.ins C dx (putF f v fs))) (putF f v fs) os:=h.set
end
noncomputable def spMk(t:Adr):Sp:=λvs H Q E=>∃x dx,∃b p m:Int,vs=[.ref x,.int b,.int p,.int m,.non]∧H x=some (.ins t.C_Chip dx [])∧2≤b∧b≤16∧1≤p∧p≤16∧0≤m∧m≤1000000∧
 ∀a H',ChipAt t.C_Chip H' x a (CM.new b p m [])→(∀b∈[a.li,a.bo,a.cl,a.dc,a.br,a.rc],H b=none)→Up x H H'→Q .non H'
theorem qA2(T:Txt K mg t)(S:Fns K t):FnOk P w K mg base (CX0) 4 t.f_Chip_init S.fd_Chip_init ["self","blocks","pages","most","ills"] (spMk t):=by
 refine S.F_Chip_init.ok0 q9R λcdv A _ s H vs Q E hr h=>?_
 ·obtain⟨x,dx,b,p,m,rfl,hx,b1,b2,p1,p2,m1,m2,q⟩:=h
  refine⟨_,(qB (jB (yL (jW (qM (q5C T S).mono hr rfl T.mg_is_shape T.kp_is_shape S.is_shape.b .nil qK (qA (pv 1) (qA (pv 2) qC))))) (qE qZ) qQ) (qB (jB (yL (jW (qM (jD T S).mono hr rfl T.mg_is_within T.kp_is_within S.is_within.b .nil qK (qA (pv 3) (qA qG (qA (q1B rfl T.mg_MOST_TOLD ⟨_,rfl⟩ (v:=.int 1000000)) qC)))))) (qE qZ) qQ) (qB (jK (pv 0) (pv 1) rfl) (qB (jK (pv 0) (pv 2) rfl) (qB (jK (pv 0) (pv 3) rfl) (qB (jK (pv 0) (qM (qA1 T S).mono hr rfl T.mg_limits_of T.kp_limits_of S.limits_of.b .nil qK (qA (qEQ (qS qBY (pv 4) vS (qU _)) (jF qC) (pv 4)) (qA (pv 1) qC))) rfl) (qB (jK (pv 0) (qN q00 (jF (qA vS qC)) (qN yB (pv 1) (pv 2))) rfl) (qB (jK (pv 0) (qN q00 (jF (qA qG qC)) (pv 1)) rfl) (qB (jK (pv 0) (qN q00 (jF (qA qG qC)) (pv 1)) rfl) (qB (jK (pv 0) (qN q00 (jF (qA q3B qC)) (pv 1)) rfl) (qB (jK (pv 0) vS rfl) (qE (jK (pv 0) (jF qC) rfl))))))))))))),?_⟩
  try dsimp-beta-proj-iota-zeta-eta only[wishK,cxK]
  refine⟨_,rfl,_,rfl,.int b,.int p,rfl,.int b,.int p,_,rfl,?_⟩
  rw[inBi b1 b2,inBi p1 p2]
  refine iteF ?_
  refine⟨_,rfl,.int m,_,_,rfl,.int m,_,rfl,?_⟩
  rw[inBi m1 m2]
  refine iteF ?_
  have bp:b*p≤256:=Int.mul_le_mul b2 p2 (by omega) (by decide)
  have bp0:0≤b*p:=Int.mul_nonneg (by omega) (by omega)
  refine⟨_,rfl,_,rfl,x,_,dx,_,rfl,hx,T.cl_Chip,T.na_Chip_blocks,by simp,?_⟩
  have w1:Wm t.C_Chip x dx H (upd H x (.ins t.C_Chip dx (putF "blocks" (.int b) []))) (putF "blocks" (.int b) []) []:=⟨qH,Up.of (Same.refl H),by simp,by simp⟩
  refine⟨_,rfl,_,rfl,x,_,dx,_,rfl,w1.i,T.cl_Chip,T.na_Chip_pages,by show 1<1000;decide,?_⟩
  have w2:=w1.put "pages" (.int p)
  refine⟨_,rfl,_,rfl,x,_,dx,_,rfl,w2.i,T.cl_Chip,T.na_Chip_most,by show 2<1000;decide,?_⟩
  have w3:=w2.put "most" (.int m)
  refine⟨_,rfl,rfl,_,rfl,iteT ⟨sz0,λl0 H2 n0 s0 e0=>?_⟩⟩
  refine⟨_,rfl,l0,b,rfl,SqL.of e0,λli H3 n1 s1 e1=>?_⟩
  have w4:=(w3.same s0).add n1 s1 e1
  refine⟨_,rfl,x,_,dx,_,rfl,w4.i,T.cl_Chip,T.na_Chip_limits,by show 3<1000;decide,?_⟩
  have w4:=w4.put "limits" (.ref li)
  refine⟨sz1,λwa A1 n1 s1 e1=>⟨_,rfl,_,rfl,_,_,rfl,rfl,.inl ⟨by omega,by omega⟩,wa,_,_,rfl,rfl,e1,by omega,by omega,λbo B1 m1 r1 hbo=>?_⟩⟩
  have w5:=(w4.same s1).add m1 r1 hbo
  refine⟨_,rfl,x,_,dx,_,rfl,w5.i,T.cl_Chip,T.na_Chip_borne,by show 4<1000;decide,?_⟩
  have w5:=w5.put "borne" (.ref bo)
  refine⟨sz1,λwa A2 n2 s2 e2=>⟨_,rfl,wa,_,_,rfl,rfl,e2,by omega,by omega,λcl B2 m2 r2 hcl=>?_⟩⟩
  have w6:=(w5.same s2).add m2 r2 hcl
  refine⟨_,rfl,x,_,dx,_,rfl,w6.i,T.cl_Chip,T.na_Chip_clearings,by show 5<1000;decide,?_⟩
  have w6:=w6.put "clearings" (.ref cl)
  refine⟨sz1,λwa A3 n3 s3 e3=>⟨_,rfl,wa,_,_,rfl,rfl,e3,by omega,by omega,λdc B3 m3 r3 hdc=>?_⟩⟩
  have w7:=(w6.same s3).add m3 r3 hdc
  refine⟨_,rfl,x,_,dx,_,rfl,w7.i,T.cl_Chip,T.na_Chip_deed_counts,by show 6<1000;decide,?_⟩
  have w7:=w7.put "deed_counts" (.ref dc)
  refine⟨sz1,λwa A4 n4 s4 e4=>⟨_,rfl,wa,_,_,rfl,rfl,e4,by omega,by omega,λbr B4 m4 r4 hbr=>?_⟩⟩
  have w8:=(w7.same s4).add m4 r4 hbr
  refine⟨_,rfl,x,_,dx,_,rfl,w8.i,T.cl_Chip,T.na_Chip_broken,by show 7<1000;decide,?_⟩
  have w8:=w8.put "broken" (.ref br)
  refine⟨_,rfl,x,_,dx,_,rfl,w8.i,T.cl_Chip,T.na_Chip_deeds_left,by show 8<1000;decide,?_⟩
  have w9:=w8.put "deeds_left" .non
  refine⟨sz0,λrc B5 m5 r5 hrc=>?_⟩
  have w:=w9.add m5 r5 hrc
  refine⟨_,rfl,x,_,dx,_,rfl,w.i,T.cl_Chip,T.na_Chip_record,by show 9<1000;decide,?_⟩
  have w:=w.set (fs':=chF ⟨dx,li,bo,cl,dc,br,rc⟩ (CM.new b p m []))
  refine q ⟨dx,li,bo,cl,dc,br,rc⟩ _ ⟨w.i,(w.o (li,.dK []) (by simp)).1,(w.o (bo,.lst (List.replicate (b*p).toNat .non)) (by simp)).1,?_,?_,?_,⟨[],(w.o (rc,.lst []) (by simp)).1,.nil⟩,(mQ.mp (show(li::[bo,cl,dc,br,rc]).Nodup from w.n)).2⟩ (λb' hb'=>w.fr b' hb') w.u
  ·show _=some (HO.lst ((List.replicate b.toNat (0:Int)).map V.int))
   rw[List.map_replicate]
   exact(w.o (cl,.lst (List.replicate b.toNat (.int 0))) (by simp)).1
  ·show _=some (HO.lst ((List.replicate b.toNat (0:Int)).map V.int))
   rw[List.map_replicate]
   exact(w.o (dc,.lst (List.replicate b.toNat (.int 0))) (by simp)).1
  ·show _=some (HO.lst ((List.replicate b.toNat false).map V.bl))
   rw[List.map_replicate]
   exact(w.o (br,.lst (List.replicate b.toNat (.bl false))) (by simp)).1
theorem qA3(T:Txt K mg t)(S:Fns K t):S.law_whole.Ok0 P w mg base 1 qCY:=by
 refine S.law_whole.F.ok0 q9Y λcdv A _ s H vs Q E hr h=>?_
 ·obtain⟨x,rfl,kn,k⟩:=h
  refine⟨_,(qE (qL (q3G (qW yQ (by rfl) T.b_isinstance (by kernel_rfl) (qA (pv 0) (qA (q1C rfl T.b_int (by kernel_rfl) rfl (v:=.ty "int")) qC))) (q1D (qBW (qW yQ (by rfl) T.b_isinstance (by kernel_rfl) (qA (pv 0) (qA (q1C rfl T.b_bool (by kernel_rfl) rfl (v:=.ty "bool")) qC)))))))),?_⟩
  try dsimp-beta-proj-iota-zeta-eta only[wishK,cxK]
  obtain⟨ty,q,e1,e2,_⟩:=kn.ty (K:=K)
  refine⟨_,rfl,x,_,_,ty,_,rfl,rfl,.inl q,e1,_,rfl,?_⟩
  have z:=qFC x
  cases qi:isI x with
  |true=>
   rw[qi,kG rfl]at z
   refine iteT ?_
   refine⟨_,rfl,x,_,_,ty,_,rfl,rfl,.inl q,e2,_,rfl,?_⟩
   rw[z]
   exact k
  |false=>
   rw[qi]at z
   refine iteF ?_
   have z':false=isW x:=z
   rw[z']
   exact k
noncomputable def qL9(t:Adr):Sp:=λvs H Q E=>∃x dx fs b e,vs=[.ref x]∧H x=some (.ins t.C_Terms dx fs)∧fs.lookup (Str.ofString "blocks")=some (.int b)∧fs.lookup (Str.ofString "ill")=some (.int e)∧Q (.int (b-1-e)) H
theorem q5P(T:Txt K mg t)(S:Fns K t):S.Terms_closed.Ok0 P w mg base 1 (qL9 t):=by
 refine S.Terms_closed.F.ok0 q5K λcdv A _ s H vs Q E hr h=>?_
 ·obtain⟨x,dx,fs,b,e,rfl,hx,l1,l2,q⟩:=h
  refine⟨_,(qE (qL (qN jR (qN jR (qJ (pv 0) rfl) qG) (qJ (pv 0) rfl)))),?_⟩
  try dsimp-beta-proj-iota-zeta-eta only[wishK,cxK]
  exact⟨_,rfl,x,_,dx,_,_,rfl,hx,T.cl_Terms,T.na_Terms_blocks,l1,_,_,rfl,rfl,_,rfl,x,_,dx,_,_,rfl,hx,T.cl_Terms,T.na_Terms_ill,l2,_,_,rfl,rfl,q⟩
noncomputable def teF(r0 r1 r2 r3 r4 r5:V):List (Str×V):=[("blocks",r0),("pages",r1),("sheets",r2),("share",r3),("ill",r4),("spread",r5)]
noncomputable def spTm(t:Adr):Sp:=λvs H Q E=>∃x dx,∃b p s r e d:Int,vs=[.ref x,.int b,.int p,.int s,.int r,.int e,.int d]∧H x=some (.ins t.C_Terms dx [])∧2≤b∧b≤16∧1≤p∧p≤16∧1≤s∧s≤64∧1≤r∧r≤(b-1-e)*p-2∧0≤e∧e≤b-2∧1≤d∧d≤1000000∧
 ∀H',H' x=some (.ins t.C_Terms dx (teF (.int b) (.int p) (.int s) (.int r) (.int e) (.int d)))→Up x H H'→Q .non H'
theorem q86(T:Txt K mg t)(S:Fns K t):FnOk P w K mg base (CX0) 4 t.f_Terms_init S.fd_Terms_init ["self","blocks","pages","sheets","share","ill","spread"] (spTm t):=by
 refine S.F_Terms_init.ok0 q83 λcdv A _ s H vs Q E hr h=>?_
 ·obtain⟨x,dx,b,p,s',r,e,d,rfl,hx,b1,b2,p1,p2,s1,s2,r1,r2,e1,e2,d1,d2,q⟩:=h
  refine⟨_,(qB (jB (yL (jW (qM (q5C T S).mono hr rfl T.mg_is_shape T.kp_is_shape S.is_shape.b .nil qK (qA (pv 1) (qA (pv 2) qC))))) (qE qZ) qQ) (qB (jB (yL (jW (qM (jD T S).mono hr rfl T.mg_is_within T.kp_is_within S.is_within.b .nil qK (qA (pv 3) (qA qG (qA qG qC)))))) (qE qZ) qQ) (qB (jB (yL (jW (qM (jD T S).mono hr rfl T.mg_is_within T.kp_is_within S.is_within.b .nil qK (qA (pv 5) (qA qG (qA (qN jR (pv 1) qG) qC)))))) (qE qZ) qQ) (qB (jB (yL (jW (qM (jD T S).mono hr rfl T.mg_is_within T.kp_is_within S.is_within.b .nil qK (qA (pv 6) (qA qG (qA (q1B rfl T.mg_MOST_TOLD ⟨_,rfl⟩ (v:=.int 1000000)) qC)))))) (qE qZ) qQ) (qB (jK (pv 0) (pv 1) rfl) (qB (jK (pv 0) (pv 2) rfl) (qB (jK (pv 0) (pv 3) rfl) (qB (jK (pv 0) (pv 4) rfl) (qB (jK (pv 0) (pv 5) rfl) (qB (jK (pv 0) (pv 6) rfl) (qE (jB (yL (jW (qM (jD T S).mono hr rfl T.mg_is_within T.kp_is_within S.is_within.b .nil qK (qA (pv 4) (qA qG (qA (qN jR (qN yB (jC (pv 0) T.cl_Terms T.m_Terms_closed (q5P T S).mono hr S.Terms_closed.b .nil qK) (pv 2)) qG) qC)))))) (qE qZ) qQ)))))))))))),?_⟩
  try dsimp-beta-proj-iota-zeta-eta only[wishK,cxK]
  refine⟨_,rfl,_,rfl,.int b,.int p,rfl,.int b,.int p,_,rfl,?_⟩
  rw[inBi b1 b2,inBi p1 p2]
  refine iteF ⟨_,rfl,.int s',_,_,rfl,.int s',_,rfl,?_⟩
  rw[inBi s1 s2]
  refine iteF ⟨_,rfl,_,rfl,_,_,rfl,rfl,.int e,_,_,rfl,.int e,_,rfl,?_⟩
  rw[inBi e1 e2]
  refine iteF ⟨_,rfl,.int d,_,_,rfl,.int d,_,rfl,?_⟩
  rw[inBi d1 d2]
  refine iteF ⟨_,rfl,_,rfl,x,_,dx,_,rfl,hx,T.cl_Terms,T.na_Terms_blocks,by simp,?_⟩
  have w1:Wm t.C_Terms x dx H (upd H x (.ins t.C_Terms dx (putF "blocks" (.int b) []))) (putF "blocks" (.int b) []) []:=⟨qH,Up.of (Same.refl H),by simp,by simp⟩
  refine⟨_,rfl,_,rfl,x,_,dx,_,rfl,w1.i,T.cl_Terms,T.na_Terms_pages,by show 1<1000;decide,?_⟩
  have w2:=w1.put "pages" (.int p)
  refine⟨_,rfl,_,rfl,x,_,dx,_,rfl,w2.i,T.cl_Terms,T.na_Terms_sheets,by show 2<1000;decide,?_⟩
  have w3:=w2.put "sheets" (.int s')
  refine⟨_,rfl,_,rfl,x,_,dx,_,rfl,w3.i,T.cl_Terms,T.na_Terms_share,by show 3<1000;decide,?_⟩
  have w4:=w3.put "share" (.int r)
  refine⟨_,rfl,_,rfl,x,_,dx,_,rfl,w4.i,T.cl_Terms,T.na_Terms_ill,by show 4<1000;decide,?_⟩
  have w5:=w4.put "ill" (.int e)
  refine⟨_,rfl,_,rfl,x,_,dx,_,rfl,w5.i,T.cl_Terms,T.na_Terms_spread,by show 5<1000;decide,?_⟩
  have w:=w5.put "spread" (.int d)
  refine⟨_,rfl,_,rfl,x,dx,_,rfl,w.i,rfl,x,dx,_,b,e,rfl,w.i,rfl,rfl,_,rfl,_,_,rfl,rfl,.inr ⟨by omega,by omega⟩,_,_,rfl,rfl,.int r,_,_,rfl,.int r,_,rfl,?_⟩
  rw[inBi r1 r2]
  exact iteF (q _ w.i w.u)
theorem qLA{H:Hp}{b p s r e d:Int}{Q:Addr→Hp→Prop}{E:XK}(b1:2≤b)(b2:b≤16)(p1:1≤p)(p2:p≤16)(s1:1≤s)(s2:s≤64)(r1:1≤r)(r2:r≤(b-1-e)*p-2)(e1:0≤e)(e2:e≤b-2)(d1:1≤d)(d2:d≤1000000)
 (q:∀x dx H',Same H H'→H' x=some (.ins t.C_Terms dx (teF (.int b) (.int p) (.int s) (.int r) (.int e) (.int d)))→Q x H') (x dx:Addr) (nx:H x=none) (ndx:H dx=none) (ne:dx≠x):
 spTm t [.ref x,.int b,.int p,.int s,.int r,.int e,.int d] (upd (upd H dx (.own x)) x (.ins t.C_Terms dx [])) (λv H2=>v=.non∧Q x H2) E:=by
 have s0:Same H (upd (upd H dx (.own x)) x (.ins t.C_Terms dx [])):=λb o e=>by rw[qD (qI e nx),qD (qI e ndx)];exact e
 exact⟨x,dx,b,p,s,r,e,d,rfl,qH,b1,b2,p1,p2,s1,s2,r1,r2,e1,e2,d1,d2,λH' h u=>⟨rfl,q x dx H' (λb o e=>u b o (qI e nx) (s0 b o e)) h⟩⟩
noncomputable def qLB:Sp:=λvs H Q _=>∃s n,vs=[.int s,.int n]∧Q (.int (s*128+n)) H
theorem qCI(T:Txt K mg t)(S:Fns K t):S.mark_of.Ok0 P w mg base 1 qLB:=by
 refine S.mark_of.F.ok0 qCG λcdv A _ s H vs Q E hr h=>?_
 ·obtain⟨s',n,rfl,q⟩:=h
  refine⟨_,(qE (qL (qN yI (qN yB (pv 0) (q1B rfl T.mg_NAMES ⟨_,rfl⟩ (v:=.int 128))) (pv 1)))),?_⟩
  try dsimp-beta-proj-iota-zeta-eta only[wishK,cxK]
  exact⟨_,rfl,_,_,rfl,rfl,.inr ⟨by decide,by decide⟩,_,rfl,_,_,rfl,rfl,q⟩
structure BkA where
 bk:Addr
 dx:Addr
 wv:Addr
 lv:Addr
 fi:Addr
 bo:Addr
structure BkAt(t:Adr)(H:Hp)(a:BkA)(m:QM):Prop where
 o:H a.bk=some (.ins t.C_Book a.dx [("blocks",.int (m.B:Int)),("pages",.int (m.P:Int)),("stamp",.int m.nx),("where",.ref a.wv),("live",.ref a.lv),("filled",.ref a.fi),("born",.ref a.bo)])
 w:H a.wv=some (.dK (dI m.V))
 l:H a.lv=some (.lst (m.lv.map V.int))
 f:H a.fi=some (.lst (m.fi.map V.int))
 b:H a.bo=some (.lst (m.bo.map V.int))
structure Dst(a:BkA):Prop where
 lf:a.lv≠a.fi
 lb:a.lv≠a.bo
 fb:a.fi≠a.bo
theorem BkAt.same{t:Adr}{H H':Hp}{a:BkA}{m:QM}(h:BkAt t H a m)(s:Same H H'):BkAt t H' a m:=⟨s _ _ h.o,s _ _ h.w,s _ _ h.l,s _ _ h.f,s _ _ h.b⟩
theorem BkAt.keep{t:Adr}{H H':Hp}{a:BkA}{m:QM}{F:List Addr}(h:BkAt t H a m)(k:Keep F H H')(n:∀b∈[a.bk,a.wv,a.lv,a.fi,a.bo],b∉F):BkAt t H' a m:=
 ⟨k.k _ _ (n _ (by simp)) h.o,k.k _ _ (n _ (by simp)) h.w,k.k _ _ (n _ (by simp)) h.l,k.k _ _ (n _ (by simp)) h.f,k.k _ _ (n _ (by simp)) h.b⟩
noncomputable def bk0(B P:Nat):QM:=⟨P,B,1,[],List.replicate B 0,List.replicate B 0,List.replicate B 0⟩
noncomputable def qLC(t:Adr):Sp:=λvs H Q _=>∃x dx B P,vs=[.ref x,.int (B:Nat),.int (P:Nat)]∧B≤16∧H x=some (.ins t.C_Book dx [])∧
 ∀(a:BkA) H',a.bk=x→a.dx=dx→BkAt t H' a (bk0 B P)→Dst a→(∀b∈[a.wv,a.lv,a.fi,a.bo],H b=none)→(∀b o,b≠x→H b=some o→H' b=some o)→Q .non H'
theorem qA4(T:Txt K mg t)(S:Fns K t):S.Book_init.Ok0 P w mg base 1 (qLC t):=by
 refine S.Book_init.F.ok0 q9T λcdv A _ s H vs Q E hr h=>?_
 ·obtain⟨x,dx,B,P,rfl,hB,hx,q⟩:=h
  refine⟨_,(qB (jK (pv 0) (pv 1) rfl) (qB (jK (pv 0) (pv 2) rfl) (qB (jK (pv 0) qG rfl) (qB (jK (pv 0) q6G rfl) (qB (jK (pv 0) (qN q00 (jF (qA qG qC)) (pv 1)) rfl) (qB (jK (pv 0) (qN q00 (jF (qA qG qC)) (pv 1)) rfl) (qE (jK (pv 0) (qN q00 (jF (qA qG qC)) (pv 1)) rfl)))))))),?_⟩
  try dsimp-beta-proj-iota-zeta-eta only[wishK,cxK]
  refine⟨_,rfl,_,rfl,x,_,dx,_,rfl,hx,T.cl_Book,T.na_Book_blocks,by decide,?_⟩
  refine⟨_,rfl,_,rfl,x,_,dx,_,rfl,qH,T.cl_Book,T.na_Book_pages,by show 1<1000;decide,?_⟩
  refine⟨_,rfl,x,_,dx,_,rfl,qH,T.cl_Book,T.na_Book_stamp,by show 2<1000;decide,?_⟩
  rw[uI,uI]
  have w1:Wm t.C_Book x dx H (upd H x (.ins t.C_Book dx (putF "stamp" (.int 1) (putF "pages" (.int (P:Int)) (putF "blocks" (.int (B:Int)) []))))) (putF "stamp" (.int 1) (putF "pages" (.int (P:Int)) (putF "blocks" (.int (B:Int)) []))) []:=⟨qH,Up.of (Same.refl H),by simp,by simp⟩
  have rep:∀n:Nat,List.replicate n (V.int 0)=(List.replicate n (0:Int)).map V.int:=λn=>by rw[List.map_replicate]
  have eB:((B:Int)).toNat=B:=by omega
  refine λwv nwv=>?_
  have w2:=w1.add nwv (Same.upd (o:=.dK []) nwv) qH
  refine⟨_,rfl,x,_,dx,_,rfl,w2.i,T.cl_Book,T.na_Book_where,by show 3<1000;decide,?_⟩
  have w2:=w2.put "where" (.ref wv)
  refine⟨sz1,λwa A3 n3 s3 e3=>⟨_,rfl,wa,_,_,rfl,rfl,e3,by omega,by omega,λlv B3 m3 r3 hlv=>?_⟩⟩
  rw[eB,rep]at hlv
  have w3:=(w2.same s3).add m3 r3 hlv
  refine⟨_,rfl,x,_,dx,_,rfl,w3.i,T.cl_Book,T.na_Book_live,by show 4<1000;decide,?_⟩
  have w3:=w3.put "live" (.ref lv)
  refine⟨sz1,λwa A4 n4 s4 e4=>⟨_,rfl,wa,_,_,rfl,rfl,e4,by omega,by omega,λfi B4 m4 r4 hfi=>?_⟩⟩
  rw[eB,rep]at hfi
  have w4:=(w3.same s4).add m4 r4 hfi
  refine⟨_,rfl,x,_,dx,_,rfl,w4.i,T.cl_Book,T.na_Book_filled,by show 5<1000;decide,?_⟩
  have w4:=w4.put "filled" (.ref fi)
  refine⟨sz1,λwa A5 n5 s5 e5=>⟨_,rfl,wa,_,_,rfl,rfl,e5,by omega,by omega,λbo B5 m5 r5 hbo=>?_⟩⟩
  rw[eB,rep]at hbo
  have w5:=(w4.same s5).add m5 r5 hbo
  refine⟨_,rfl,x,_,dx,_,rfl,w5.i,T.cl_Book,T.na_Book_born,by show 6<1000;decide,?_⟩
  have w5:=w5.put "born" (.ref bo)
  have nd:[wv,lv,fi,bo].Nodup:=w5.n
  simp only[mQ,kI,gG,not_or,or_false]at nd
  exact q ⟨x,dx,wv,lv,fi,bo⟩ _ rfl rfl ⟨w5.i,(w5.o (wv,.dK []) (by simp)).1,(w5.o (lv,.lst ((List.replicate B (0:Int)).map V.int)) (by simp)).1,(w5.o (fi,.lst ((List.replicate B (0:Int)).map V.int)) (by simp)).1,(w5.o (bo,.lst ((List.replicate B (0:Int)).map V.int)) (by simp)).1⟩ ⟨nd.2.1.1,nd.2.1.2,nd.2.2.1⟩ (λb' hb'=>w5.fr b' hb') w5.u
noncomputable def qJZ(t:Adr):Sp:=λvs H Q _=>∃a,∃m:QM,∃n,vs=[.ref a.bk,.int n]∧BkAt t H a m∧Q (.int (m.nx*128+n)) H
theorem qA5(T:Txt K mg t)(S:Fns K t):S.Book_mark.Ok0 P w mg base 2 (qJZ t):=by
 refine S.Book_mark.F.ok0 q9U λcdv A _ s H vs Q E hr h=>?_
 ·obtain⟨a,m,n,rfl,hb,q⟩:=h
  refine⟨_,(qE (qL (qM (qCI T S).mono hr rfl T.mg_mark_of T.kp_mark_of S.mark_of.b .nil qK (qA (qJ (pv 0) rfl) (qA (pv 1) qC))))),?_⟩
  try dsimp-beta-proj-iota-zeta-eta only[wishK,cxK]
  exact⟨_,rfl,a.bk,_,a.dx,_,_,rfl,hb.o,T.cl_Book,T.na_Book_stamp,rfl,_,rfl,_,_,rfl,q⟩
noncomputable def spFg(t:Adr):Sp:=λvs H Q _=>∃a,∃m:QM,∃n,vs=[.ref a.bk,.int n]∧BkAt t H a m∧m.Ok∧Dst a∧∀H',BkAt t H' a (m.forget n)→Keep [a.wv,a.lv] H H'→Q .non H'
theorem q7C(T:Txt K mg t)(S:Fns K t):S.Book_forget.Ok0 P w mg base 1 (spFg t):=by
 refine S.Book_forget.F.ok0 q2R λcdv A _ s H vs Q E hr h=>?_
 ·obtain⟨a,m,n,rfl,hb,ok,ds,q⟩:=h
  have hu:=q1X hr
  have p1:=ok.p1
  have p2:=ok.p2
  have ob:a.bk≠a.wv:=jV hb.o hb.w (by intro z;cases z)
  have ol:a.bk≠a.lv:=jV hb.o hb.l (by intro z;cases z)
  have wl:a.wv≠a.lv:=jV hb.w hb.l (by intro z;cases z)
  have wf:a.fi≠a.wv:=jV hb.f hb.w (by intro z;cases z)
  have wb:a.bo≠a.wv:=jV hb.b hb.w (by intro z;cases z)
  refine⟨_,(qE (jB (qIJ (qF9 hu (pv 1) (qJ (pv 0) rfl))) (qB (qV (i:=2) q2R.nd rfl (Or.inl rfl) (qFA (qJ (pv 0) rfl) (pv 1) ⟨rfl,rfl,rfl,rfl⟩)) (qE (q30 (qJ (pv 0) rfl) (qN q1F (pv 2) (qJ (pv 0) rfl)) q0W qG qIL yU))) qQ)),?_⟩
  try dsimp-beta-proj-iota-zeta-eta only[wishK,cxK]
  refine⟨_,rfl,_,rfl,a.bk,_,a.dx,_,_,rfl,hb.o,T.cl_Book,T.na_Book_where,rfl,a.wv,_,rfl,DGet.k (k:=Sum.inl n) hb.w,_,rfl,?_⟩
  rcases QM.find_V (m:=m) (n:=n)with⟨p,hp,ef⟩|⟨hn,ef⟩
  ·have hv:(n,p)∈m.V:=hp
   rw[q60 ok.nd hv]
   refine iteT ?_
   refine⟨_,rfl,a.bk,_,a.dx,_,_,rfl,hb.o,T.cl_Book,T.na_Book_where,rfl,a.wv,rfl,.inl ⟨_,.inl hb.w⟩,_,rfl,_,Sum.inl n,_,hb.w,rfl,q60 ok.nd hv,?_⟩
   rw[qFZ]
   have k1:Keep [a.wv,a.lv] H (upd H a.wv (.dK (dI (y9 m.V n)))):=Keep.upd hb.w (λ_ z=>by cases z) (by simp)
   have w1:(upd H a.wv (.dK (dI (y9 m.V n)))) a.wv=some (.dK (dI (y9 m.V n))):=qH
   have u1:∀b o,b≠a.wv→H b=some o→(upd H a.wv (.dK (dI (y9 m.V n)))) b=some o:=λb o nb e=>by
    rw[qD nb]
    exact e
   generalize upd H a.wv (.dK (dI (y9 m.V n)))=H1 at k1 w1 u1 ⊢
   obtain⟨c,hc,ec⟩:=ok.blk _ hp
   have ec:p / (m.P:Int)=(c:Int):=ec
   have hcl:c<m.lv.length:=by rw[ok.ll];exact hc
   have l1:=u1 _ _ wl.symm hb.l
   refine⟨_,rfl,a.bk,_,a.dx,_,_,rfl,u1 _ _ ob hb.o,T.cl_Book,T.na_Book_live,rfl,_,rfl,_,rfl,a.bk,_,a.dx,_,_,rfl,u1 _ _ ob hb.o,T.cl_Book,T.na_Book_pages,rfl,_,_,rfl,rfl,⟨by omega,by omega⟩,a.lv,_,_,_,rfl,rfl,SqL.of l1,(by rw[ec];exact atV hcl),_,_,rfl,rfl,a.lv,_,_,c,rfl,rfl,l1,(by rw[ec];exact q28 (by rw[hC];exact hcl)),?_⟩
   rw[setV]
   have el:(m.forget n).lv=m.lv.set c (m.lv.getD c 0-1):=by
    show BM.lvF m.P m.V m.lv n=_
    unfold BM.lvF
    rw[ef]
    show m.lv.set (p / (m.P:Int)).toNat (m.lv.getD (p / (m.P:Int)).toNat 0-1)=_
    rw[ec,show((c:Int)).toNat=c by omega]
   refine q _ ⟨?_,?_,?_,?_,?_⟩ (k1.trans (Keep.upd l1 (λ_ z=>by cases z) (by simp)))
   ·rw[qD ol]
    exact u1 _ _ ob hb.o
   ·rw[qD wl]
    exact w1
   ·rw[el]
    exact qH
   ·rw[qD ds.lf.symm]
    exact u1 _ _ wf hb.f
   ·rw[qD ds.lb.symm]
    exact u1 _ _ wb hb.b
  ·rw[q6T (λz=>by
    obtain⟨r,hr',e⟩:=kX.mp z
    exact hn r hr' e)]
   refine iteF ?_
   have el:(m.forget n).lv=m.lv:=by
    show BM.lvF m.P m.V m.lv n=_
    unfold BM.lvF
    rw[ef]
   have eV:(m.forget n).V=m.V:=qHE λr hr'=>hn r hr'
   exact q H ⟨hb.o,by rw[eV];exact hb.w,by rw[el];exact hb.l,hb.f,hb.b⟩ Keep.refl
theorem q55{V:Mp}:(dI V).length=V.length:=by unfold dI;rw[hC]
noncomputable def spNt(t:Adr):Sp:=λvs H Q _=>∃a,∃m:QM,∃b f n,vs=[.ref a.bk,.int ((b*m.P+f:Nat):Int),.int n]∧BkAt t H a m∧m.Ok∧Dst a∧b<m.B∧f<m.P∧m.fi.getD b 0=(f:Int)∧∀H',BkAt t H' a (m.put b f n)→Keep [a.bk,a.wv,a.lv,a.fi,a.bo] H H'→Q .non H'
theorem qA6(T:Txt K mg t)(S:Fns K t):S.Book_note.Ok0 P w mg base 2 (spNt t):=by
 refine S.Book_note.F.ok0 q4G λcdv A _ s H vs Q E hr h=>?_
 ·obtain⟨a,m,b,f,n,rfl,hb,ok,ds,hB,hf,ef,q⟩:=h
  have hu:=q1X hr
  have p1:=ok.p1
  have p2:=ok.p2
  have ob:a.bk≠a.wv:=jV hb.o hb.w (by intro z;cases z)
  have ol:a.bk≠a.lv:=jV hb.o hb.l (by intro z;cases z)
  have of':a.bk≠a.fi:=jV hb.o hb.f (by intro z;cases z)
  have oo:a.bk≠a.bo:=jV hb.o hb.b (by intro z;cases z)
  have wl:a.wv≠a.lv:=jV hb.w hb.l (by intro z;cases z)
  have wf:a.fi≠a.wv:=jV hb.f hb.w (by intro z;cases z)
  have wb:a.bo≠a.wv:=jV hb.b hb.w (by intro z;cases z)
  have eb:((b*m.P+f:Nat):Int) / (m.P:Int)=(b:Int):=by rw[←Int.natCast_ediv,u7 hf]
  refine⟨_,(qB (qV (i:=3) q4G.nd rfl (Or.inl rfl) (qN q1F (pv 1) (qJ (pv 0) rfl))) (qB (jA (qT (pv 0) T.cl_Book T.m_Book_forget (q7C T S).mono hr S.Book_forget.b .nil qK (qA (pv 2) qC))) (qB (qCX hu (qJ (pv 0) rfl) (pv 2) (pv 1) rfl) (qB (q30 (qJ (pv 0) rfl) (pv 3) q0W qG q3I yU) (q48 (jB (qS u9 (qY jE (qJ (pv 0) rfl) (pv 3) (λ_ _=>rfl)) qG (qU _)) (qE (q3H (qJ (pv 0) rfl) (q4N (qJ (pv 0) rfl) (pv 3) yU))) qQ) (qB (q30 (qJ (pv 0) rfl) (pv 3) q0W qG q3I yU) (qE (qDX (pv 0) qG qEZ)))))))),?_⟩
  try dsimp-beta-proj-iota-zeta-eta only[wishK,cxK]
  refine⟨_,rfl,_,rfl,a.bk,_,a.dx,_,_,rfl,hb.o,T.cl_Book,T.na_Book_pages,rfl,_,_,rfl,rfl,⟨by omega,by omega⟩,?_⟩
  try dsimp only
  rw[eb]
  refine⟨_,rfl,a.bk,a.dx,_,rfl,hb.o,rfl,_,rfl,a,m,n,rfl,hb,ok,ds,λH1 hb1 k1=>?_⟩
  have k1:Keep [a.bk,a.wv,a.lv,a.fi,a.bo] H H1:=k1.mono (by intro x hx;simp at hx ⊢;rcases hx with rfl|rfl<;>simp)
  have lnV:(y9 m.V n).length≤65:=mD (kY _ _) ok.lenV
  have w0:H1 a.wv=some (.dK (dI (y9 m.V n))):=hb1.w
  refine⟨_,rfl,_,rfl,a.bk,_,a.dx,_,_,rfl,hb1.o,T.cl_Book,T.na_Book_where,rfl,_,rfl,a.wv,_,rfl,.inl ⟨_,Sum.inl n,w0,rfl,(by rw[q55];have:(65:Nat)<sizeLine:=by decide
                                                                                                                           omega),rfl⟩,?_⟩
  rw[qD8,qE9]
  have k2:Keep [a.bk,a.wv,a.lv,a.fi,a.bo] H1 (upd H1 a.wv (.dK (dI (y9 m.V n++[(n,((b*m.P+f:Nat):Int))])))):=Keep.upd w0 (λ_ z=>by cases z) (by simp)
  have w2:(upd H1 a.wv (.dK (dI (y9 m.V n++[(n,((b*m.P+f:Nat):Int))])))) a.wv=some (.dK (dI (y9 m.V n++[(n,((b*m.P+f:Nat):Int))]))):=qH
  have u2:∀x o,x≠a.wv→H1 x=some o→(upd H1 a.wv (.dK (dI (y9 m.V n++[(n,((b*m.P+f:Nat):Int))])))) x=some o:=λx o nb e=>by
   rw[qD nb]
   exact e
  generalize upd H1 a.wv (.dK (dI (y9 m.V n++[(n,((b*m.P+f:Nat):Int))])))=H2 at k2 w2 u2 ⊢
  have o2:=u2 _ _ ob hb1.o
  have l2:H2 a.lv=some (.lst ((BM.lvF m.P m.V m.lv n).map V.int)):=u2 _ _ wl.symm hb1.l
  have f2:H2 a.fi=some (.lst (m.fi.map V.int)):=u2 _ _ wf hb1.f
  have b2:H2 a.bo=some (.lst (m.bo.map V.int)):=u2 _ _ wb hb1.b
  have hbl:b<(BM.lvF m.P m.V m.lv n).length:=by rw[show(BM.lvF m.P m.V m.lv n).length=m.B from(ok.forget n).ll];exact hB
  have hbf:b<m.fi.length:=by rw[ok.lf];exact hB
  have hbo:b<m.bo.length:=by rw[ok.lo];exact hB
  refine⟨_,rfl,a.bk,_,a.dx,_,_,rfl,o2,T.cl_Book,T.na_Book_live,rfl,_,rfl,a.lv,_,_,_,rfl,rfl,SqL.of l2,atV hbl,_,_,rfl,rfl,a.lv,_,_,b,rfl,rfl,l2,q28 (by rw[hC];exact hbl),?_⟩
  rw[setV]
  have k3:Keep [a.bk,a.wv,a.lv,a.fi,a.bo] H2 (upd H2 a.lv (.lst (((BM.lvF m.P m.V m.lv n).set b ((BM.lvF m.P m.V m.lv n).getD b 0+1)).map V.int))):=Keep.upd l2 (λ_ z=>by cases z) (by simp)
  have l3:(upd H2 a.lv (.lst (((BM.lvF m.P m.V m.lv n).set b ((BM.lvF m.P m.V m.lv n).getD b 0+1)).map V.int))) a.lv=some (.lst (((BM.lvF m.P m.V m.lv n).set b ((BM.lvF m.P m.V m.lv n).getD b 0+1)).map V.int)):=qH
  have u3:∀x o,x≠a.lv→H2 x=some o→(upd H2 a.lv (.lst (((BM.lvF m.P m.V m.lv n).set b ((BM.lvF m.P m.V m.lv n).getD b 0+1)).map V.int))) x=some o:=λx o nb e=>by
   rw[qD nb]
   exact e
  generalize upd H2 a.lv (.lst (((BM.lvF m.P m.V m.lv n).set b ((BM.lvF m.P m.V m.lv n).getD b 0+1)).map V.int))=H3 at k3 l3 u3 ⊢
  have o3:=u3 _ _ ol o2
  have w3:=u3 _ _ wl w2
  have f3:=u3 _ _ ds.lf.symm f2
  have b3:=u3 _ _ ds.lb.symm b2
  refine⟨λσ' H'=>σ'=[some (.ref a.bk),some (.int ((b*m.P+f:Nat):Int)),some (.int n),some (.int (b:Int))]∧Keep [a.bk,a.wv,a.lv,a.fi,a.bo] H3 H'∧H' a.bo=some (.lst ((m.put b f n).bo.map V.int))∧∀x o,x≠a.bo→H3 x=some o→H' x=some o,?_,?_⟩
  ·refine⟨_,rfl,a.bk,_,a.dx,_,_,rfl,o3,T.cl_Book,T.na_Book_filled,rfl,_,rfl,a.fi,_,_,_,rfl,rfl,SqL.of f3,atV hbf,rfl,_,rfl,?_⟩
   rw[yM]
   by_cases z:m.fi.getD b 0=0
   ·rw[hI z]
    refine iteT ?_
    refine⟨_,rfl,a.bk,_,a.dx,_,_,rfl,o3,T.cl_Book,T.na_Book_stamp,rfl,_,rfl,a.bk,_,a.dx,_,_,rfl,o3,T.cl_Book,T.na_Book_born,rfl,_,rfl,a.bo,_,_,b,rfl,rfl,b3,q28 (by rw[hC];exact hbo),?_⟩
    rw[setV]
    refine⟨rfl,Keep.upd b3 (λ_ z=>by cases z) (by simp),?_,λx o nb e=>by rw[qD nb];exact e⟩
    rw[qH]
    show _=some (HO.lst ((if m.fi.getD b 0=0 then m.bo.set b m.nx else m.bo).map V.int))
    rw[kG z]
    rfl
   ·rw[hV z]
    refine iteF ⟨rfl,Keep.refl,?_,λx o _ e=>e⟩
    show _=some (HO.lst ((if m.fi.getD b 0=0 then m.bo.set b m.nx else m.bo).map V.int))
    rw[hX z]
    exact b3
  rintro σ' H4 ⟨rfl,k4,b4,u4⟩
  have o4:=u4 _ _ oo o3
  have w4:=u4 _ _ wb.symm w3
  have l4:=u4 _ _ ds.lb l3
  have f4:=u4 _ _ ds.fb f3
  refine⟨_,rfl,a.bk,_,a.dx,_,_,rfl,o4,T.cl_Book,T.na_Book_filled,rfl,_,rfl,a.fi,_,_,_,rfl,rfl,SqL.of f4,atV hbf,_,_,rfl,rfl,a.fi,_,_,b,rfl,rfl,f4,q28 (by rw[hC];exact hbf),?_⟩
  rw[setV]
  have k5:Keep [a.bk,a.wv,a.lv,a.fi,a.bo] H4 (upd H4 a.fi (.lst ((m.fi.set b (m.fi.getD b 0+1)).map V.int))):=Keep.upd f4 (λ_ z=>by cases z) (by simp)
  have f5:(upd H4 a.fi (.lst ((m.fi.set b (m.fi.getD b 0+1)).map V.int))) a.fi=some (.lst ((m.fi.set b (m.fi.getD b 0+1)).map V.int)):=qH
  have u5:∀x o,x≠a.fi→H4 x=some o→(upd H4 a.fi (.lst ((m.fi.set b (m.fi.getD b 0+1)).map V.int))) x=some o:=λx o nb e=>by
   rw[qD nb]
   exact e
  generalize upd H4 a.fi (.lst ((m.fi.set b (m.fi.getD b 0+1)).map V.int))=H5 at k5 f5 u5 ⊢
  have o5:=u5 _ _ of' o4
  refine⟨_,rfl,a.bk,_,a.dx,_,_,rfl,o5,T.cl_Book,T.na_Book_stamp,rfl,_,_,rfl,rfl,a.dx,_,o5,by show 7<1000;decide,?_⟩
  refine q _ ⟨?_,?_,?_,?_,?_⟩ ((((k1.trans k2).trans k3).trans k4).trans (k5.trans (Keep.upd o5 (λ_ z=>by cases z) (by simp))))
  ·exact qH
  ·rw[qD ob.symm]
   exact u5 _ _ wf.symm w4
  ·rw[qD ol.symm]
   exact u5 _ _ ds.lf l4
  ·rw[qD of'.symm]
   exact f5
  ·rw[qD oo.symm]
   exact u5 _ _ ds.fb.symm b4
noncomputable def lamE:Expr:=match((yD jU).getLast?:Option Stmt)with
 |some (Stmt.Return (some (Expr.Call _ _ (k::_) _)) _)=>k.value
 |_=>Expr.Name "" ⟨0,0,0,0⟩
noncomputable abbrev lamA:Arguments:=match lamE with
 | .Lambda a _ _ _=>a
 |_=>yK jU
noncomputable abbrev lamB:Expr:=match lamE with
 | .Lambda _ b _ _=>b
 |_=>lamE
noncomputable abbrev qGI:Scope:=match lamE with
 | .Lambda _ _ s _=>s
 |_=>qF jU
noncomputable abbrev lamP:Pos:=match lamE with
 | .Lambda _ _ _ p=>p
 |_=>⟨0,0,0,0⟩
noncomputable abbrev lamQ:Str:=(PyProof.Rows.envOfC "Plain.free" (qF jU) 0 0 .none).qual++"<lambda>"
noncomputable abbrev q7D(clos:List (Str×Addr))(pm ct:Value)(c:Addr):FuncData:=W.kla_fn "<lambda>" lamQ lamA lamB qGI clos pm (.ref c) ct
noncomputable def tri(c:Addr):Array Value:=#[rawInt lamP.line,rawInt lamP.col,.ref c]
noncomputable def TbF(t:Adr)(H:Hp):Prop:=∃ps,H t.T_Plain_free=some (.tbl ps)∧(ps=#[]∨∃c,ps=tri c∧H c=some (cdO c lamQ))
theorem TbF.same{t:Adr}{H H':Hp}(s:Same H H')(h:TbF t H):TbF t H':=by
 obtain⟨ps,hT,h⟩:=h
 refine⟨ps,s _ _ hT,?_⟩
 rcases h with h|⟨c,h,a⟩
 ·exact .inl h
 ·exact .inr ⟨c,h,s _ _ a⟩
structure Sto where
 s:Addr
 sd:Addr
 tm:Addr
 td:Addr
 c:Addr
 a:CA
 k:BkA
 ru:V
 pa:V
noncomputable def bf(k:BkA):List Addr:=[k.bk,k.wv,k.lv,k.fi,k.bo]
noncomputable def sf(x:Sto):List Addr:=foot x.c x.a++bf x.k
structure Fit(m:CM)(q:QM):Prop where
 ok:m.Ok
 oq:q.Ok
 eB:m.bl=(q.B:Int)
 eP:m.pg=(q.P:Int)
structure StAt(t:Adr)(H:Hp)(x:Sto)(r2 r3 r4 r5:V)(m:CM)(q:QM):Prop where
 o:H x.s=some (.ins t.C_Store x.sd [("chip",.ref x.c),("terms",.ref x.tm),("book",.ref x.k.bk),("rule",x.ru),("papers",x.pa)])
 te:H x.tm=some (.ins t.C_Terms x.td (teF (.int m.bl) (.int m.pg) r2 r3 r4 r5))
 ch:ChipAt t.C_Chip H x.c x.a m
 bk:BkAt t H x.k q
 tb:TbF t H
 ds:Dst x.k
 d1:∀b∈x.a.li::foot x.c x.a,b∉bf x.k
 d2:∀b∈[x.s,x.tm],b∉sf x
section
variable{H H':Hp}{x:Sto}{r2 r3 r4 r5:V}{m:CM}{q:QM}
theorem StAt.same(h:StAt t H x r2 r3 r4 r5 m q)(s:Same H H'):StAt t H' x r2 r3 r4 r5 m q:=⟨s _ _ h.o,s _ _ h.te,h.ch.same s,h.bk.same s,h.tb.same s,h.ds,h.d1,h.d2⟩
theorem TbF.ne(h:TbF t H){b:Addr}{o:HO}(e:H b=some o)(n:∀ps,o≠ .tbl ps):b≠t.T_Plain_free:=λz=>by
 obtain⟨ps,hT,_⟩:=h
 rw[z,hT]at e
 exact n ps (kF e).symm
theorem StAt.nT(h:StAt t H x r2 r3 r4 r5 m q):∀b∈[x.s,x.tm]++(x.a.li::sf x),b∉[t.T_Plain_free]:=by
 intro b hb z
 have z:b=t.T_Plain_free:=by simpa using z
 have ne:∀{b:Addr} {o:HO},H b=some o→(∀ps,o≠ .tbl ps)→b≠t.T_Plain_free:=λe n=>h.tb.ne e n
 obtain⟨rs,er,_⟩:=h.ch.rc
 have hb:b=x.s∨b=x.tm∨b=x.a.li∨b=x.c∨b=x.a.bo∨b=x.a.cl∨b=x.a.dc∨b=x.a.br∨b=x.a.rc∨b=x.k.bk∨b=x.k.wv∨b=x.k.lv∨b=x.k.fi∨b=x.k.bo:=by simpa[sf,bf,foot]using hb
 rcases hb with y|y|y|y|y|y|y|y|y|y|y|y|y|y<;>rw[y]at z
 ·exact ne h.o (λ_ z=>by cases z) z
 ·exact ne h.te (λ_ z=>by cases z) z
 ·exact ne h.ch.li (λ_ z=>by cases z) z
 ·exact ne h.ch.ins (λ_ z=>by cases z) z
 ·exact ne h.ch.bo (λ_ z=>by cases z) z
 ·exact ne h.ch.cl (λ_ z=>by cases z) z
 ·exact ne h.ch.dc (λ_ z=>by cases z) z
 ·exact ne h.ch.br (λ_ z=>by cases z) z
 ·exact ne er (λ_ z=>by cases z) z
 ·exact ne h.bk.o (λ_ z=>by cases z) z
 ·exact ne h.bk.w (λ_ z=>by cases z) z
 ·exact ne h.bk.l (λ_ z=>by cases z) z
 ·exact ne h.bk.f (λ_ z=>by cases z) z
 ·exact ne h.bk.b (λ_ z=>by cases z) z
theorem StAt.keep(h:StAt t H x r2 r3 r4 r5 m q){F:List Addr}(k:Keep F H H')(n:∀b∈[x.s,x.tm]++(x.a.li::sf x),b∉F)(tb:TbF t H'):StAt t H' x r2 r3 r4 r5 m q:=
 ⟨k.k _ _ (n _ (by simp)) h.o,k.k _ _ (n _ (by simp)) h.te,h.ch.keep k (λb hb=>n b (by
  rcases kI.mp hb with rfl|hb
  ·simp
  ·simp[sf,hb])),h.bk.keep k (λb hb=>n b (by
  have hb:b∈bf x.k:=hb
  simp[sf,hb])),tb,h.ds,h.d1,h.d2⟩
theorem StAt.kT(h:StAt t H x r2 r3 r4 r5 m q)(k:Keep [t.T_Plain_free] H H')(tb:TbF t H'):StAt t H' x r2 r3 r4 r5 m q:=h.keep k h.nT tb
end
noncomputable def spGd(t:Adr):Sp:=λvs H Q _=>∃x r2 r3 r4 r5 m q,vs=[.ref x.s]∧StAt t H x r2 r3 r4 r5 m q∧Fit m q∧NewO H (.lst ((uH q.B m.br).map vn)) Q
theorem q0R(T:Txt K mg t)(S:Fns K t):S.Plain_good.Ok0 P w mg base 5 (spGd t):=by
 refine S.Plain_good.F.ok0 q80 λcdv A _ s H vs Q E hr h=>?_
 ·obtain⟨x,r2,r3,r4,r5,m,q,rfl,hs,ft,k⟩:=h
  have b2:=ft.oq.b2
  have eB:=ft.eB
  refine⟨_,(qE (qL (yH ["self","block"] [0] rfl (zF rfl T.b_range (qA (qJ (qJ (pv 0) rfl) rfl) qC)) (λ_ _ _ _ _=>(qX (i:=1) (show List.Nodup (["self","block"]:List Str)from by decide) rfl (Or.inl rfl))) (λ_ _ _ _ _=>(uJ (yL (jW (qT (vJ (K:=K) rfl (pv 0) rfl) T.cl_Chip T.m_Chip_failed (q7B T S).mono hr S.Chip_failed.b .nil qK (qA (pv 1) qC)))))) (λ_ _ _ _ _=>(pv 1)) (by kernel_rfl) (jM (by decide))))),?_⟩
  try dsimp-beta-proj-iota-zeta-eta only[wishK,cxK]
  refine⟨_,rfl,x.s,_,x.sd,_,_,rfl,hs.o,T.cl_Store,T.na_Store_terms,rfl,x.tm,_,x.td,_,_,rfl,hs.te,T.cl_Terms,T.na_Terms_blocks,rfl,m.bl,rfl,by omega,by omega,λD H2 nD s2 hD=>?_⟩
  refine q4U (D:=D) (λi H3=>Same H H3∧H3 D=some (.lst (((List.range i).filter λb=>!(m.br.getD b false)).map vn))) ⟨s2,hD⟩ (λi H3 hi hp=>?_) (λH3 hp=>?_)
  ·obtain⟨sm,hd⟩:=hp
   have hi:i<q.B:=by omega
   have h3:=hs.same sm
   refine⟨_,rfl,x.s,_,x.sd,_,_,rfl,h3.o,T.cl_Store,T.na_Store_chip,rfl,x.c,x.a.dx,_,rfl,h3.ch.ins,rfl,_,rfl,x.c,x.a,m,_,rfl,h3.ch,ft.ok,by omega,by omega,?_⟩
   rw[show(0+(i:Int)).toNat=i by omega,Int.zero_add]
   refine⟨_,rfl,?_⟩
   rw[List.range_succ,gI,kU]
   cases z:m.br.getD i false with
   |true=>
    refine iteF ⟨sm,?_⟩
    rw[hd,mY,z]
    simp
   |false=>
    refine iteT ?_
    refine⟨_,rfl,_,hd,?_,λb o e=>?_,?_⟩
    ·rw[hC]
     have:((List.range i).filter λb=>!(m.br.getD b false)).length≤i:=mD (kY _ _) (by rw[mR];exact kM _)
     have:(16:Nat)<sizeLine:=by decide
     omega
    ·rw[qD (qI e nD)]
     exact sm _ _ e
    ·rw[qH,mY,z]
     rfl
  ·obtain⟨sm,hd⟩:=hp
   rw[show m.bl.toNat=q.B by omega]at hd
   exact k D H3 nD sm hd
noncomputable def spLm(t:Adr)(x:Sto)(g c:Addr)(fd:FuncData):Sp:=λvs H Q _=>∃r2 r3 r4 r5,∃m:CM,∃q:QM,∃b:Nat,vs=[.int (b:Int)]∧StAt t H x r2 r3 r4 r5 m q∧Fit m q∧b<q.B∧H g=some (fnO g fd)∧H c=some (cdO c lamQ)∧∀tp H',H tp=none→Same H H'→H' tp=some (.tup [.int (m.cl.getD b 0),.int (b:Int)])→Q (.ref tp) H'
theorem qK0(T:Txt K mg t)(S:Fns K t){g c ca:Addr}{pm ct:Value}{x:Sto}(hc:base.IsCell ca (some (.ref x.s))):
 FnOk P w K mg base CX0 5 g (q7D [("self",ca)] pm ct c) ["block"] (spLm t x g c (q7D [("self",ca)] pm ct c)):=by
 refine qHG (k:=4) (x0:="block") (fvs:=[.ref x.s]) (qEB (u:=.ref x.s) rfl rfl rfl (by decide+kernel) (by decide+kernel) (by decide+kernel) rfl hc) (λvs H Q E h=>?_) (λvs H Q E h=>?_) (λA outer s H v0 Q E hr h=>?_)
 ·repeat obtain⟨_,h⟩:=h
  all_goals subst_vars;rfl
 ·obtain⟨r2,r3,r4,r5,m,q,b,rfl,_,_,_,a,d,_⟩:=h
  exact⟨a,d⟩
 ·obtain⟨r2,r3,r4,r5,m,q,b,e,hs,ft,hb,_,_,k⟩:=h
  obtain rfl:v0=.int (b:Int):=by simpa using e
  have eB:=ft.eB
  refine⟨_,yP (qA (qT (qJ (pv 1) rfl) T.cl_Chip T.m_Chip_cleared (q20 T S).mono hr S.Chip_cleared.b .nil qK (qA (pv 0) qC)) (qA (pv 0) qC)),?_⟩
  refine⟨_,rfl,x.s,_,x.sd,_,_,rfl,hs.o,T.cl_Store,T.na_Store_chip,rfl,x.c,x.a.dx,_,rfl,hs.ch.ins,rfl,_,rfl,x.c,x.a,m,_,rfl,hs.ch,ft.ok,by omega,by omega,?_⟩
  rw[mH]
  exact⟨_,rfl,sz2,k⟩
theorem qEJ{clos:List (Str×Addr)}{c:Addr}{pm ct:Value}:jT K (q7D clos pm ct c) ["block"] []:=jT.all λus hl=>match us,hl with| [_],_=>rfl
theorem qHT{t:Adr}{H:Hp}(h:TbF t H):∃ps,H t.T_Plain_free=some (.tbl ps)∧TriplesOk ps.toList∧
 ((codeAmong lamP ps.toList=none∧∀c H',H' t.T_Plain_free=some (.tbl (ps++tri c))→H' c=some (cdO c lamQ)→TbF t H')∨∃c,codeAmong lamP ps.toList=some (.ref c)∧H c=some (cdO c lamQ)):=by
 obtain⟨ps,hT,h⟩:=h
 rcases h with rfl|⟨c,rfl,a⟩
 ·exact⟨_,hT,trivial,.inl ⟨rfl,λc H' e1 e2=>⟨_,e1,.inr ⟨c,rfl,e2⟩⟩⟩⟩
 ·exact⟨_,hT,trivial,.inr ⟨c,rfl,a⟩⟩
theorem q92(T:Txt K mg t)(S:Fns K t){cells:List (Str×Addr)}{σ:St}{H4:Hp}{D f c':Addr}{x:Sto}{r2 r3 r4 r5:V}{m:CM}{q:QM}{clos:List (Str×Addr)}{pm ct:Value}{Q:VK}(hσ:σ[0]?=some (some (.ref x.s)))(hcl:∀ca,cells.lookup ("self":Str)=some ca→clos=[(("self":Str),ca)])
 (hs:StAt t H4 x r2 r3 r4 r5 m q) (ft:Fit m q) (hD:H4 D=some (.lst ((yV q.B m.br q.fi).map vn))) (hf:H4 f=some (fnO f (q7D clos pm ct c'))) (hc:H4 c'=some (cdO c' lamQ)) (k:∀l p H',FreeIs q.B m.br m.cl q.fi l→H4 p=none→Same H4 H'→H' p=some (.lst (l.map vn))→Q (.ref p) H'):
 ∃(f':Addr) (fd:FuncData) (sp:Heap→Sp),V.ref f=.ref f'∧(∀base',(∀b o,base.get? b=some o→base'.get? b=some o)→q6Y cells σ base' [(0,"self")]→FnOk P w K mg base' CX0 5 f' fd ["block"] (sp base'))∧jT K fd ["block"] []∧
  ∃(l:Addr) (us:List V) (Pv:Nat→List V→Hp→Prop),[V.ref D]=[.ref l]∧SqL K H4 l us∧us.length<64∧Pv 0 [] H4∧(∀base' i x zs H',q6Y cells σ base' [(0,"self")]→us[i]?=some x→Pv i zs H'→sp base' [x] H' (λz H''=>Pv (i+1) (zs++[z]) H'') E0)∧
  ∀zs H',zs.length=us.length→Pv us.length zs H'→∃kk m,Paired (TupI K H') zs kk∧(∀k∈kk,k.length=m)∧0<m∧∀q:List Nat,q.Perm (List.range us.length)→(q.map λi=>kk.getD i []).Pairwise (λa b=>lx b a=false)→NewO H' (.lst (q.map λi=>us.getD i .non)) Q:=by
 have b2:=ft.oq.b2
 have ln:=qEC (B:=q.B) (br:=m.br) (fi:=q.fi)
 refine⟨f,q7D clos pm ct c',λ_=>spLm t x f c' (q7D clos pm ct c'),rfl,λbase' _ cv=>?_,qEJ,D,_,λi zs H'=>Same H4 H'∧Paired (TupD H') zs (((yV q.B m.br q.fi).take i).map (keyN m.cl)),rfl,SqL.of hD,by rw[hC];omega,⟨Same.refl H4,.nil⟩,λbase' i y zs H' _ hy hp=>?_,λzs H' lz hp=>?_⟩
 ·obtain⟨ca,u,hk,ru,hcell⟩:=cv (0,"self") (kC.mpr rfl) (.ref x.s) hσ
  obtain rfl:u=Value.ref x.s:=ru
  rw[hcl ca hk]
  exact qK0 T S hcell
 ·obtain⟨sm,pr⟩:=hp
  rw[kN]at hy
  obtain⟨b,hb,rfl⟩:=mF.mp hy
  have mb:=q8Z.mp (mG hb)
  refine⟨r2,r3,r4,r5,m,q,b,rfl,hs.same sm,ft,mb.1.1,sm _ _ hf,sm _ _ hc,λtp H5 ntp s5 e5=>⟨sm.trans s5,?_⟩⟩
  rw[qED (f:=keyN m.cl) hb]
  exact L2.Paired.snoc (uL pr s5) ⟨tp,rfl,e5⟩
 ·obtain⟨sm,pr⟩:=hp
  rw[hC,mZ]at pr
  refine⟨_,2,q9J pr,λk hk=>?_,by decide,λq' p1 p2 p H5 np s5 e5=>?_⟩
  ·obtain⟨b,_,rfl⟩:=kX.mp hk
   rfl
  ·rw[hC]at p1
   have hin:∀i∈q',i<(yV q.B m.br q.fi).length:=λi hi=>mK.mp (p1.mem_iff.mp hi)
   rw[q70 (e:=0) hin]at e5
   exact k _ p H5 (qHK p1 p2) (Same.free sm np) (sm.trans s5) e5
noncomputable def spFr(t:Adr):Sp:=λvs H Q _=>∃x r2 r3 r4 r5 m q,vs=[.ref x.s]∧StAt t H x r2 r3 r4 r5 m q∧Fit m q∧∀l p H',FreeIs q.B m.br m.cl q.fi l→H p=none→Keep [t.T_Plain_free] H H'→TbF t H'→H' p=some (.lst (l.map vn))→Q (.ref p) H'
theorem q0S(T:Txt K mg t)(S:Fns K t)(B:BmIn base mg):FnOk P w K mg base (CX0) 8 t.f_Plain_free S.fd_Plain_free ["self"] (spFr t):=by
 refine S.F_Plain_free.ok0 q3E λA _ s H vs Q E hr h=>?_
 ·obtain⟨x,r2,r3,r4,r5,m,q,rfl,hs,ft,k⟩:=h
  have b2:=ft.oq.b2
  have eB:=ft.eB
  refine⟨_,(qB (q27 (i:=1) ["self","block"] [0] rfl (jP (jC (pv 0) T.cl_Store T.m_Store_good (q0R T S).mono hr S.Plain_good.b .nil qK)) (λ_ _ _ _ _=>(qX (i:=1) (show List.Nodup (["self","block"]:List Str)from by decide) rfl (Or.inl rfl))) (λ_ _ _ _ _=>(uJ (qS u9 (qY (vM (K:=K) rfl) (vJ (K:=K) rfl (vJ (K:=K) rfl (pv 0) rfl) rfl) (pv 1) (λ_ _=>rfl)) qG (qU _)))) (λ_ _ _ _ _=>(pv 1)) (by kernel_rfl) (jM (by decide)) q3E.nd rfl (Or.inl rfl)) (qE (qL (qCD (k:=5) (x:="block") [(0,"self")] (by intro p hp;simp only[kI,gG,or_false]at hp;rcases hp with rfl<;>exact⟨rfl,by kernel_rfl,rfl⟩) hr (by rfl) T.b_sorted (q62 rfl T.cd_Plain_free B (qHH (by kernel_rfl)) rfl) (qA (pv 1) qC))))),?_⟩
  try dsimp-beta-proj-iota-zeta-eta only[wishK,cxK]
  refine⟨_,rfl,x.s,x.sd,_,rfl,hs.o,rfl,x,r2,r3,r4,r5,m,q,rfl,hs,ft,λp H1 n1 s1 h1=>?_⟩
  refine⟨p,rfl,⟨_,SqL.of h1⟩,λD H2 nD s2 hD=>?_⟩
  refine vN (K:=K) (xs:=(uH q.B m.br).map vn) (D:=D) (λi H3=>Same H1 H3∧H3 D=some (.lst ((((uH q.B m.br).take i).filter λb=>decide (q.fi.getD b 0=0)).map vn))) ⟨s2,hD⟩ (λi H3 hp=>SqL.of (hp.1 _ _ h1)) (λi y H3 hy hp=>?_) (λH3 hp=>?_)
  ·obtain⟨sm,hd⟩:=hp
   have h3:=(hs.same s1).same sm
   rw[kN]at hy
   obtain⟨b,hb,rfl⟩:=mF.mp hy
   have hi:=(hG.mp hb).1
   have mb:=q0Z.mp (mG hb)
   refine⟨_,rfl,x.s,_,x.sd,_,_,rfl,h3.o,T.cl_Store,T.na_Store_book,rfl,x.k.bk,_,x.k.dx,_,_,rfl,h3.bk.o,T.cl_Book,T.na_Book_filled,rfl,_,rfl,x.k.fi,_,_,_,rfl,rfl,SqL.of h3.bk.f,atV (by rw[ft.oq.lf];exact mb.1),rfl,_,rfl,?_⟩
   rw[yM,←mB hi,gI,kU]
   obtain rfl:(uH q.B m.br)[i]=b:=(hG.mp hb).2
   by_cases z:q.fi.getD (uH q.B m.br)[i] 0=0
   ·rw[hI z]
    refine iteT ?_
    refine⟨_,rfl,_,hd,?_,λb o e=>?_,?_⟩
    ·rw[hC]
     have l1:(((uH q.B m.br).take i).filter λb=>decide (q.fi.getD b 0=0)).length≤q.B:=mD (kY _ _) (mD (by rw[gA];omega) (q10 (B:=q.B) (br:=m.br)))
     have:(16:Nat)<sizeLine:=by decide
     omega
    ·rw[qD (qI e nD)]
     exact sm _ _ e
    ·rw[qH,mY,hI z]
     rfl
   ·rw[hV z]
    refine iteF ⟨sm,?_⟩
    rw[hd,mY,hV z]
    simp
  ·obtain⟨sm,hd⟩:=hp
   rw[hC,mZ]at hd
   have hd:H3 D=some (.lst ((yV q.B m.br q.fi).map vn)):=hd
   have h3:=(hs.same s1).same sm
   refine⟨_,rfl,?_⟩
   obtain⟨ps,hT,ht,hc⟩:=qHT h3.tb
   have nT:D≠t.T_Plain_free:=h3.tb.ne hd (λ_ z=>by cases z)
   have keep:∀(f c':Addr) (ctv pm:Value) (clos:List (Str×Addr)) (H4:Hp),H4 f=some (fnO f (q7D clos pm ctv c'))→H4 c'=some (cdO c' lamQ)→TbF t H4→(∀b o,b≠t.T_Plain_free→H3 b=some o→H4 b=some o)→Keep [t.T_Plain_free] H3 H4:=λf c' ctv pm clos H4 _ _ tb4 kp=>⟨λb o nb e=>kp b o (λz=>nb (by rw[z];simp)) e,λb xs e=>kp b _ (h3.tb.ne e (λ_ z=>by cases z)) e⟩
   refine⟨ps,hT,ht,?_⟩
   rcases hc with⟨hn,tb⟩|⟨c0,hn,hc0⟩
   ·refine .inl ⟨hn,λf c' ctv H4 nf hf hc' hT4 kp=>?_⟩
    have tb4:=tb c' H4 hT4 hc'
    have k4:=keep f c' ctv _ _ H4 hf hc' tb4 kp
    refine q92 T S rfl (λca hk=>qB2 (names:=qGI.names) hk rfl) (h3.kT k4 tb4) ft (kp _ _ nT hd) hf hc' (λl p' H5 hl np s5 e5=>k l p' H5 hl ?_ ?_ (tb4.same s5) e5)
    ·refine Same.free s1 (Same.free sm (k4.none (λz=>?_) np))
     obtain⟨ps',hT',_⟩:=tb4
     rw[kC.mp z,hT']at np
     cases np
    ·exact((Keep.same s1).trans (Keep.same sm)).trans (k4.trans (Keep.same s5))
   ·refine .inr ⟨c0,hn,λf ctv H4 nf hf s4=>?_⟩
    refine q92 T S rfl (λca hk=>qB2 (names:=qGI.names) hk rfl) (h3.same s4) ft (s4 _ _ hd) hf (s4 _ _ hc0) (λl p' H5 hl np s5 e5=>k l p' H5 hl ?_ ?_ ((h3.tb.same s4).same s5) e5)
    ·exact Same.free s1 (Same.free sm (Same.free s4 np))
    ·exact Keep.same (((s1.trans sm).trans s4).trans s5)
noncomputable def spPt(t:Adr):Sp:=λvs H Q _=>∃x r2 r3 r4 r5 m q,vs=[.ref x.s]∧StAt t H x r2 r3 r4 r5 m q∧Fit m q∧∀H',Same H H'→Q (oV (jJ q.B q.P m.br q.fi)) H'
theorem qEK{α:Type}{p:α→Bool}{L:List α}{i:Nat}{x:α}(h:L[i]?=some x)(n:(L.take i).find? p=none):(p x=true→L.find? p=some x)∧(p x=false→(L.take (i+1)).find? p=none):=by
 have hi:=(hG.mp h).1
 obtain rfl:L[i]=x:=(hG.mp h).2
 constructor
 ·intro hp
  have e:L=L.take i++L[i]::L.drop (i+1):=by rw[List.getElem_cons_drop,List.take_append_drop]
  conv=>lhs;arg 2;rw[e]
  rw[List.find?_append,n,dO,hp]
  rfl
 ·intro hp
  rw[←mB hi,List.find?_append,n,dO,hp]
  rfl
theorem q0T(T:Txt K mg t)(S:Fns K t):S.Plain_part.Ok0 P w mg base 6 (spPt t):=by
 refine S.Plain_part.F.ok0 q3F λcdv A _ s H vs Q E hr h=>?_
 ·obtain⟨x,r2,r3,r4,r5,m,q,rfl,hs,ft,k⟩:=h
  refine⟨_,(qB (q06 gR rfl (jP (jC (pv 0) T.cl_Store T.m_Store_good (q0R T S).mono hr S.Plain_good.b .nil qK)) (qX (i:=1) q3F.nd rfl (Or.inl rfl)) (qE (jB (q67 zZ zZ qG (qY jE (qJ (qJ (pv 0) rfl) rfl) (pv 1) (λ_ _=>rfl)) (qJ (qJ (pv 0) rfl) rfl)) (qE (qL (pv 1))) qQ))) (qE (qL vS))),?_⟩
  try dsimp-beta-proj-iota-zeta-eta only[wishK,cxK]
  refine⟨_,rfl,x.s,x.sd,_,rfl,hs.o,rfl,x,r2,r3,r4,r5,m,q,rfl,hs,ft,λp H1 n1 s1 h1=>?_⟩
  refine⟨p,rfl,⟨_,SqL.of h1⟩,?_⟩
  refine vL (K:=K) (xs:=(uH q.B m.br).map vn) (λi σ' H2=>∃y,σ'=[some (.ref x.s),y]∧Same H1 H2∧((uH q.B m.br).take i).find? (jX q.P q.fi)=none) ⟨_,rfl,Same.refl H1,rfl⟩ (λi σ' H2 hi hp=>?_) (λi y σ' H2 hy hp=>?_) (λσ' H2 hp=>?_)
  ·obtain⟨y,rfl,sm,_⟩:=hp
   exact SqL.of (sm _ _ h1)
  ·obtain⟨y',rfl,sm,hn⟩:=hp
   have h3:=(hs.same s1).same sm
   rw[kN]at hy
   obtain⟨b,hb,rfl⟩:=mF.mp hy
   have mb:=q0Z.mp (mG hb)
   obtain⟨y1,y2⟩:=qEK hb hn
   refine⟨_,rfl,x.s,_,x.sd,_,_,rfl,h3.o,T.cl_Store,T.na_Store_book,rfl,x.k.bk,_,x.k.dx,_,_,rfl,h3.bk.o,T.cl_Book,T.na_Book_filled,rfl,_,rfl,x.k.fi,_,_,_,rfl,rfl,SqL.of h3.bk.f,atV (by rw[ft.oq.lf];exact mb.1),?_⟩
   refine⟨_,_,rfl,rfl,_,rfl,?_⟩
   by_cases z1:0<q.fi.getD b 0
   ·rw[hI z1]
    refine iteT ?_
    refine⟨_,rfl,x.s,_,x.sd,_,_,rfl,h3.o,T.cl_Store,T.na_Store_terms,rfl,x.tm,_,x.td,_,_,rfl,h3.te,T.cl_Terms,T.na_Terms_pages,rfl,_,_,rfl,rfl,_,rfl,?_⟩
    by_cases z2:q.fi.getD b 0<m.pg
    ·rw[hI z2]
     have z:=k H2 (s1.trans sm)
     unfold jJ at z
     rw[y1 (by unfold jX;rw[hI z1,hI (by rw[←ft.eP];exact z2)];rfl)]at z
     exact iteT ⟨_,rfl,z⟩
    ·rw[hV z2]
     exact iteF ⟨_,rfl,sm,y2 (by unfold jX;rw[hI z1,hV (by rw[←ft.eP];exact z2)];rfl)⟩
   ·rw[hV z1]
    exact iteF ⟨_,rfl,iteF ⟨_,rfl,sm,y2 (by unfold jX;rw[hV z1];rfl)⟩⟩
  ·obtain⟨y',rfl,sm,hn⟩:=hp
   rw[hC,mZ]at hn
   have z:=k H2 (s1.trans sm)
   unfold jJ at z
   rw[hn]at z
   exact z
noncomputable def spSp(t:Adr):Sp:=λvs H Q _=>∃x r2 r3 r4 r5 m q,vs=[.ref x.s]∧StAt t H x r2 r3 r4 r5 m q∧Fit m q∧∀l H',FreeIs q.B m.br m.cl q.fi l→Keep [t.T_Plain_free] H H'→TbF t H'→Q (pgV q.P q.fi (q3D q.B q.P m.br q.fi l)) H'
theorem q87(T:Txt K mg t)(S:Fns K t)(B:BmIn base mg):S.Plain_spot.Ok0 P w mg base 9 (spSp t):=by
 refine S.Plain_spot.F.ok0 q0Q λcdv A _ s H vs Q E hr h=>?_
 ·obtain⟨x,r2,r3,r4,r5,m,q,rfl,hs,ft,k⟩:=h
  refine⟨_,(qB (qV (i:=1) q0Q.nd rfl (Or.inl rfl) (jC (pv 0) T.cl_Store T.m_Store_part (q0T T S).mono hr S.Plain_part.b .nil qK)) (qB (jB (qS q5U (pv 1) vS (qU _)) (qE (qL (qN yI (qN yB (pv 1) (qJ (qJ (pv 0) rfl) rfl)) (qY jE (qJ (qJ (pv 0) rfl) rfl) (pv 1) (λ_ _=>rfl))))) qQ) (qB (qV (i:=2) q0Q.nd rfl (Or.inl rfl) (jC (pv 0) T.cl_Store T.m_Store_free (q0S T S B).mono hr S.b_Plain_free .nil qK)) (qB (jB (qS (q9D hr.units) (pv 2) (jF qC) (qU _)) (qE (qL vS)) qQ) (qE (qL (qN yB (qY jE (pv 2) qG (λ_ _=>rfl)) (qJ (qJ (pv 0) rfl) rfl)))))))),?_⟩
  try dsimp-beta-proj-iota-zeta-eta only[wishK,cxK]
  refine⟨_,rfl,x.s,x.sd,_,rfl,hs.o,rfl,x,r2,r3,r4,r5,m,q,rfl,hs,ft,λH1 s1=>?_⟩
  have h1:=hs.same s1
  have b2:=ft.oq.b2
  have p2:=ft.oq.p2
  have eP:=ft.eP
  cases hpn:jJ q.B q.P m.br q.fi with
  |some b=>
   have hb:=q1G hpn
   refine⟨_,rfl,rfl,_,rfl,iteT ?_⟩
   refine⟨_,rfl,_,rfl,x.s,_,x.sd,_,_,rfl,h1.o,T.cl_Store,T.na_Store_terms,rfl,x.tm,_,x.td,_,_,rfl,h1.te,T.cl_Terms,T.na_Terms_pages,rfl,_,_,rfl,rfl,.inl ⟨by omega,by omega⟩,?_⟩
   refine⟨_,rfl,x.s,_,x.sd,_,_,rfl,h1.o,T.cl_Store,T.na_Store_book,rfl,x.k.bk,_,x.k.dx,_,_,rfl,h1.bk.o,T.cl_Book,T.na_Book_filled,rfl,_,rfl,x.k.fi,_,_,_,rfl,rfl,SqL.of h1.bk.f,atV (by rw[ft.oq.lf];exact hb.1),_,_,rfl,rfl,?_⟩
   obtain⟨l,hl⟩:=FreeIs.ex q.B m.br m.cl q.fi
   have kk:=k l H1 hl (Keep.same s1) h1.tb
   unfold q3D at kk
   rw[hpn]at kk
   have e:pgV q.P q.fi (some b)=V.int ((b:Int)*m.pg+q.fi.getD b 0):=by
    rw[eP]
    rfl
   have kk:Q (pgV q.P q.fi (some b)) H1:=kk
   rw[e]at kk
   exact kk
  |none=>
   refine⟨_,rfl,rfl,_,rfl,iteF ?_⟩
   refine⟨_,rfl,x.s,x.sd,_,rfl,h1.o,rfl,x,r2,r3,r4,r5,m,q,rfl,h1,ft,λl p H2 hl np k2 tb2 h2=>?_⟩
   have h2':=h1.kT k2 tb2
   refine⟨_,rfl,sz0,λe H3 n3 s3 h3=>⟨p,_,e,rfl,rfl,SqL.of (s3 _ _ h2),SqL.of h3,_,rfl,?_⟩⟩
   have h3':=h2'.same s3
   have kk:=k l H3 hl (((Keep.same s1).trans k2).trans (Keep.same s3)) (tb2.same s3)
   unfold q3D at kk
   rw[hpn]at kk
   cases l with
   |nil=>
    refine iteT ?_
    exact kk
   |cons b r=>
    refine iteF ?_
    have hb:=hl.mem (mL (a:=b) (l:=r))
    refine⟨_,rfl,p,_,0,.int (b:Int),rfl,rfl,SqL.of (s3 _ _ h2),yC (j:=0) rfl,_,rfl,x.s,_,x.sd,_,_,rfl,h3'.o,T.cl_Store,T.na_Store_terms,rfl,x.tm,_,x.td,_,_,rfl,h3'.te,T.cl_Terms,T.na_Terms_pages,rfl,_,_,rfl,rfl,.inl ⟨by omega,by omega⟩,?_⟩
    have e:pgV q.P q.fi ((b::r).head?)=V.int ((b:Int)*m.pg):=by
     show V.int ((b:Int)*(q.P:Int)+q.fi.getD b 0)=_
     rw[hb.2.2,eP,Int.add_zero]
    have kk:Q (pgV q.P q.fi ((b::r).head?)) H3:=kk
    rw[e]at kk
    exact kk
noncomputable def qBJ(t:Adr):Sp:=λvs H Q E=>∃x r2 r3 r4 r5 m q n v,vs=[.ref x.s,.int n,.int v]∧StAt t H x r2 r3 r4 r5 m q∧Fit m q∧Gd m∧m.rc.length<1000000∧∀l,FreeIs q.B m.br m.cl q.fi l→∃b f:Nat,q3D q.B q.P m.br q.fi l=some b∧q.fi.getD b 0=(f:Int)∧m.bo.getD (b*q.P+f) .non=.non∧
 ∀tp H',H' tp=some (.tup [.int (q.nx*128+n),.int v])→Keep (t.T_Plain_free::sf x) H H'→StAt t H' x r2 r3 r4 r5 (putC m (b*q.P+f) (.ref tp)) (q.put b f n)→Q (.int ((b*q.P+f:Nat):Int)) H'
theorem StAt.put{H H':Hp}{x:Sto}{r2 r3 r4 r5:V}{m m':CM}{q:QM}(h:StAt t H x r2 r3 r4 r5 m q)(hc:ChipAt t.C_Chip H' x.c x.a m')(k:Keep (foot x.c x.a) H H')(e1:m'.bl=m.bl)(e2:m'.pg=m.pg):StAt t H' x r2 r3 r4 r5 m' q:=by
 have nf:∀b∈bf x.k,b∉foot x.c x.a:=λb hb z=>h.d1 b (kE _ z) hb
 have n2:∀b∈[x.s,x.tm],b∉foot x.c x.a:=λb hb z=>h.d2 b hb (by unfold sf;exact List.mem_append_left _ z)
 obtain⟨ps,hT,hc'⟩:=h.tb
 have nT:t.T_Plain_free∉foot x.c x.a:=λz=>h.nT t.T_Plain_free (by simp[sf,z]) (by simp)
 refine⟨k.k _ _ (n2 _ (by simp)) h.o,by rw[e1,e2];exact k.k _ _ (n2 _ (by simp)) h.te,hc,h.bk.keep k nf,⟨ps,k.k _ _ nT hT,?_⟩,h.ds,h.d1,h.d2⟩
 rcases hc' with z|⟨c,z,hcd⟩
 ·exact .inl z
 ·refine .inr ⟨c,z,k.k _ _ (λy=>?_) hcd⟩
  have y:c=x.c∨c=x.a.bo∨c=x.a.cl∨c=x.a.dc∨c=x.a.br∨c=x.a.rc:=by simpa[foot]using y
  obtain⟨rs,er,_⟩:=h.ch.rc
  rcases y with y|y|y|y|y|y<;>rw[y]at hcd
  ·rw[h.ch.ins]at hcd;cases hcd
  ·rw[h.ch.bo]at hcd;cases hcd
  ·rw[h.ch.cl]at hcd;cases hcd
  ·rw[h.ch.dc]at hcd;cases hcd
  ·rw[h.ch.br]at hcd;cases hcd
  ·rw[er]at hcd;cases hcd
theorem StAt.note{H H':Hp}{x:Sto}{r2 r3 r4 r5:V}{m:CM}{q q':QM}(h:StAt t H x r2 r3 r4 r5 m q)(hb:BkAt t H' x.k q')(k:Keep (bf x.k) H H'):StAt t H' x r2 r3 r4 r5 m q':=by
 have n2:∀b∈[x.s,x.tm],b∉bf x.k:=λb hb z=>h.d2 b hb (by unfold sf;exact mO _ z)
 obtain⟨ps,hT,hc'⟩:=h.tb
 have nT:t.T_Plain_free∉bf x.k:=λz=>h.nT t.T_Plain_free (by simp[sf,z]) (by simp)
 refine⟨k.k _ _ (n2 _ (by simp)) h.o,k.k _ _ (n2 _ (by simp)) h.te,h.ch.keep k h.d1,hb,⟨ps,k.k _ _ nT hT,?_⟩,h.ds,h.d1,h.d2⟩
 rcases hc' with z|⟨c,z,hcd⟩
 ·exact .inl z
 ·refine .inr ⟨c,z,k.k _ _ (λy=>?_) hcd⟩
  have y:c=x.k.bk∨c=x.k.wv∨c=x.k.lv∨c=x.k.fi∨c=x.k.bo:=by simpa[bf]using y
  rcases y with y|y|y|y|y<;>rw[y]at hcd
  ·rw[h.bk.o]at hcd;cases hcd
  ·rw[h.bk.w]at hcd;cases hcd
  ·rw[h.bk.l]at hcd;cases hcd
  ·rw[h.bk.f]at hcd;cases hcd
  ·rw[h.bk.b]at hcd;cases hcd
theorem q4I(T:Txt K mg t)(S:Fns K t)(B:BmIn base mg):S.Plain_set_down.Ok0 P w mg base 10 (qBJ t):=by
 refine S.Plain_set_down.F.ok0 q02 λcdv A _ s H vs Q E hr h=>?_
 ·obtain⟨x,r2,r3,r4,r5,m,q,n,v,rfl,hs,ft,gd,hrc,k⟩:=h
  refine⟨_,(qB (qV (i:=3) q02.nd rfl (Or.inl rfl) (jC (pv 0) T.cl_Store T.m_Store_spot (q87 T S B).mono hr S.Plain_spot.b .nil qK)) (qB (jB (qS qBY (pv 3) vS (qU _)) (qE qZ) qQ) (qB (jA (qT (qJ (pv 0) rfl) T.cl_Chip T.m_Chip_put (qBI T S).mono hr S.Chip_put.b .nil qK (qA (pv 3) (qA (yP (qA (qT (qJ (pv 0) rfl) T.cl_Book T.m_Book_mark (qA5 T S).mono hr S.Book_mark.b .nil qK (qA (pv 1) qC)) (qA (pv 2) qC))) qC q49)))) (qB (jA (qT (qJ (pv 0) rfl) T.cl_Book T.m_Book_note (qA6 T S).mono hr S.Book_note.b .nil qK (qA (pv 3) (qA (pv 1) qC)))) (qE (qL (pv 3))))))),?_⟩
  try dsimp-beta-proj-iota-zeta-eta only[wishK,cxK]
  refine⟨_,rfl,x.s,x.sd,_,rfl,hs.o,rfl,x,r2,r3,r4,r5,m,q,rfl,hs,ft,λl H1 hl k1 tb1=>?_⟩
  have hs1:=hs.kT k1 tb1
  obtain⟨b,f,hsp,ef,hn,kk⟩:=k l hl
  rw[hsp]
  obtain⟨hB,hbr,f0,f1⟩:=q6Z hl ft.oq.p1 hsp
  have hf:f<q.P:=by omega
  have epg:pgV q.P q.fi (some b)=V.int ((b*q.P+f:Nat):Int):=by
   show V.int ((b:Int)*(q.P:Int)+q.fi.getD b 0)=_
   rw[ef,Int.natCast_add,Int.natCast_mul]
  rw[epg]
  refine⟨_,rfl,rfl,_,rfl,iteF ?_⟩
  refine⟨_,rfl,x.s,_,x.sd,_,_,rfl,hs1.o,T.cl_Store,T.na_Store_chip,rfl,x.c,x.a.dx,_,rfl,hs1.ch.ins,rfl,_,rfl,?_⟩
  refine⟨_,rfl,x.s,_,x.sd,_,_,rfl,hs1.o,T.cl_Store,T.na_Store_book,rfl,x.k.bk,x.k.dx,_,rfl,hs1.bk.o,rfl,_,rfl,x.k,q,n,rfl,hs1.bk,_,rfl,sz2,λtp H2 n2 s2 e2=>?_⟩
  have hs2:=hs1.same s2
  have hpg:((b*q.P+f:Nat):Int)≤m.bl*m.pg-1:=by
   rw[ft.eB,ft.eP,←Int.natCast_mul]
   have:b*q.P+f<q.B*q.P:=(Nat.div_lt_iff_lt_mul (by omega)).mp (by rw[u7 hf];exact hB)
   omega
  refine⟨x.c,x.a,m,_,.ref tp,rfl,hs2.ch,ft.ok,hrc,gd,hpg,hn,λH3 hc3 k3=>?_⟩
  have hs3:=hs2.put hc3 k3 rfl rfl
  refine⟨_,rfl,x.s,_,x.sd,_,_,rfl,hs3.o,T.cl_Store,T.na_Store_book,rfl,x.k.bk,x.k.dx,_,rfl,hs3.bk.o,rfl,_,rfl,_,rfl,x.k,q,b,f,n,rfl,hs3.bk,ft.oq,hs3.ds,hB,hf,ef,λH4 hb4 k4=>⟨_,rfl,?_⟩⟩
  exact kk tp H4 (k4.tp _ _ (k3.tp _ _ e2)) ((((k1.mono (by simp)).trans (Keep.same s2)).trans (k3.mono (λb hb=>by unfold sf;exact kE _ (List.mem_append_left _ hb)))).trans (k4.mono (λb hb=>by unfold sf;exact kE _ (mO _ hb)))) (hs3.note hb4 k4)
theorem q4J(T:Txt K mg t)(S:Fns K t)(B:BmIn base mg):S.Plain_lay.Ok0 P w mg base 11 (qBJ t):=by
 refine S.Plain_lay.F.ok0 q9W λcdv A _ s H vs Q E hr h=>?_
 ·obtain⟨x,r2,r3,r4,r5,m,q,n,v,rfl,hs,k⟩:=h
  refine⟨_,(qE (qL (qT (pv 0) T.cl_Store T.m_Store_set_down (q4I T S B).mono hr S.Plain_set_down.b .nil qK (qA (pv 1) (qA (pv 2) qC))))),?_⟩
  try dsimp-beta-proj-iota-zeta-eta only[wishK,cxK]
  exact⟨_,rfl,x.s,x.sd,_,rfl,hs.o,rfl,_,rfl,_,rfl,x,r2,r3,r4,r5,m,q,n,v,rfl,hs,k⟩
noncomputable def hdN(W:Mp):List Int:=(W.map (·.1)).filter λn=>decide (n≠64)
noncomputable def spHe(t:Adr):Sp:=λvs H Q _=>∃a,∃m:QM,vs=[.ref a.bk]∧BkAt t H a m∧m.Ok∧(hdN m.V).length<64∧∀l ns H',Same H H'→H l=none→H' l=some (.lst (List.map V.int ns))→ns.Perm (hdN m.V)→ns.Pairwise (·≤·)→Q (.ref l) H'
theorem qA7(T:Txt K mg t)(S:Fns K t):S.Book_held.Ok0 P w mg base 1 (spHe t):=by
 refine S.Book_held.F.ok0 q9V λcdv A _ s H vs Q E hr h=>?_
 ·obtain⟨a,m,rfl,hb,ok,hl64,q⟩:=h
  have hu:=q1X hr
  have lV:m.V.length≤65:=ok.lenV
  refine⟨_,(qE (qL (qW q9E (by rfl) T.b_sorted (by kernel_rfl) (qA (qD2 (yH ["name"] [] rfl (qH8 (qJ (pv 0) rfl)) (λ_ _ _ _ _=>(qX (i:=0) (show List.Nodup (["name"]:List Str)from by decide) rfl (Or.inl rfl))) (λ_ _ _ _ _=>(uJ (qS qAI (pv 0) (q1B rfl T.mg_ROLL ⟨_,rfl⟩ (v:=.int 64)) (qU _)))) (λ_ _ _ _ _=>(pv 0)) (by kernel_rfl) (jM (by decide)))) qC)))),?_⟩
  try dsimp-beta-proj-iota-zeta-eta only[wishK,cxK]
  refine⟨a.wv,_,hb.w,_,rfl,a.bk,_,a.dx,_,_,rfl,hb.o,T.cl_Book,T.na_Book_where,rfl,a.wv,_,rfl,hb.w,λo D H2 nD s2 hD=>?_⟩
  have kk:∀x u,x≠a.wv→H x=some u→H2 x=some u:=λx u nx e=>s2 _ _ (by rw[qD nx];exact e)
  have fz:H2 a.wv=some (.frz o (.dK (dI m.V))):=s2 _ _ qH
  have Dw:D≠a.wv:=λz=>by rw[z,fz]at hD;cases hD
  have nDH:H D=none:=by
   rw[qD Dw]at nD
   exact nD
  refine qG0 (D:=D) (λi H3=>H3 a.wv=some (.frz o (.dK (dI m.V)))∧(∀x u,x≠a.wv→H x=some u→H3 x=some u)∧H3 D=some (.lst ((hdN (m.V.take i)).map V.int))) ⟨fz,kk,hD⟩ (λi H3 hp=>hp.1) (λi kv H3 hk hp=>?_) (λH3 hp=>?_)
  ·obtain⟨fz3,k3,hd⟩:=hp
   have hi:i<m.V.length:=by
    have:=(hG.mp hk).1
    rw[q55]at this
    exact this
   obtain rfl:((Sum.inl m.V[i].1:Key),V.int m.V[i].2)=kv:=by
    have e:(dI m.V)[i]?=some ((Sum.inl m.V[i].1:Key),V.int m.V[i].2):=by unfold dI;rw[kN,hE hi];rfl
    rw[e]at hk
    exact kF hk
   have tk:m.V.take (i+1)=m.V.take i++[m.V[i]]:=(mB hi).symm
   show q0U _ (V.int m.V[i].1) _ _ _
   refine⟨_,rfl,rfl,_,rfl,?_⟩
   rw[yM]
   by_cases e:m.V[i].1=64
   ·rw[hI e]
    refine iteF ?_
    refine⟨fz3,k3,?_⟩
    have:hdN (m.V.take (i+1))=hdN (m.V.take i):=by
     unfold hdN
     rw[tk,kU,gI]
     simp[e]
    rw[this]
    exact hd
   ·rw[hV e]
    refine iteT ?_
    refine⟨_,rfl,_,hd,?_,?_,λx u nx e'=>?_,?_⟩
    ·rw[hC]
     have l2:(hdN (m.V.take i)).length≤65:=by
      unfold hdN
      refine mD (kY _ _) ?_
      rw[hC,gA]
      omega
     have:(65:Nat)<sizeLine:=by decide
     omega
    ·rw[qD Dw.symm]
     exact fz3
    ·rw[qD (qI e' nDH)]
     exact k3 _ _ nx e'
    ·have:hdN (m.V.take (i+1))=hdN (m.V.take i)++[m.V[i].1]:=by
      unfold hdN
      rw[tk,kU,gI]
      simp[e]
     rw[qH,this,kU]
     rfl
  ·obtain⟨fz3,k3,hd⟩:=hp
   rw[q55,mZ]at hd
   refine⟨o,_,fz3,?_⟩
   have sH:Same H (upd H3 a.wv (.dK (dI m.V))):=qG1 hb.w k3
   have hd4:(upd H3 a.wv (.dK (dI m.V))) D=some (.lst ((hdN m.V).map V.int)):=by rw[qD Dw];exact hd
   generalize upd H3 a.wv (.dK (dI m.V))=H4 at sH hd4 ⊢
   refine⟨D,hdN m.V,rfl,SqL.of hd4,by omega,λns pp pw l H5 n5 s5 h5=>?_⟩
   exact q l ns H5 (sH.trans s5) (sH.free n5) h5 pp pw
structure HeldIs(q:QM)(ns:List Int):Prop where
 pm:ns.Perm (hdN q.V)
 so:ns.Pairwise (·≤·)
noncomputable def spHd(t:Adr):Sp:=λvs H Q _=>∃x r2 r3 r4 r5 m q,vs=[.ref x.s]∧StAt t H x r2 r3 r4 r5 m q∧Fit m q∧(hdN q.V).length<64∧∀l ns H',HeldIs q ns→Same H H'→H l=none→H' l=some (.lst (List.map V.int ns))→Q (.ref l) H'
theorem q88(T:Txt K mg t)(S:Fns K t):S.Plain_held.Ok0 P w mg base 2 (spHd t):=by
 refine S.Plain_held.F.ok0 q81 λcdv A _ s H vs Q E hr h=>?_
 ·obtain⟨x,r2,r3,r4,r5,m,q,rfl,hs,ft,h64,k⟩:=h
  refine⟨_,(qE (qL (jC (qJ (pv 0) rfl) T.cl_Book T.m_Book_held (qA7 T S).mono hr S.Book_held.b .nil qK))),?_⟩
  try dsimp-beta-proj-iota-zeta-eta only[wishK,cxK]
  exact⟨_,rfl,x.s,_,x.sd,_,_,rfl,hs.o,T.cl_Store,T.na_Store_book,rfl,x.k.bk,x.k.dx,_,rfl,hs.bk.o,rfl,x.k,q,rfl,hs.bk,ft.oq,h64,λl ns H' s' n' h' pm so=>k l ns H' ⟨pm,so⟩ s' n' h'⟩
noncomputable def spCs(t:Adr):Sp:=λvs H Q E=>∃x r3 r4 r5 m q v,∃sh:Int,vs=[.ref x.s,v]∧StAt t H x (.int sh) r3 r4 r5 m q∧Knd H v∧(if inB v 0 (sh-1)=true then Q .non H else False)
theorem q2V(T:Txt K mg t)(S:Fns K t):S.Plain_check_sheet.Ok0 P w mg base 3 (spCs t):=by
 refine S.Plain_check_sheet.F.ok0 q2T λcdv A _ s H vs Q E hr h=>?_
 ·obtain⟨x,r3,r4,r5,m,q,v,sh,rfl,hs,kn,k⟩:=h
  refine⟨_,(qE (jB (yL (jW (qM (jD T S).mono hr rfl T.mg_is_within T.kp_is_within S.is_within.b .nil qK (qA (pv 1) (qA qG (qA (qN jR (qJ (qJ (pv 0) rfl) rfl) qG) qC)))))) (qE qZ) qQ)),?_⟩
  try dsimp-beta-proj-iota-zeta-eta only[wishK,cxK]
  refine⟨_,rfl,_,rfl,x.s,_,x.sd,_,_,rfl,hs.o,T.cl_Store,T.na_Store_terms,rfl,x.tm,_,x.td,_,_,rfl,hs.te,T.cl_Terms,T.na_Terms_sheets,rfl,_,_,rfl,rfl,v,_,_,rfl,kn,_,rfl,?_⟩
  cases z:inB v 0 (sh-1)with
  |true=>
   rw[z,kG rfl]at k
   exact iteF k
  |false=>
   rw[z,hX (by decide)]at k
   exact k.elim
theorem qBK(T:Txt K mg t)(S:Fns K t):S.is_value.Ok0 P w mg base 3 (λvs H Q _=>∃v,vs=[v]∧Knd H v∧Q (.bl (inB v 0 (10 ^ 30-1))) H):=by
 refine S.is_value.F.ok0 qBB λcdv A _ s H vs Q E hr h=>?_
 ·obtain⟨v,rfl,kn,k⟩:=h
  refine⟨_,(qE (qL (qM (jD T S).mono hr rfl T.mg_is_within T.kp_is_within S.is_within.b .nil qK (qA (pv 0) (qA qG (qA (qN jR (qN qIN qG qG) qG) qC)))))),?_⟩
  try dsimp-beta-proj-iota-zeta-eta only[wishK,cxK]
  exact⟨_,rfl,_,_,rfl,rfl,⟨by decide,by decide,by decide⟩,_,_,rfl,rfl,v,_,_,rfl,kn,k⟩
noncomputable def hold(q:QM)(s:Int):Bool:=decide (s∈hdN q.V)
theorem qDH{s:Int}:∀{ns:List Int},inV (.int s) (ns.map V.int)=decide (s∈ns)
 | []=>rfl
 |n::r=>by
  have ih:=qDH (s:=s) (ns:=r)
  unfold inV at ih ⊢
  rw[mJ,List.any_cons,ih]
  by_cases e:n=s
  ·subst e
   simp[eqV]
  ·have e':¬s=n:=λz=>e z.symm
   simp[eqV,e,e']
theorem qIB{ns:List Int}:(ns.map V.int).all q0V=true:=by
 rw[gW]
 intro v hv
 obtain⟨n,_,rfl⟩:=kX.mp hv
 rfl
theorem HeldIs.hold{q:QM}{ns:List Int}(h:HeldIs q ns)(s:Int):decide (s∈ns)=hold q s:=by
 unfold W1.hold
 by_cases z:s∈ns
 ·rw[hI z,hI (h.pm.mem_iff.mp z)]
 ·rw[hV z,hV (λy=>z (h.pm.mem_iff.mpr y))]
noncomputable def spSh(t:Adr):Sp:=λvs H Q E=>∃x r2 r4 r5 m q,∃s sr:Int,vs=[.ref x.s,.int s]∧StAt t H x r2 (.int sr) r4 r5 m q∧Fit m q∧(hdN q.V).length<64∧∀H',Same H H'→if hold q s=false∧sr≤((hdN q.V).length:Int)then False else Q .non H'
theorem q2W(T:Txt K mg t)(S:Fns K t):S.Plain_check_share.Ok0 P w mg base 3 (spSh t):=by
 refine S.Plain_check_share.F.ok0 vP λcdv A _ s H vs Q E hr h=>?_
 ·obtain⟨x,r2,r4,r5,m,q,s,sr,rfl,hs,ft,h64,k⟩:=h
  refine⟨_,(qB (qV (i:=2) vP.nd rfl (Or.inl rfl) (jC (pv 0) T.cl_Store T.m_Store_held (q88 T S).mono hr S.Plain_held.b .nil qK)) (qE (jB (PW.pt (qBV (qS q98 (pv 1) (pv 2) rfl) (q93 (qS qCQ (qW j8 (by rfl) T.b_len m7 (qA (pv 2) qC)) (qJ (qJ (pv 0) rfl) rfl) (qU _))))) (qE qZ) qQ))),?_⟩
  try dsimp-beta-proj-iota-zeta-eta only[wishK,cxK]
  refine⟨_,rfl,x.s,x.sd,_,rfl,hs.o,rfl,x,r2,.int sr,r4,r5,m,q,rfl,hs,ft,h64,λl ns H1 hn s1 n1 h1=>?_⟩
  refine⟨_,rfl,_,rfl,?_⟩
  refine⟨l,_,rfl,.inl (SqL.of h1),rfl,qIB,_,rfl,?_⟩
  have kk:=k H1 s1
  have e:inV (.int s) (ns.map V.int)=hold q s:=by rw[qDH];exact hn.hold s
  show if(!inV (.int s) (ns.map V.int))=true then _ else _
  rw[e]
  cases z:hold q s with
  |true=>
   rw[z,hX (λy=>by cases y.1)]at kk
   exact iteF kk
  |false=>
   refine iteT ?_
   refine⟨_,rfl,l,_,rfl,.inl (SqL.of h1),_,rfl,x.s,_,x.sd,_,_,rfl,(hs.same s1).o,T.cl_Store,T.na_Store_terms,rfl,x.tm,_,x.td,_,_,rfl,(hs.same s1).te,T.cl_Terms,T.na_Terms_share,rfl,_,_,rfl,rfl,_,rfl,?_⟩
   rw[hC,hn.pm.length_eq]
   by_cases y:sr≤((hdN q.V).length:Int)
   ·rw[hI y]
    rw[kG ⟨z,y⟩]at kk
    exact kk.elim
   ·rw[hV y]
    rw[hX (λw=>y w.2)]at kk
    exact iteF kk
theorem qK1{B0 P1:Nat}(b2:B0≤16)(p1:1≤P1)(p2:P1≤16):(bk0 B0 P1).Ok:=by
 refine⟨p1,p2,b2,mS,mS,mS,by simp[bk0],λq hq=>absurd (show q∈([]:Mp)from hq) (by simp),λq hq=>absurd (show q∈([]:Mp)from hq) (by simp),λb hb=>⟨0,?_,mN _⟩⟩
 show(List.replicate B0 (0:Int)).getD b 0=_
 rw[rep8]
 rfl
theorem qBL{v lo hi:Int}(h1:lo≤v)(h2:v≤hi):inB (.int v) lo hi=true:=by
 show(decide (lo≤v)&&decide (v≤hi))=true
 rw[hI h1,hI h2]
 rfl
theorem qEL{K:W.Frag}{H:Hp}{a b:Addr}{xs:List V}(ha:SqL K H a xs)(hb:SqL K H b xs)(f:xs.all q0V=true):Eqv K H 6 (.ref a) (.ref b):=
 .lst ha hb rfl λj x y hx hy=>by
  obtain rfl:x=y:=kF (hx.symm.trans hy)
  exact .flat (gW.mp f x (mG hx))
noncomputable def spRs(t:Adr):Sp:=λvs H Q _=>∃x r2 r3 r5 m q,∃ie:Int,vs=[.ref x.s]∧StAt t H x r2 r3 (.int ie) r5 m q∧Q (.int (1+ie)) H
theorem q17(T:Txt K mg t)(S:Fns K t):S.Store_reserve.Ok0 P w mg base 1 (spRs t):=by
 refine S.Store_reserve.F.ok0 q53 λcdv A _ s H vs Q E hr h=>?_
 ·obtain⟨x,r2,r3,r5,m,q,ie,rfl,hs,k⟩:=h
  refine⟨_,(qE (qL (qN yI qG (qJ (qJ (pv 0) rfl) rfl)))),?_⟩
  try dsimp-beta-proj-iota-zeta-eta only[wishK,cxK]
  exact⟨_,rfl,x.s,_,x.sd,_,_,rfl,hs.o,T.cl_Store,T.na_Store_terms,rfl,x.tm,_,x.td,_,_,rfl,hs.te,T.cl_Terms,T.na_Terms_ill,rfl,_,_,rfl,rfl,k⟩
noncomputable def spRd(t:Adr):Sp:=λvs H Q _=>∃x r2 r3 r5 m q,∃ie:Int,vs=[.ref x.s]∧StAt t H x r2 r3 (.int ie) r5 m q∧Fit m q∧∀l H',FreeIs q.B m.br m.cl q.fi l→Keep [t.T_Plain_free] H H'→TbF t H'→Q (.bl (rdy ie l (jJ q.B q.P m.br q.fi))) H'
theorem q7E(T:Txt K mg t)(S:Fns K t)(B:BmIn base mg):S.Plain_ready.Ok0 P w mg base 9 (spRd t):=by
 refine S.Plain_ready.F.ok0 q2S λcdv A _ s H vs Q E hr h=>?_
 ·obtain⟨x,r2,r3,r5,m,q,ie,rfl,hs,ft,k⟩:=h
  refine⟨_,(qB (qV (i:=1) q2S.nd rfl (Or.inl rfl) (qN jR (qW j8 (by rfl) T.b_len m7 (qA (jC (pv 0) T.cl_Store T.m_Store_free (q0S T S B).mono hr S.b_Plain_free .nil qK) qC)) (jC (pv 0) T.cl_Store T.m_Store_reserve (q17 T S).mono hr S.Store_reserve.b .nil qK))) (qE (qL (qHZ (uV q8H (pv 1) qG (qU _)) (q1D (q3G (uV u9 (pv 1) qG (qU _)) (q1D (uV q5U (jC (pv 0) T.cl_Store T.m_Store_part (q0T T S).mono hr S.Plain_part.b .nil qK) vS (qU _))))))))),?_⟩
  try dsimp-beta-proj-iota-zeta-eta only[wishK,cxK]
  refine⟨_,rfl,x.s,x.sd,_,rfl,hs.o,rfl,x,r2,r3,_,r5,m,q,rfl,hs,ft,λl p H1 hl np k1 tb1 h1=>?_⟩
  have hs1:=hs.kT k1 tb1
  refine⟨p,_,rfl,.inl (SqL.of h1),_,rfl,x.s,x.sd,_,rfl,hs1.o,rfl,x,r2,r3,r5,m,q,ie,rfl,hs1,_,_,rfl,rfl,?_⟩
  refine⟨_,rfl,_,_,rfl,rfl,_,rfl,?_⟩
  have kk:=λH' s'=>k l H' hl (k1.trans (Keep.same s')) (tb1.same s')
  unfold rdy at kk
  rw[hC]
  by_cases z:(l.length:Int)-(1+ie)>0
  ·rw[hI z]
   refine iteT ?_
   have:=kk H1 (Same.refl H1)
   rw[hI z]at this
   exact this
  ·rw[hV z]
   refine iteF ?_
   rw[hV z]at kk
   refine⟨_,rfl,rfl,_,rfl,?_⟩
   rw[yM]
   by_cases e0:(l.length:Int)-(1+ie)=0
   ·rw[hI e0]
    rw[hI e0]at kk
    refine iteT ?_
    refine⟨_,rfl,x.s,x.sd,_,rfl,hs1.o,rfl,x,r2,r3,_,r5,m,q,rfl,hs1,ft,λH2 s2=>⟨rfl,?_⟩⟩
    have:=kk H2 s2
    cases hp:jJ q.B q.P m.br q.fi with
    |none=>
     rw[hp]at this
     exact this
    |some b=>
     rw[hp]at this
     exact this
   ·rw[hV e0]
    rw[hV e0]at kk
    refine iteF ?_
    exact kk H1 (Same.refl H1)
noncomputable def spTy(t:Adr):Sp:=λvs H Q _=>∃x r2 r3 r4 r5 m q,∃b:Nat,vs=[.ref x.s,.int (b:Int)]∧StAt t H x r2 r3 r4 r5 m q∧Fit m q∧b<q.B∧NewO H (.tup (tyL m q b)) Q
theorem q7F(T:Txt K mg t)(S:Fns K t):S.Store_tally.Ok0 P w mg base 5 (spTy t):=by
 refine S.Store_tally.F.ok0 q79 λcdv A _ s H vs Q E hr h=>?_
 ·obtain⟨x,r2,r3,r4,r5,m,q,b,rfl,hs,ft,hb,k⟩:=h
  have eB:=ft.eB
  refine⟨_,(qE (qL (yP (qA (pv 1) (qA (qY jE (qJ (qJ (pv 0) rfl) rfl) (pv 1) (λ_ _=>rfl)) (qA (qT (qJ (pv 0) rfl) T.cl_Chip T.m_Chip_cleared (q20 T S).mono hr S.Chip_cleared.b .nil qK (qA (pv 1) qC)) (qA (qY jE (qJ (qJ (pv 0) rfl) rfl) (pv 1) (λ_ _=>rfl)) qC))))))),?_⟩
  try dsimp-beta-proj-iota-zeta-eta only[wishK,cxK]
  refine⟨_,rfl,_,rfl,x.s,_,x.sd,_,_,rfl,hs.o,T.cl_Store,T.na_Store_book,rfl,x.k.bk,_,x.k.dx,_,_,rfl,hs.bk.o,T.cl_Book,T.na_Book_live,rfl,_,rfl,x.k.lv,_,_,_,rfl,rfl,SqL.of hs.bk.l,atV (by rw[ft.oq.ll];exact hb),?_⟩
  refine⟨_,rfl,x.s,_,x.sd,_,_,rfl,hs.o,T.cl_Store,T.na_Store_chip,rfl,x.c,x.a.dx,_,rfl,hs.ch.ins,rfl,_,rfl,x.c,x.a,m,_,rfl,hs.ch,ft.ok,by omega,by omega,?_⟩
  rw[mH]
  refine⟨_,rfl,x.s,_,x.sd,_,_,rfl,hs.o,T.cl_Store,T.na_Store_book,rfl,x.k.bk,_,x.k.dx,_,_,rfl,hs.bk.o,T.cl_Book,T.na_Book_born,rfl,_,rfl,x.k.bo,_,_,_,rfl,rfl,SqL.of hs.bk.b,atV (by rw[ft.oq.lo];exact hb),?_⟩
  exact⟨sz4,k⟩
noncomputable def spSc(t:Adr):Sp:=λvs H Q _=>∃x r2 r3 r5 m q,∃ie:Int,vs=[.ref x.s]∧StAt t H x r2 r3 (.int ie) r5 m q∧Fit m q∧∀l H',FreeIs q.B m.br m.cl q.fi l→Keep [t.T_Plain_free] H H'→TbF t H'→Q (.int (spcN ie l q.P q.fi (jJ q.B q.P m.br q.fi))) H'
theorem q7G(T:Txt K mg t)(S:Fns K t)(B:BmIn base mg):S.Store_space.Ok0 P w mg base 9 (spSc t):=by
 refine S.Store_space.F.ok0 q2U λcdv A _ s H vs Q E hr h=>?_
 ·obtain⟨x,r2,r3,r5,m,q,ie,rfl,hs,ft,k⟩:=h
  have eP:=ft.eP
  refine⟨_,(qB (jB (qS qCQ (qW j8 (by rfl) T.b_len m7 (qA (jC (pv 0) T.cl_Store T.m_Store_free (q0S T S B).mono hr S.b_Plain_free .nil qK) qC)) (jC (pv 0) T.cl_Store T.m_Store_reserve (q17 T S).mono hr S.Store_reserve.b .nil qK) (qU _)) (qE (qL (qJ (qJ (pv 0) rfl) rfl))) qQ) (qB (qV (i:=1) q2U.nd rfl (Or.inl rfl) (jC (pv 0) T.cl_Store T.m_Store_part (q0T T S).mono hr S.Plain_part.b .nil qK)) (qB (jB (qS qBY (pv 1) vS (qU _)) (qE (qL qG)) qQ) (qE (qL (qN jR (qJ (qJ (pv 0) rfl) rfl) (qY jE (qJ (qJ (pv 0) rfl) rfl) (pv 1) (λ_ _=>rfl)))))))),?_⟩
  try dsimp-beta-proj-iota-zeta-eta only[wishK,cxK]
  refine⟨_,rfl,x.s,x.sd,_,rfl,hs.o,rfl,x,r2,r3,_,r5,m,q,rfl,hs,ft,λl p H1 hl np k1 tb1 h1=>?_⟩
  have hs1:=hs.kT k1 tb1
  refine⟨p,_,rfl,.inl (SqL.of h1),_,rfl,x.s,x.sd,_,rfl,hs1.o,rfl,x,r2,r3,r5,m,q,ie,rfl,hs1,_,_,rfl,rfl,_,rfl,?_⟩
  have kk:=λH' s'=>k l H' hl (k1.trans (Keep.same s')) (tb1.same s')
  unfold spcN at kk
  rw[hC]
  by_cases z:1+ie≤(l.length:Int)
  ·rw[hI (show(l.length:Int)≥1+ie from z)]
   refine iteT ?_
   refine⟨_,rfl,x.s,_,x.sd,_,_,rfl,hs1.o,T.cl_Store,T.na_Store_terms,rfl,x.tm,_,x.td,_,_,rfl,hs1.te,T.cl_Terms,T.na_Terms_pages,rfl,?_⟩
   have:=kk H1 (Same.refl H1)
   rw[kG z,←eP]at this
   exact this
  ·rw[hV (show ¬(l.length:Int)≥1+ie from z)]
   refine iteF ?_
   refine⟨_,rfl,x.s,x.sd,_,rfl,hs1.o,rfl,x,r2,r3,_,r5,m,q,rfl,hs1,ft,λH2 s2=>?_⟩
   have kk:=kk H2 s2
   rw[hX z]at kk
   cases hp:jJ q.B q.P m.br q.fi with
   |none=>
    rw[hp]at kk
    exact⟨_,rfl,rfl,_,rfl,iteT kk⟩
   |some b=>
    rw[hp]at kk
    have hs2:=hs1.same s2
    refine⟨_,rfl,rfl,_,rfl,iteF ?_⟩
    refine⟨_,rfl,x.s,_,x.sd,_,_,rfl,hs2.o,T.cl_Store,T.na_Store_terms,rfl,x.tm,_,x.td,_,_,rfl,hs2.te,T.cl_Terms,T.na_Terms_pages,rfl,_,rfl,x.s,_,x.sd,_,_,rfl,hs2.o,T.cl_Store,T.na_Store_book,rfl,x.k.bk,_,x.k.dx,_,_,rfl,hs2.bk.o,T.cl_Book,T.na_Book_filled,rfl,_,rfl,x.k.fi,_,_,_,rfl,rfl,SqL.of hs2.bk.f,atV (by rw[ft.oq.lf];exact(q1G hp).1),_,_,rfl,rfl,?_⟩
    rw[eP]
    exact kk
noncomputable abbrev Tys(H:Hp)(m:CM)(q:QM):List V→List Nat→Prop:=Paired λv b=>∃p,v=.ref p∧H p=some (.tup (tyL m q b))
theorem q7H{F:List Addr}{H H':Hp}{m:CM}{q:QM}(k:Keep F H H'){rs:List V}{L:List Nat}(r:Tys H m q rs L):Tys H' m q rs L:=Paired.mapP r λv d ⟨p,e,h⟩=>⟨p,e,k.tp _ _ h⟩
noncomputable def spFo(t:Adr):Sp:=λvs H Q _=>∃x r2 r3 r5 m q,∃ie:Int,vs=[.ref x.s]∧StAt t H x r2 r3 (.int ie) r5 m q∧Fit m q∧∀l p rs H',FreeIs q.B m.br m.cl q.fi l→H p=none→Keep [t.T_Plain_free] H H'→TbF t H'→H' p=some (.lst rs)→Tys H' m q rs ((yA q.B q.P m.br q.fi).filter λb=>decide (q.lv.getD b 0≤spcN ie l q.P q.fi (jJ q.B q.P m.br q.fi)))→Q (.ref p) H'
theorem q40(T:Txt K mg t)(S:Fns K t)(B:BmIn base mg):S.Store_full_ones.Ok0 P w mg base 10 (spFo t):=by
 refine S.Store_full_ones.F.ok0 yT λcdv A _ s H vs Q E hr h=>?_
 ·obtain⟨x,r2,r3,r5,m,q,ie,rfl,hs,ft,k⟩:=h
  have b2:=ft.oq.b2
  have eP:=ft.eP
  have sz:(16:Nat)<sizeLine:=by decide
  have fl:(yA q.B q.P m.br q.fi).length≤16:=mD (kY _ _) (mD (q10 (B:=q.B) (br:=m.br)) b2)
  refine⟨_,(qB (qV (i:=1) yT.nd rfl (Or.inr rfl) (jC (pv 0) T.cl_Store T.m_Store_space (q7G T S B).mono hr S.Store_space.b .nil qK)) (qB (q27 (i:=2) ["self","block"] [0] rfl (jP (jC (pv 0) T.cl_Store T.m_Store_good (q0R T S).mono hr S.Plain_good.b .nil qK)) (λ_ _ _ _ _=>(qX (i:=1) (show List.Nodup (["self","block"]:List Str)from by decide) rfl (Or.inl rfl))) (λ_ _ _ _ _=>(uJ (qS u9 (qY (vM (K:=K) rfl) (vJ (K:=K) rfl (vJ (K:=K) rfl (pv 0) rfl) rfl) (pv 1) (λ_ _=>rfl)) (vJ (K:=K) rfl (vJ (K:=K) rfl (pv 0) rfl) rfl) (qU _)))) (λ_ _ _ _ _=>(pv 1)) (by kernel_rfl) (jM (by decide)) yT.nd rfl (Or.inl rfl)) (qB (q27 (i:=3) ["self","block"] [0] rfl (jP (pv 2)) (λ_ _ _ _ _=>(qX (i:=1) (show List.Nodup (["self","block"]:List Str)from by decide) rfl (Or.inl rfl))) (λ_ _ _ _ _=>uW) (λ_ _ _ _ _=>(qT (pv 0) T.cl_Store T.m_Store_tally (q7F T S).mono hr S.Store_tally.b .nil qK (qA (pv 1) qC))) (by kernel_rfl) (jM (by decide)) yT.nd rfl (Or.inl rfl)) (qE (qL (yH ["space","tally"] [1] rfl (jP (pv 3)) (λ_ _ _ _ _=>(qX (i:=1) (show List.Nodup (["space","tally"]:List Str)from by decide) rfl (Or.inl rfl))) (λ_ _ _ _ _=>(uJ (qS qEU (qY (q4D (K:=K) rfl) (pv 1) qG (λ_ _=>rfl)) (pv 0) (qU _)))) (λ_ _ _ _ _=>(pv 1)) (by kernel_rfl) (jM (by decide)))))))),?_⟩
  try dsimp-beta-proj-iota-zeta-eta only[wishK,cxK]
  refine⟨_,rfl,x.s,x.sd,_,rfl,hs.o,rfl,x,r2,r3,r5,m,q,ie,rfl,hs,ft,λl H1 hl k1 tb1=>?_⟩
  have hs1:=hs.kT k1 tb1
  have kk:=λp rs H' np k'=>k l p rs H' hl np (k1.trans k')
  generalize spcN ie l q.P q.fi (jJ q.B q.P m.br q.fi)=sp at kk
  refine⟨_,rfl,x.s,x.sd,_,rfl,hs1.o,rfl,x,r2,r3,_,r5,m,q,rfl,hs1,ft,λp H2 n2 s2 h2=>?_⟩
  refine⟨p,rfl,⟨_,SqL.of h2⟩,λD H3 nD s3 hD=>?_⟩
  refine vN (K:=K) (xs:=(uH q.B m.br).map vn) (D:=D) (λi H3=>Same H2 H3∧H3 D=some (.lst ((((uH q.B m.br).take i).filter λb=>decide (q.fi.getD b 0=(q.P:Int))).map vn))) ⟨s3,hD⟩ (λi H3 hp=>SqL.of (hp.1 _ _ h2)) (λi y H3 hy hp=>?_) (λH3 hp=>?_)
  ·obtain⟨sm,hd⟩:=hp
   have h3:=(hs1.same s2).same sm
   rw[kN]at hy
   obtain⟨b,hb,rfl⟩:=mF.mp hy
   have hi:=(hG.mp hb).1
   have mb:=q0Z.mp (mG hb)
   refine⟨_,rfl,x.s,_,x.sd,_,_,rfl,h3.o,T.cl_Store,T.na_Store_book,rfl,x.k.bk,_,x.k.dx,_,_,rfl,h3.bk.o,T.cl_Book,T.na_Book_filled,rfl,_,rfl,x.k.fi,_,_,_,rfl,rfl,SqL.of h3.bk.f,atV (by rw[ft.oq.lf];exact mb.1),_,rfl,x.s,_,x.sd,_,_,rfl,h3.o,T.cl_Store,T.na_Store_terms,rfl,x.tm,_,x.td,_,_,rfl,h3.te,T.cl_Terms,T.na_Terms_pages,rfl,rfl,_,rfl,?_⟩
   rw[yM,eP,←mB hi,gI,kU]
   obtain rfl:(uH q.B m.br)[i]=b:=(hG.mp hb).2
   by_cases z:q.fi.getD (uH q.B m.br)[i] 0=(q.P:Int)
   ·rw[hI z]
    refine iteT ?_
    refine⟨_,rfl,_,hd,?_,λb o e=>?_,?_⟩
    ·rw[hC]
     have l1:(((uH q.B m.br).take i).filter λb=>decide (q.fi.getD b 0=(q.P:Int))).length≤q.B:=mD (kY _ _) (mD (by rw[gA];omega) (q10 (B:=q.B) (br:=m.br)))
     omega
    ·rw[qD (qI e nD)]
     exact sm _ _ e
    ·rw[qH,mY,hI z]
     rfl
   ·rw[hV z]
    refine iteF ⟨sm,?_⟩
    rw[hd,mY,hV z]
    simp
  ·obtain⟨sm,hd⟩:=hp
   rw[hC,mZ]at hd
   have hd:H3 D=some (.lst ((yA q.B q.P m.br q.fi).map vn)):=hd
   have s13:=s2.trans sm
   have h3:=hs1.same s13
   refine⟨_,rfl,D,rfl,⟨_,SqL.of hd⟩,λD2 H4 nD2 s4 hD2=>?_⟩
   refine zI (K:=K) (xs:=(yA q.B q.P m.br q.fi).map vn) (D:=D2) (λi H5=>∃rs,Same H3 H5∧H5 D2=some (.lst rs)∧Tys H5 m q rs ((yA q.B q.P m.br q.fi).take i)) ⟨_,s4,hD2,.nil⟩ (λi H5 hp=>by obtain⟨rs,sm5,_⟩:=hp;exact SqL.of (sm5 _ _ hd)) (λi y H5 hy hp=>?_) (λH5 hp=>?_)
   ·obtain⟨rs,sm5,hd5,ty⟩:=hp
    have h5:=h3.same sm5
    rw[kN]at hy
    obtain⟨b,hb,rfl⟩:=mF.mp hy
    have hi:=(hG.mp hb).1
    have mb:=q0Z.mp (m9.mp (mG hb)).1
    obtain rfl:(yA q.B q.P m.br q.fi)[i]=b:=(hG.mp hb).2
    have ln:=ty.len
    rw[gA]at ln
    refine⟨_,rfl,x.s,x.sd,_,rfl,h5.o,rfl,_,rfl,x,r2,r3,_,r5,m,q,_,rfl,h5,ft,mb.1,λtp H6 n6 s6 h6=>⟨_,s6 _ _ hd5,by omega,?_⟩⟩
    have ne:∀b o,H6 b=some (.tup o)→b≠D2:=λb o e z=>by
     rw[z,s6 _ _ hd5]at e
     cases e
    refine⟨_,λb o e=>?_,qH,?_⟩
    ·rw[qD (qI e nD2)]
     exact s6 _ _ (sm5 _ _ e)
    ·rw[←mB hi]
     refine L2.Paired.snoc (Paired.mapP ty λv d ⟨p,e,h⟩=>⟨p,e,?_⟩) ⟨tp,rfl,?_⟩
     ·rw[qD (ne _ _ (s6 _ _ h))]
      exact s6 _ _ h
     ·rw[qD (ne _ _ h6)]
      exact h6
   ·obtain⟨rs,sm5,hd5,ty⟩:=hp
    rw[hC,mZ]at ty
    have s15:=s13.trans sm5
    have h5:=hs1.same s15
    refine⟨_,rfl,D2,rfl,⟨_,SqL.of hd5⟩,λD3 H6 nD3 s6 hD3=>?_⟩
    refine vN (K:=K) (xs:=rs) (D:=D3) (λi H7=>∃rs',Same H5 H7∧H7 D3=some (.lst rs')∧rs'.length≤i∧Tys H5 m q rs' (((yA q.B q.P m.br q.fi).take i).filter λb=>decide (q.lv.getD b 0≤sp))) ⟨_,s6,hD3,kM _,.nil⟩ (λi H7 hp=>by obtain⟨_,sm7,_⟩:=hp;exact SqL.of (sm7 _ _ hd5)) (λi y H7 hy hp=>?_) (λH7 hp=>?_)
    ·obtain⟨rs',sm7,hd7,ln,ty'⟩:=hp
     obtain⟨b,hb,tp,rfl,htp⟩:=Paired.at ty hy
     have hi:=(hG.mp hb).1
     obtain rfl:(yA q.B q.P m.br q.fi)[i]=b:=(hG.mp hb).2
     refine⟨_,rfl,tp,_,_,_,rfl,rfl,SqT.of (sm7 _ _ htp),rfl,_,rfl,_,_,rfl,rfl,_,rfl,?_⟩
     have ln':=ty.len
     have hir:=(hG.mp hy).1
     have e1:((yA q.B q.P m.br q.fi).take (i+1)).filter (λb=>decide (q.lv.getD b 0≤sp))=((yA q.B q.P m.br q.fi).take i).filter (λb=>decide (q.lv.getD b 0≤sp))++(if q.lv.getD (yA q.B q.P m.br q.fi)[i] 0≤sp then[(yA q.B q.P m.br q.fi)[i]]else[]):=by
      rw[←mB hi,gI,mY]
      by_cases z:q.lv.getD (yA q.B q.P m.br q.fi)[i] 0≤sp
      ·rw[hI z,kG z];rfl
      ·rw[hV z,hX z];rfl
     rw[e1]
     by_cases z:q.lv.getD (yA q.B q.P m.br q.fi)[i] 0≤sp
     ·rw[hI z,kG z]
      refine iteT ?_
      refine⟨_,rfl,_,hd7,by omega,_,λb o e=>?_,qH,?_,L2.Paired.snoc ty' ⟨tp,rfl,htp⟩⟩
      ·rw[qD (qI e nD3)]
       exact sm7 _ _ e
      ·rw[k8]
       exact Nat.add_le_add_right ln 1
     ·rw[hV z,hX z,gB]
      exact iteF ⟨_,sm7,hd7,by omega,ty'⟩
    ·obtain⟨rs',sm7,hd7,ln,ty'⟩:=hp
     rw[ty.len,mZ]at ty'
     have s17:=s15.trans sm7
     refine kk D3 rs' H7 ?_ (Keep.same s17) (tb1.same s17) hd7 (q7H (Keep.same (F:=[]) sm7) ty')
     refine k1.none (λz=>?_) (Same.free s15 nD3)
     obtain⟨ps',hT',_⟩:=tb1.same s15
     rw[kC.mp z,hT']at nD3
     cases nD3
theorem qGJ{L:List Nat}{p:Nat→Bool}{i:Nat}(hi:i<L.length):(L.take (i+1)).filter p=(L.take i).filter p++(if p L[i]=true then[L[i]]else[]):=by
 rw[←mB hi,gI,mY]
 rfl
noncomputable def spOp(t:Adr):Sp:=λvs H Q _=>∃x r2 r3 r5 m q,∃ie:Int,vs=[.ref x.s]∧StAt t H x r2 r3 (.int ie) r5 m q∧Fit m q∧∀l p rs H',FreeIs q.B m.br m.cl q.fi l→H p=none→Keep [t.T_Plain_free] H H'→TbF t H'→H' p=some (.lst rs)→Tys H' m q rs (optN ie m q l)→Q (.ref p) H'
theorem q18(T:Txt K mg t)(S:Fns K t)(B:BmIn base mg):S.Store_with_dead_page.Ok0 P w mg base 11 (spOp t):=by
 refine S.Store_with_dead_page.F.ok0 q14 λcdv A _ s H vs Q E hr h=>?_
 ·obtain⟨x,r2,r3,r5,m,q,ie,rfl,hs,ft,k⟩:=h
  have b2:=ft.oq.b2
  have eP:=ft.eP
  have sz:(16:Nat)<sizeLine:=by decide
  have fl:(yA q.B q.P m.br q.fi).length≤16:=mD (kY _ _) (mD (q10 (B:=q.B) (br:=m.br)) b2)
  refine⟨_,(qE (qL (yH ["self","tally"] [0] rfl (jP (jC (pv 0) T.cl_Store T.m_Store_full_ones (q40 T S B).mono hr S.Store_full_ones.b .nil qK)) (λ_ _ _ _ _=>(qX (i:=1) (show List.Nodup (["self","tally"]:List Str)from by decide) rfl (Or.inl rfl))) (λ_ _ _ _ _=>(uJ (qS zZ (qY (q4D (K:=K) rfl) (pv 1) qG (λ_ _=>rfl)) (vJ (K:=K) rfl (vJ (K:=K) rfl (pv 0) rfl) rfl) (qU _)))) (λ_ _ _ _ _=>(pv 1)) (by kernel_rfl) (jM (by decide))))),?_⟩
  try dsimp-beta-proj-iota-zeta-eta only[wishK,cxK]
  refine⟨_,rfl,x.s,x.sd,_,rfl,hs.o,rfl,x,r2,r3,r5,m,q,ie,rfl,hs,ft,λl p0 rs H5 hl np k1 tb1 hd5 ty=>?_⟩
  have h5:=hs.kT k1 tb1
  have kk:=λp rs H' np=>k l p rs H' hl np
  unfold optN at kk
  have fl':=mD (kY (λb=>decide (q.lv.getD b 0≤spcN ie l q.P q.fi (jJ q.B q.P m.br q.fi))) _) fl
  generalize (yA q.B q.P m.br q.fi).filter (λb=>decide (q.lv.getD b 0≤spcN ie l q.P q.fi (jJ q.B q.P m.br q.fi)))=L at kk ty fl'
  refine⟨p0,rfl,⟨_,SqL.of hd5⟩,λD3 H6 nD3 s6 hD3=>?_⟩
  refine vN (K:=K) (xs:=rs) (D:=D3) (λi H7=>∃rs',Same H5 H7∧H7 D3=some (.lst rs')∧rs'.length≤i∧Tys H5 m q rs' ((L.take i).filter λb=>decide (q.lv.getD b 0<(q.P:Int)))) ⟨_,s6,hD3,kM _,.nil⟩ (λi H7 hp=>by obtain⟨_,sm7,_⟩:=hp;exact SqL.of (sm7 _ _ hd5)) (λi y H7 hy hp=>?_) (λH7 hp=>?_)
  ·obtain⟨rs',sm7,hd7,ln,ty'⟩:=hp
   obtain⟨b,hb,tp,rfl,htp⟩:=Paired.at ty hy
   have hi:=(hG.mp hb).1
   obtain rfl:L[i]=b:=(hG.mp hb).2
   have h7:=h5.same sm7
   refine⟨_,rfl,tp,_,_,_,rfl,rfl,SqT.of (sm7 _ _ htp),rfl,_,rfl,x.s,_,x.sd,_,_,rfl,h7.o,T.cl_Store,T.na_Store_terms,rfl,x.tm,_,x.td,_,_,rfl,h7.te,T.cl_Terms,T.na_Terms_pages,rfl,_,_,rfl,rfl,_,rfl,?_⟩
   rw[eP,qGJ hi]
   by_cases z:q.lv.getD L[i] 0<(q.P:Int)
   ·rw[hI z,kG rfl]
    refine iteT ?_
    refine⟨_,rfl,_,hd7,by omega,_,λb o e=>?_,qH,?_,L2.Paired.snoc ty' ⟨tp,rfl,htp⟩⟩
    ·rw[qD (qI e nD3)]
     exact sm7 _ _ e
    ·rw[k8]
     exact Nat.add_le_add_right ln 1
   ·rw[hV z,hX (by decide),gB]
    exact iteF ⟨_,sm7,hd7,by omega,ty'⟩
  ·obtain⟨rs',sm7,hd7,ln,ty'⟩:=hp
   rw[ty.len,mZ]at ty'
   refine kk D3 rs' H7 ?_ (k1.trans (Keep.same sm7)) (tb1.same sm7) hd7 (q7H (Keep.same (F:=[]) sm7) ty')
   refine k1.none (λz=>?_) nD3
   obtain⟨ps',hT',_⟩:=tb1
   rw[kC.mp z,hT']at nD3
   cases nD3
theorem q19(T:Txt K mg t)(S:Fns K t)(B:BmIn base mg):S.Store_options.Ok0 P w mg base 12 (spOp t):=by
 refine S.Store_options.F.ok0 q54 λcdv A _ s H vs Q E hr h=>?_
 ·obtain⟨x,r2,r3,r5,m,q,ie,rfl,hs,ft,k⟩:=h
  refine⟨_,(qE (qL (jC (pv 0) T.cl_Store T.m_Store_with_dead_page (q18 T S B).mono hr S.Store_with_dead_page.b .nil qK))),?_⟩
  try dsimp-beta-proj-iota-zeta-eta only[wishK,cxK]
  exact⟨_,rfl,x.s,x.sd,_,rfl,hs.o,rfl,x,r2,r3,r5,m,q,ie,rfl,hs,ft,k⟩
theorem _root_.L2.ChipAt.has{C c:Addr}{a:CA}{m:CM}{H:Hp}(h:ChipAt C H c a m){b:Addr}(hb:b∈a.li::foot c a):∃o,H b=some o∧(b≠c→∀C d f,o≠ .ins C d f):=by
 obtain⟨rs,er,_⟩:=h.rc
 have hb:b=a.li∨b=c∨b=a.bo∨b=a.cl∨b=a.dc∨b=a.br∨b=a.rc:=by simpa[foot]using hb
 rcases hb with rfl|rfl|rfl|rfl|rfl|rfl|rfl
 ·exact⟨_,h.li,λ_ _ _ _ z=>by cases z⟩
 ·exact⟨_,h.ins,λn=>absurd rfl n⟩
 ·exact⟨_,h.bo,λ_ _ _ _ z=>by cases z⟩
 ·exact⟨_,h.cl,λ_ _ _ _ z=>by cases z⟩
 ·exact⟨_,h.dc,λ_ _ _ _ z=>by cases z⟩
 ·exact⟨_,h.br,λ_ _ _ _ z=>by cases z⟩
 ·exact⟨_,er,λ_ _ _ _ z=>by cases z⟩
theorem StAt.off{H:Hp}{x:Sto}{r2 r3 r4 r5:V}{m:CM}{q:QM}(h:StAt t H x r2 r3 r4 r5 m q){p:Addr}(n:H p=none):p∉t.T_Plain_free::sf x:=λz=>by
 obtain⟨rs,er,_⟩:=h.ch.rc
 obtain⟨ps,hT,_⟩:=h.tb
 have z:p=t.T_Plain_free∨p=x.c∨p=x.a.bo∨p=x.a.cl∨p=x.a.dc∨p=x.a.br∨p=x.a.rc∨p=x.k.bk∨p=x.k.wv∨p=x.k.lv∨p=x.k.fi∨p=x.k.bo:=by simpa[sf,bf,foot]using z
 rcases z with rfl|rfl|rfl|rfl|rfl|rfl|rfl|rfl|rfl|rfl|rfl|rfl
 ·rw[hT]at n;cases n
 ·rw[h.ch.ins]at n;cases n
 ·rw[h.ch.bo]at n;cases n
 ·rw[h.ch.cl]at n;cases n
 ·rw[h.ch.dc]at n;cases n
 ·rw[h.ch.br]at n;cases n
 ·rw[er]at n;cases n
 ·rw[h.bk.o]at n;cases n
 ·rw[h.bk.w]at n;cases n
 ·rw[h.bk.l]at n;cases n
 ·rw[h.bk.f]at n;cases n
 ·rw[h.bk.b]at n;cases n
noncomputable def spPi(t:Adr):Sp:=λvs H Q E=>∃x dx tm td c a r2 r3 r4 r5,∃m:CM,∃B P:Nat,vs=[.ref x,.ref c,.ref tm]∧H x=some (.ins t.C_Store dx [])∧H tm=some (.ins t.C_Terms td (teF (.int (B:Int)) (.int (P:Int)) r2 r3 r4 r5))∧ChipAt t.C_Chip H c a m∧m.bl=(B:Int)∧m.pg=(P:Int)∧B≤16∧TbF t H∧
 ∀k H',H' x=some (.ins t.C_Store dx [("chip",.ref c),("terms",.ref tm),("book",.ref k.bk)])→(∀ru pa H2,Keep [x] H' H2→H2 x=some (.ins t.C_Store dx [("chip",.ref c),("terms",.ref tm),("book",.ref k.bk),("rule",ru),("papers",pa)])→StAt t H2 ⟨x,dx,tm,td,c,a,k,ru,pa⟩ r2 r3 r4 r5 m (bk0 B P))→(∀b∈bf k,H b=none)→(∀b o,b≠x→H b=some o→H' b=some o)→Q .non H'
theorem q89(T:Txt K mg t)(S:Fns K t):S.Plain_init.Ok0 P w mg base 3 (spPi t):=by
 refine S.Plain_init.F.ok0 q7Z λcdv A _ s H vs Q E hr h=>?_
 ·obtain⟨x,dx,tm,td,c,a,r2,r3,r4,r5,m,B,P',rfl,hx,htm,hc,eB,eP,hB,tb,k⟩:=h
  refine⟨_,(qB (jB (PW.pt (qAF (qS qAI (qJ (pv 2) rfl) (qJ (pv 1) rfl) (qU _)) (qBU (qS qAI (qJ (pv 2) rfl) (qJ (pv 1) rfl) (qU _))))) (qE qZ) qQ) (qB (jK (pv 0) (pv 1) rfl) (qB (jK (pv 0) (pv 2) rfl) (qE (jK (pv 0) (vI T.mk_Book (qA4 T S).mono hr rfl T.mg_Book S.Book_init.b .nil qK (qA (qJ (pv 1) rfl) (qA (qJ (pv 1) rfl) qC))) rfl))))),?_⟩
  try dsimp-beta-proj-iota-zeta-eta only[wishK,cxK]
  refine⟨_,rfl,tm,_,td,_,_,rfl,htm,T.cl_Terms,T.na_Terms_blocks,rfl,_,rfl,c,_,a.dx,_,_,rfl,hc.ins,T.cl_Chip,T.na_Chip_blocks,rfl,rfl,_,rfl,?_⟩
  rw[show(!decide (V.int (B:Int)=V.int m.bl))=false by rw[eB];simp]
  refine iteF ?_
  refine⟨_,rfl,tm,_,td,_,_,rfl,htm,T.cl_Terms,T.na_Terms_pages,rfl,_,rfl,c,_,a.dx,_,_,rfl,hc.ins,T.cl_Chip,T.na_Chip_pages,rfl,rfl,_,rfl,?_⟩
  rw[show(!decide (V.int (P':Int)=V.int m.pg))=false by rw[eP];simp]
  refine iteF ?_
  refine⟨_,rfl,_,rfl,x,_,dx,_,rfl,hx,T.cl_Store,T.na_Store_chip,by decide,?_⟩
  refine⟨_,rfl,_,rfl,x,_,dx,_,rfl,qH,T.cl_Store,T.na_Store_terms,by show 1<1000;decide,?_⟩
  rw[uI]
  have tx:tm≠x:=jV htm hx (by intro z;injection z with z1 z2 z3;unfold teF at z3;cases z3)
  have cx:c≠x:=jV hc.ins hx (by intro z;injection z with z1 z2 z3;unfold chF at z3;cases z3)
  have k1:∀b o,b≠x→H b=some o→(upd H x (.ins t.C_Store dx [("chip",.ref c),("terms",.ref tm)])) b=some o:=λb o nb e=>by
   rw[qD nb]
   exact e
  have o1:(upd H x (.ins t.C_Store dx [("chip",.ref c),("terms",.ref tm)])) x=some (.ins t.C_Store dx [("chip",.ref c),("terms",.ref tm)]):=qH
  have f1:∀b,(upd H x (.ins t.C_Store dx [("chip",.ref c),("terms",.ref tm)])) b=none→H b=none:=λb e=>by
   by_cases z:b=x
   ·rw[z,qH]at e
    cases e
   ·rw[qD z]at e
    exact e
  rw[show putF "terms" (.ref tm) (putF "chip" (.ref c) ([]:List (Str×V)))=([("chip",V.ref c),("terms",V.ref tm)]:List (Str×V))from rfl]
  generalize upd H x (.ins t.C_Store dx [("chip",.ref c),("terms",.ref tm)])=H1 at k1 o1 f1 ⊢
  have hc1:=k1 _ _ cx hc.ins
  refine⟨_,rfl,c,_,a.dx,_,_,rfl,hc1,T.cl_Chip,T.na_Chip_blocks,rfl,_,rfl,c,_,a.dx,_,_,rfl,hc1,T.cl_Chip,T.na_Chip_pages,rfl,λk' kd nk nkd nn=>?_⟩
  rw[eB,eP]
  refine⟨k',kd,B,P',rfl,hB,qH,λka H3 e1 e2 hb3 ds fr up=>⟨rfl,?_⟩⟩
  have s0:Same H1 (upd (upd H1 kd (.own k')) k' (.ins t.C_Book kd [])):=q9F nk nkd
  have up':∀b o,H1 b=some o→H3 b=some o:=λb o e=>up b o (qI e nk) (s0 b o e)
  refine⟨_,rfl,x,_,dx,_,rfl,up' _ _ o1,T.cl_Store,T.na_Store_book,by show 2<1000;decide,?_⟩
  have hx3:=up' _ _ o1
  have kx:ka.bk≠x:=by
   rw[e1]
   exact(qI o1 nk).symm
  have lH:∀b∈bf ka,H b=none:=λb hb=>by
   have hb:b=ka.bk∨b∈[ka.wv,ka.lv,ka.fi,ka.bo]:=by simpa[bf]using hb
   rcases hb with rfl|hb
   ·rw[e1]
    exact f1 _ nk
   ·exact f1 _ (Same.free s0 (fr b hb))
  have kpx:∀b o,b≠x→H3 b=some o→(upd H3 x (.ins t.C_Store dx (putF "book" (.ref k') [("chip",V.ref c),("terms",V.ref tm)]))) b=some o:=λb o nb e=>by
   rw[qD nb]
   exact e
  have up2:∀b o,b≠x→H b=some o→(upd H3 x (.ins t.C_Store dx (putF "book" (.ref k') [("chip",V.ref c),("terms",V.ref tm)]))) b=some o:=λb o nb e=>kpx b o nb (up' b o (k1 b o nb e))
  have nx:∀{b:Addr} {o:HO},H3 b=some o→(∀C d fs,o≠ .ins C d fs)→b≠x:=fun {b o} e n z=>by
   rw[z,hx3]at e
   exact n _ _ _ (kF e).symm
  have cfx:∀b∈a.li::foot c a,b≠x:=λb hb z=>by
   obtain⟨o,e,no⟩:=hc.has hb
   by_cases y:b=c
   ·exact cx (y.symm.trans z)
   ·rw[z,hx]at e
    exact no y _ _ _ (kF e).symm
  refine k ka _ (by rw[e1];exact qH) (λru pa H2 kk hx2=>?_) lH up2
  have kp2:∀b o,b≠x→H3 b=some o→H2 b=some o:=λb o nb e=>kk.k b o (by simpa using nb) (kpx b o nb e)
  have up3:∀b o,b≠x→H b=some o→H2 b=some o:=λb o nb e=>kk.k b o (by simpa using nb) (up2 b o nb e)
  have kK:Keep [x] H H2:=⟨λb o nb e=>up3 b o (λz=>nb (by rw[z];simp)) e,λb xs e=>up3 b _ (λz=>by rw[z,hx]at e;cases e) e⟩
  refine⟨hx2,?_,?_,?_,?_,ds,?_,?_⟩
  ·rw[eB,eP]
   exact up3 _ _ tx htm
  ·exact hc.keep kK (λb hb z=>cfx b hb (kC.mp z))
  ·exact⟨kp2 _ _ kx hb3.o,kp2 _ _ (nx hb3.w (λ_ _ _ z=>by cases z)) hb3.w,kp2 _ _ (nx hb3.l (λ_ _ _ z=>by cases z)) hb3.l,kp2 _ _ (nx hb3.f (λ_ _ _ z=>by cases z)) hb3.f,kp2 _ _ (nx hb3.b (λ_ _ _ z=>by cases z)) hb3.b⟩
  ·obtain⟨ps,hT,h⟩:=tb
   refine⟨ps,up3 _ _ (λz=>by rw[z,hx]at hT;cases hT) hT,?_⟩
   rcases h with h|⟨c',h,hcd⟩
   ·exact .inl h
   ·exact .inr ⟨c',h,up3 _ _ (λz=>by rw[z,hx]at hcd;cases hcd) hcd⟩
  ·intro b hb z
   obtain⟨o,e,_⟩:=hc.has hb
   rw[lH b z]at e
   cases e
  ·intro b hb z
   have hb:b=x∨b=tm:=by simpa using hb
   have y0:b∈foot c a∨b∈bf ka:=by simpa[sf]using z
   clear z
   rcases y0 with z|z
   ·rcases hb with rfl|rfl
    ·exact cfx _ (kE _ z) rfl
    ·obtain⟨o,e,no⟩:=hc.has (kE _ z)
     by_cases y:b=c
     ·rw[y,hc.ins]at htm
      have htm:=kF htm
      injection htm with z1 z2 z3
      unfold chF teF at z3
      have:=dB List.length z3
      simp at this
     ·rw[htm]at e
      exact no y _ _ _ (kF e).symm
   ·have n:=lH b z
    rcases hb with rfl|rfl
    ·rw[hx]at n;cases n
    ·rw[htm]at n;cases n
noncomputable def spSi(t:Adr):Sp:=λvs H Q E=>∃x dx tm td c a r2 r3 r4 r5 ru,∃m:CM,∃B P:Nat,vs=[.ref x,.ref c,.ref tm,ru]∧H x=some (.ins t.C_Store dx [])∧H tm=some (.ins t.C_Terms td (teF (.int (B:Int)) (.int (P:Int)) r2 r3 r4 r5))∧ChipAt t.C_Chip H c a m∧m.bl=(B:Int)∧m.pg=(P:Int)∧B≤16∧TbF t H∧
 ∀k p H',StAt t H' ⟨x,dx,tm,td,c,a,k,ru,.ref p⟩ r2 r3 r4 r5 m (bk0 B P)→H' p=some (.lst [])→H p=none→(∀b∈bf k,H b=none)→p∉t.T_Plain_free::sf ⟨x,dx,tm,td,c,a,k,ru,.ref p⟩→(∀b o,b≠x→H b=some o→H' b=some o)→Q .non H'
theorem q8A(T:Txt K mg t)(S:Fns K t):S.Store_init.Ok0 P w mg base 4 (spSi t):=by
 refine S.Store_init.F.ok0 q82 λcdv A _ s H vs Q E hr h=>?_
 ·obtain⟨x,dx,tm,td,c,a,r2,r3,r4,r5,ru,m,B,P',rfl,hx,htm,hc,eB,eP,hB,tb,k⟩:=h
  refine⟨_,(qB (jA (qJR T.ci_Plain (q89 T S).mono hr rfl T.mg_Plain S.Plain_init.b .nil qK (qA (pv 0) (qA (pv 1) (qA (pv 2) qC))))) (qB (jK (pv 0) (pv 3) rfl) (qE (jK (pv 0) (jF qC) rfl)))),?_⟩
  try dsimp-beta-proj-iota-zeta-eta only[wishK,cxK]
  refine⟨_,rfl,_,rfl,_,rfl,x,dx,tm,td,c,a,r2,r3,r4,r5,m,B,P',rfl,hx,htm,hc,eB,eP,hB,tb,λka H1 hx1 st fk up=>?_⟩
  refine⟨_,rfl,_,rfl,x,_,dx,_,rfl,hx1,T.cl_Store,T.na_Store_rule,by show 3<1000;decide,?_⟩
  refine⟨sz0,λp H2 np s2 h2=>?_⟩
  have px:p≠x:=λz=>by rw[z,qH]at np;cases np
  rw[qD px]at np
  have hx2:=s2 _ _ qH
  refine⟨_,rfl,x,_,dx,_,rfl,hx2,T.cl_Store,T.na_Store_papers,by show 4<1000;decide,?_⟩
  have stA:=st ru .non (upd H1 x (.ins t.C_Store dx [("chip",.ref c),("terms",.ref tm),("book",.ref ka.bk),("rule",ru),("papers",.non)])) (Keep.upd hx1 (λ_ z=>by cases z) (by simp)) qH
  have off:=stA.off (p:=p) (by rw[qD px];exact np)
  have kA:Keep [x] H1 (upd H2 x (.ins t.C_Store dx (putF "papers" (.ref p) (putF "rule" ru [("chip",.ref c),("terms",.ref tm),("book",.ref ka.bk)])))):=((Keep.upd hx1 (λ_ z=>by cases z) (by simp)).trans (Keep.same s2)).trans (Keep.upd hx2 (λ_ z=>by cases z) (by simp))
  refine k ka p _ (st ru (.ref p) _ kA qH) (by rw[qD px];exact h2) ?_ fk off (λb o nb e=>kA.k b o (by simpa using nb) (up b o nb e))
  cases e:H p with
  |none=>rfl
  |some o=>
   rw[up p o px e]at np
   cases np
noncomputable def spEm(t:Adr):Sp:=λvs H Q _=>∃a,∃m:QM,∃b,vs=[.ref a.bk,.int ((b:Nat):Int)]∧BkAt t H a m∧m.Ok∧Dst a∧b<m.B∧∀H',BkAt t H' a (m.emptied b)→Keep [a.fi,a.bo] H H'→Q .non H'
theorem q5Q(T:Txt K mg t)(S:Fns K t):S.Book_emptied.Ok0 P w mg base 1 (spEm t):=by
 refine S.Book_emptied.F.ok0 q5J λcdv A _ s H vs Q E hr h=>?_
 ·obtain⟨a,m,b,rfl,hb,ok,ds,hB,q⟩:=h
  have of':a.bk≠a.fi:=jV hb.o hb.f (by intro z;cases z)
  have oo:a.bk≠a.bo:=jV hb.o hb.b (by intro z;cases z)
  have wf:a.wv≠a.fi:=jV hb.w hb.f (by intro z;cases z)
  have wb:a.wv≠a.bo:=jV hb.w hb.b (by intro z;cases z)
  have hbf:b<m.fi.length:=by rw[ok.lf];exact hB
  have hbo:b<m.bo.length:=by rw[ok.lo];exact hB
  refine⟨_,(qB (q3H qG (q4N (qJ (pv 0) rfl) (pv 1) yU)) (qE (q3H qG (q4N (qJ (pv 0) rfl) (pv 1) yU)))),?_⟩
  try dsimp-beta-proj-iota-zeta-eta only[wishK,cxK]
  refine⟨_,rfl,a.bk,_,a.dx,_,_,rfl,hb.o,T.cl_Book,T.na_Book_filled,rfl,_,rfl,a.fi,_,_,b,rfl,rfl,hb.f,q28 (by rw[hC];exact hbf),?_⟩
  rw[setV]
  have b1:(upd H a.fi (.lst ((m.fi.set b 0).map V.int))) a.bo=some (.lst (m.bo.map V.int)):=by rw[qD ds.fb.symm];exact hb.b
  have o1':∀o,H a.bk=some o→(upd H a.fi (.lst ((m.fi.set b 0).map V.int))) a.bk=some o:=λo e=>by rw[qD of'];exact e
  have o1:=o1' _ hb.o
  refine⟨_,rfl,a.bk,_,a.dx,_,_,rfl,o1,T.cl_Book,T.na_Book_born,rfl,_,rfl,a.bo,_,_,b,rfl,rfl,b1,q28 (by rw[hC];exact hbo),?_⟩
  rw[setV]
  refine q _ ⟨?_,?_,?_,?_,?_⟩ (Keep.trans (H1:=upd H a.fi (.lst ((m.fi.set b 0).map V.int))) (Keep.upd hb.f (λ_ z=>by cases z) (by simp)) (Keep.upd b1 (λ_ z=>by cases z) (by simp)))
  ·rw[qD oo]
   exact o1
  ·rw[qD wb,qD wf]
   exact hb.w
  ·rw[qD ds.lb,qD ds.lf]
   exact hb.l
  ·rw[qD ds.fb]
   exact qH
  ·exact qH
noncomputable def lpK(P b:Nat)(V:Mp):List (List Int):=(V.filter λq=>decide (q.2 / (P:Int)=(b:Int))).map λq=>[q.2,q.1]
theorem qBM{P b:Nat}{V:Mp}{q:Int×Int}:lpK P b (V++[q])=if q.2 / (P:Int)=(b:Int)then lpK P b V++[[q.2,q.1]]else lpK P b V:=by
 unfold lpK
 rw[gI,kU]
 by_cases e:q.2 / (P:Int)=(b:Int)
 ·rw[kG e]
  simp[e]
 ·rw[hX e]
  simp[e]
noncomputable def spLp(t:Adr):Sp:=λvs H Q _=>∃a,∃m:QM,∃b,vs=[.ref a.bk,.int ((b:Nat):Int)]∧BkAt t H a m∧m.Ok∧m.V.length<64∧∀l us rs H',Same H H'→H l=none→H' l=some (.lst us)→Paired (TupD H') us rs→rs.Perm (lpK m.P b m.V)→(rs.Pairwise λa b=>lx b a=false)→Q (.ref l) H'
theorem q41(T:Txt K mg t)(S:Fns K t):S.Book_live_pages.Ok0 P w mg base 1 (spLp t):=by
 refine S.Book_live_pages.F.ok0 q3Y λcdv A _ s H vs Q E hr h=>?_
 ·obtain⟨a,m,b,rfl,hb,ok,lV,q⟩:=h
  have hu:=q1X hr
  have p1:=ok.p1
  have p2:=ok.p2
  have ob:a.bk≠a.wv:=jV hb.o hb.w (by intro z;cases z)
  refine⟨_,(qE (qL (qW zB (by rfl) T.b_sorted (by kernel_rfl) (qA (qD2 (yH ["self","block","name","page"] [0,1] rfl (qJL (qIO PySem.F.plainAttrs_dict PySem.F.slot_dict_items PySem.F.type_dict_items qFX (qJ (pv 0) rfl))) (λ_ _ _ _ _=>(q9I (K:=K) (n:=2) rfl rfl (yE (qX (i:=2) (show List.Nodup (["self","block","name","page"]:List Str)from by decide) rfl (Or.inl rfl)) (yE (qX (i:=3) (show List.Nodup (["self","block","name","page"]:List Str)from by decide) rfl (Or.inl rfl)) q1E)) rfl rfl)) (λ_ _ _ _ _=>(uJ (qS u9 (qN q1F (pv 3) (vJ (K:=K) rfl (pv 0) rfl)) (pv 1) (qU _)))) (λ_ _ _ _ _=>(yP (qA (pv 3) (qA (pv 2) qC)))) (by kernel_rfl) (q9C (q0X (by decide) (q0X (by decide) q9B))))) qC)))),?_⟩
  try dsimp-beta-proj-iota-zeta-eta only[wishK,cxK]
  refine⟨a.wv,_,hb.w,_,rfl,a.bk,_,a.dx,_,_,rfl,hb.o,T.cl_Book,T.na_Book_where,rfl,.inr (.inr (.inl ⟨rfl,.inl ⟨_,hb.w⟩⟩)),a.wv,_,rfl,rfl,hb.w,λv nv=>?_⟩
  have sv:Same H (upd H v (q5A v a.wv)):=Same.upd nv
  have vv:(upd H v (q5A v a.wv)) v=some (q5A v a.wv):=qH
  generalize upd H v (q5A v a.wv)=H1 at sv vv ⊢
  refine⟨v,a.wv,_,rfl,vv,sv _ _ hb.w,λo D H2 nD s2 hD=>?_⟩
  have kk:∀x u,x≠a.wv→H x=some u→H2 x=some u:=λx u nx e=>s2 _ _ (by rw[qD nx];exact sv _ _ e)
  have fz:H2 a.wv=some (.frz o (.dK (dI m.V))):=s2 _ _ qH
  have nDH:H D=none:=by
   cases z:H D with
   |none=>rfl
   |some u=>
    by_cases y:D=a.wv
    ·rw[y,qH]at nD
     cases nD
    ·rw[qD y,sv _ _ z]at nD
     cases nD
  have Dw:D≠a.wv:=λz=>by rw[z,fz]at hD;cases hD
  refine qHD (D:=D) (λi H3=>H3 a.wv=some (.frz o (.dK (dI m.V)))∧(∀x u,x≠a.wv→H x=some u→H3 x=some u)∧∃us,H3 D=some (.lst us)∧Paired (TupD H3) us (lpK m.P b (m.V.take i))) ⟨fz,kk,[],hD,.nil⟩ (λi H3 hp=>hp.1) (λi kv W H3 hk hp nW=>?_) (λH3 hp=>?_)
  ·obtain⟨fz3,k3,us,hd,pr⟩:=hp
   have hi:i<m.V.length:=by
    have:=(hG.mp hk).1
    rw[q55]at this
    exact this
   obtain rfl:((Sum.inl m.V[i].1:Key),V.int m.V[i].2)=kv:=by
    have e:(dI m.V)[i]?=some ((Sum.inl m.V[i].1:Key),V.int m.V[i].2):=by unfold dI;rw[kN,hE hi];rfl
    rw[e]at hk
    exact kF hk
   have sW:Same H3 (upd H3 W (.tup [.int m.V[i].1,.int m.V[i].2])):=Same.upd nW
   have hW:(upd H3 W (.tup [.int m.V[i].1,.int m.V[i].2])) W=some (.tup [.int m.V[i].1,.int m.V[i].2]):=qH
   show gTup _ _ _ _ _ (upd H3 W (.tup [.int m.V[i].1,.int m.V[i].2])) _
   generalize upd H3 W (.tup [.int m.V[i].1,.int m.V[i].2])=H4 at sW hW ⊢
   refine⟨W,_,rfl,SqT.of hW,rfl,_,_,rfl,_,_,rfl,rfl,?_⟩
   refine⟨_,rfl,_,rfl,a.bk,_,a.dx,_,_,rfl,sW _ _ (k3 _ _ ob hb.o),T.cl_Book,T.na_Book_pages,rfl,_,_,rfl,rfl,⟨by omega,by omega⟩,_,rfl,rfl,_,rfl,?_⟩
   rw[yM]
   have tk:m.V.take (i+1)=m.V.take i++[m.V[i]]:=(mB hi).symm
   by_cases e:m.V[i].2 / (m.P:Int)=(b:Int)
   ·rw[hI e]
    refine iteT ?_
    refine⟨_,rfl,_,rfl,sz2,λtp H5 n5 s5 h5=>?_⟩
    have s35:=sW.trans s5
    have hd5:=s35 _ _ hd
    have lu:us.length≤64:=by
     have:=pr.len
     have l2:(lpK m.P b (m.V.take i)).length≤(m.V.take i).length:=by unfold lpK;rw[hC];exact kY _ _
     rw[gA]at l2
     omega
    refine⟨us,hd5,(by have:(64:Nat)<sizeLine:=by decide
                      omega),?_,λx u nx e'=>?_,us++[.ref tp],qH,?_⟩
    ·rw[qD Dw.symm]
     exact s35 _ _ fz3
    ·rw[qD (qI e' nDH)]
     exact s35 _ _ (k3 _ _ nx e')
    ·rw[tk,qBM,kG e]
     exact L2.Paired.snoc (Paired.mapP (uL pr s35) λx k z=>z.upd hd5 (λ_ q=>by cases q)) (TupD.upd ⟨tp,rfl,h5⟩ hd5 (λ_ q=>by cases q))
   ·rw[hV e]
    refine iteF ?_
    refine⟨sW _ _ fz3,λx u nx e'=>sW _ _ (k3 _ _ nx e'),us,sW _ _ hd,?_⟩
    rw[tk,qBM,hX e]
    exact uL pr sW
  ·obtain⟨fz3,k3,us,hd,pr⟩:=hp
   rw[q55,mZ]at pr
   refine⟨o,_,fz3,?_⟩
   have sH:Same H (upd H3 a.wv (.dK (dI m.V))):=qG1 hb.w k3
   have hd4:(upd H3 a.wv (.dK (dI m.V))) D=some (.lst us):=by rw[qD Dw];exact hd
   have pr4:Paired (TupD (upd H3 a.wv (.dK (dI m.V)))) us (lpK m.P b m.V):=Paired.mapP pr λx k z=>z.upd fz3 (λ_ q=>by cases q)
   generalize upd H3 a.wv (.dK (dI m.V))=H4 at sH hd4 pr4 ⊢
   have hl:(lpK m.P b m.V).length<64:=by
    unfold lpK
    rw[hC]
    exact Nat.lt_of_le_of_lt (kY _ _) lV
   have ul:=pr4.len
   refine⟨D,us,lpK m.P b m.V,2,rfl,SqL.of hd4,q9J pr4,λk hk=>?_,by decide,by omega,λqs pp pw l H5 n5 s5 h5=>?_⟩
   ·unfold lpK at hk
    obtain⟨x,_,rfl⟩:=kX.mp hk
    rfl
   ·refine q l _ _ H5 (sH.trans s5) (sH.free n5) h5 (q6X (uL pr4 s5) λi hi=>mK.mp (pp.mem_iff.mp hi)) (q6W ul.symm pp) pw
noncomputable def qLD:Sp:=λvs H Q _=>∃x a b p n,vs=[x,a,b,p,n]∧Q (.bl false) H
theorem q42(T:Txt K mg t)(S:Fns K t):S.Rule_goes_ahead.Ok0 P w mg base 1 qLD:=by
 refine S.Rule_goes_ahead.F.ok0 q3X λcdv A _ s H vs Q E hr h=>?_
 ·obtain⟨x,a,b,p,n,rfl,q⟩:=h
  refine⟨_,(qE (qL q3B)),?_⟩
  try dsimp-beta-proj-iota-zeta-eta only[wishK,cxK]
  exact q
noncomputable def spGa(f:Tl→Int):Sp:=λvs H Q _=>∃x a b p n A B,vs=[x,a,b,p,n]∧TlAt H a A∧TlAt H b B∧Q (.bl (decide (f A<f B))) H
theorem u6(T:Txt K mg t)(S:Fns K t):S.Fewest_goes_ahead.Ok0 P w mg base 1 (spGa Tl.lv):=by
 refine S.Fewest_goes_ahead.F.ok0 q2O λcdv A _ s H vs Q E hr h=>?_
 ·obtain⟨x,a,b,p,n,A,B,rfl,⟨ad,rfl,ha⟩,⟨bd,rfl,hb⟩,q⟩:=h
  refine⟨_,(qE (qL (uV zZ (qY jL (pv 1) qG (λ_ _=>rfl)) (qY jL (pv 2) qG (λ_ _=>rfl)) (qU _)))),?_⟩
  try dsimp-beta-proj-iota-zeta-eta only[wishK,cxK]
  exact⟨_,rfl,ad,_,1,_,rfl,rfl,SqT.of ha,rfl,_,rfl,bd,_,1,_,rfl,rfl,SqT.of hb,rfl,_,_,rfl,rfl,q⟩
theorem vQ(T:Txt K mg t)(S:Fns K t):S.Eldest_goes_ahead.Ok0 P w mg base 1 (spGa Tl.bo):=by
 refine S.Eldest_goes_ahead.F.ok0 q2P λcdv A _ s H vs Q E hr h=>?_
 ·obtain⟨x,a,b,p,n,A,B,rfl,⟨ad,rfl,ha⟩,⟨bd,rfl,hb⟩,q⟩:=h
  refine⟨_,(qE (qL (uV zZ (qY jL (pv 1) qG (λ_ _=>rfl)) (qY jL (pv 2) qG (λ_ _=>rfl)) (qU _)))),?_⟩
  try dsimp-beta-proj-iota-zeta-eta only[wishK,cxK]
  exact⟨_,rfl,ad,_,3,_,rfl,rfl,SqT.of ha,rfl,_,rfl,bd,_,3,_,rfl,rfl,SqT.of hb,rfl,_,_,rfl,rfl,q⟩
noncomputable def gain(pg nw:Int)(T:Tl):Int:=(pg-T.lv)*(nw-T.bo)
noncomputable def qLE:Sp:=λvs H Q _=>∃x a b pg nw A B,vs=[x,a,b,.int pg,.int nw]∧TlAt H a A∧TlAt H b B∧A.Ok pg nw∧B.Ok pg nw∧pg≤16∧Q (.bl (decide (gain pg nw A*(pg+B.lv)>gain pg nw B*(pg+A.lv)))) H
theorem q38(T:Txt K mg t)(S:Fns K t):S.Worth_goes_ahead.Ok0 P w mg base 1 qLE:=by
 refine S.Worth_goes_ahead.F.ok0 uF λcdv A _ s H vs Q E hr h=>?_
 ·obtain⟨x,a,b,pg,nw,A,B,rfl,⟨ad,rfl,ha⟩,⟨bd,rfl,hb⟩,oa,ob,hp,q⟩:=h
  have a0:=oa.l0
  have a1:=oa.l1
  have b0:=ob.l0
  have b1:=ob.l1
  refine⟨_,(qB (qV (i:=5) uF.nd rfl (Or.inl rfl) (qN yB (qN jR (pv 3) (qY jL (pv 1) qG (λ_ _=>rfl))) (qN jR (pv 4) (qY jL (pv 1) qG (λ_ _=>rfl))))) (qB (qV (i:=6) uF.nd rfl (Or.inl rfl) (qN yB (qN jR (pv 3) (qY jL (pv 2) qG (λ_ _=>rfl))) (qN jR (pv 4) (qY jL (pv 2) qG (λ_ _=>rfl))))) (qE (qL (uV q8H (qN yB (pv 5) (qN yI (pv 3) (qY jL (pv 2) qG (λ_ _=>rfl)))) (qN yB (pv 6) (qN yI (pv 3) (qY jL (pv 1) qG (λ_ _=>rfl)))) (qU _)))))),?_⟩
  try dsimp-beta-proj-iota-zeta-eta only[wishK,cxK]
  refine⟨_,rfl,_,rfl,ad,_,1,_,rfl,rfl,SqT.of ha,rfl,_,_,rfl,rfl,_,rfl,_,rfl,ad,_,3,_,rfl,rfl,SqT.of ha,rfl,_,_,rfl,rfl,_,_,rfl,rfl,.inl ⟨by omega,by omega⟩,?_⟩
  refine⟨_,rfl,_,rfl,bd,_,1,_,rfl,rfl,SqT.of hb,rfl,_,_,rfl,rfl,_,rfl,_,rfl,bd,_,3,_,rfl,rfl,SqT.of hb,rfl,_,_,rfl,rfl,_,_,rfl,rfl,.inl ⟨by omega,by omega⟩,?_⟩
  refine⟨_,rfl,_,rfl,_,rfl,bd,_,1,_,rfl,rfl,SqT.of hb,rfl,_,_,rfl,rfl,_,_,rfl,rfl,.inr ⟨by omega,by omega⟩,?_⟩
  exact⟨_,rfl,_,rfl,_,rfl,ad,_,1,_,rfl,rfl,SqT.of ha,rfl,_,_,rfl,rfl,_,_,rfl,rfl,.inr ⟨by omega,by omega⟩,_,_,rfl,rfl,q⟩
noncomputable def lmEx(i:Nat):Expr:=match((yD yN)[i]?:Option Stmt)with
 |some (Stmt.If _ (Stmt.Return (some (Expr.Call _ (e::_) _ _)) _::_) _ _)=>e
 |_=>Expr.Name "" ⟨0,0,0,0⟩
noncomputable abbrev lmA(i:Nat):Arguments:=match lmEx i with
 | .Lambda a _ _ _=>a
 |_=>yK yN
noncomputable abbrev lmB(i:Nat):Expr:=match lmEx i with
 | .Lambda _ b _ _=>b
 |_=>lmEx i
noncomputable abbrev lmSc(i:Nat):Scope:=match lmEx i with
 | .Lambda _ _ s _=>s
 |_=>qF yN
noncomputable abbrev lmP(i:Nat):Pos:=match lmEx i with
 | .Lambda _ _ _ p=>p
 |_=>⟨0,0,0,0⟩
noncomputable abbrev lmQ:Str:=(PyProof.Rows.envOfC "_law_rule" (qF yN) 0 0 .none).qual++"<lambda>"
noncomputable abbrev lmFd(i:Nat)(pm ct:Value)(c:Addr):FuncData:=W.kla_fn "<lambda>" lmQ (lmA i) (lmB i) (lmSc i) [] pm (.ref c) ct
noncomputable def LamC(i:Nat)(H:Hp)(g c:Addr):Prop:=∃pm ct,H g=some (fnO g (lmFd i pm ct c))∧H c=some (cdO c lmQ)
noncomputable def qGK(i:Nat)(f:Tl→Int)(g c:Addr)(pm ct:Value):Sp:=λvs H Q _=>∃v T,vs=[v]∧TlAt H v T∧H g=some (fnO g (lmFd i pm ct c))∧H c=some (cdO c lmQ)∧Q (.int (f T)) H
theorem qHU:FnScope ["_law_tally"] ["_law_tally"] (lmSc 2):=⟨rfl,rfl,rfl,by decide+kernel,rfl,by decide+kernel,by decide+kernel⟩
theorem qDI{g c:Addr}{pm ct:Value}:FnOk P w K mg base CX0 1 g (lmFd 2 pm ct c) ["_law_tally"] (qGK 2 Tl.cl g c pm ct):=by
 refine qCC (k:=0) qHU (λvs H Q E h=>?_) (λvs H Q E h=>?_) (λA outer s H vs Q E hr h=>?_)
 ·repeat obtain⟨_,h⟩:=h
  all_goals subst_vars;rfl
 ·obtain⟨v,T,rfl,_,a,b,_⟩:=h
  exact⟨a,b⟩
 ·obtain⟨v,T,rfl,⟨ad,rfl,ha⟩,_,_,q⟩:=h
  refine⟨_,qY jL (pv 0) qG (λ_ _=>rfl),?_⟩
  exact⟨_,rfl,ad,_,2,_,rfl,rfl,SqT.of ha,rfl,q⟩
theorem q7I{c:Addr}{pm ct:Value}:jT K (lmFd 2 pm ct c) ["_law_tally"] []:=jT.all λus hl=>match us,hl with| [_],_=>rfl
theorem qHV:FnScope ["_law_tally"] ["_law_tally"] (lmSc 3):=⟨rfl,rfl,rfl,by decide+kernel,rfl,by decide+kernel,by decide+kernel⟩
theorem qDJ{g c:Addr}{pm ct:Value}:FnOk P w K mg base CX0 1 g (lmFd 3 pm ct c) ["_law_tally"] (qGK 3 (λT=>0-T.b) g c pm ct):=by
 refine qCC (k:=0) qHV (λvs H Q E h=>?_) (λvs H Q E h=>?_) (λA outer s H vs Q E hr h=>?_)
 ·repeat obtain⟨_,h⟩:=h
  all_goals subst_vars;rfl
 ·obtain⟨v,T,rfl,_,a,b,_⟩:=h
  exact⟨a,b⟩
 ·obtain⟨v,T,rfl,⟨ad,rfl,ha⟩,_,_,q⟩:=h
  refine⟨_,qN jR qG (qY jL (pv 0) qG (λ_ _=>rfl)),?_⟩
  exact⟨_,rfl,ad,_,0,_,rfl,rfl,SqT.of ha,rfl,_,_,rfl,rfl,q⟩
theorem q7J{c:Addr}{pm ct:Value}:jT K (lmFd 3 pm ct c) ["_law_tally"] []:=jT.all λus hl=>match us,hl with| [_],_=>rfl
theorem qHW:FnScope ["_law_tally"] ["_law_tally"] (lmSc 4):=⟨rfl,rfl,rfl,by decide+kernel,rfl,by decide+kernel,by decide+kernel⟩
theorem qDK{g c:Addr}{pm ct:Value}:FnOk P w K mg base CX0 1 g (lmFd 4 pm ct c) ["_law_tally"] (qGK 4 (λT=>3*T.lv+T.bo) g c pm ct):=by
 refine qCC (k:=0) qHW (λvs H Q E h=>?_) (λvs H Q E h=>?_) (λA outer s H vs Q E hr h=>?_)
 ·repeat obtain⟨_,h⟩:=h
  all_goals subst_vars;rfl
 ·obtain⟨v,T,rfl,_,a,b,_⟩:=h
  exact⟨a,b⟩
 ·obtain⟨v,T,rfl,⟨ad,rfl,ha⟩,_,_,q⟩:=h
  refine⟨_,qN yI (qN yB qG (qY jL (pv 0) qG (λ_ _=>rfl))) (qY jL (pv 0) qG (λ_ _=>rfl)),?_⟩
  exact⟨_,rfl,ad,_,1,_,rfl,rfl,SqT.of ha,rfl,_,_,rfl,rfl,.inl ⟨by decide,by decide⟩,_,rfl,ad,_,3,_,rfl,rfl,SqT.of ha,rfl,_,_,rfl,rfl,q⟩
theorem q7K{c:Addr}{pm ct:Value}:jT K (lmFd 4 pm ct c) ["_law_tally"] []:=jT.all λus hl=>match us,hl with| [_],_=>rfl
noncomputable def LmT(H:Hp)(g c:Addr)(f:Tl→Int):Prop:=(LamC 2 H g c∧f=Tl.cl)∨(LamC 3 H g c∧f=λT=>0-T.b)∨(LamC 4 H g c∧f=λT=>3*T.lv+T.bo)
theorem LmT.map{H H':Hp}{g c:Addr}{f:Tl→Int}(h:LmT H g c f)(h1:∀o,H g=some o→H' g=some o)(h2:∀o,H c=some o→H' c=some o):LmT H' g c f:=by
 rcases h with⟨⟨pm,ct,a,b⟩,e⟩|⟨⟨pm,ct,a,b⟩,e⟩|⟨⟨pm,ct,a,b⟩,e⟩
 ·exact .inl ⟨⟨pm,ct,h1 _ a,h2 _ b⟩,e⟩
 ·exact .inr (.inl ⟨⟨pm,ct,h1 _ a,h2 _ b⟩,e⟩)
 ·exact .inr (.inr ⟨⟨pm,ct,h1 _ a,h2 _ b⟩,e⟩)
noncomputable def qLF(t:Adr):Sp:=λvs H Q _=>∃x a b p n A B g c dx f,vs=[.ref x,a,b,p,n]∧H x=some (.ins t.C_Weighed dx [("weigh",.ref g)])∧LmT H g c f∧TlAt H a A∧TlAt H b B∧Q (.bl (decide (f A<f B))) H
theorem q21(T:Txt K mg t)(S:Fns K t):S.Weighed_goes_ahead.Ok0 P w mg base 2 (qLF t):=by
 refine S.Weighed_goes_ahead.F.ok0 vB λcdv A _ s H vs Q E hr h=>?_
 ·obtain⟨x,a,b,p,n,A,B,g,c,dx,f,rfl,hx,hl,ha,hb,q⟩:=h
  refine⟨_,(qB (qV (i:=5) vB.nd rfl (Or.inl rfl) (qJ (pv 0) rfl)) (qE (qL (uV zZ (qB1 (kk:=1) (pv 5) hr qK (qA (pv 1) qC)) (qB1 (kk:=1) (pv 5) hr qK (qA (pv 2) qC)) (qU _))))),?_⟩
  try dsimp-beta-proj-iota-zeta-eta only[wishK,cxK]
  refine⟨_,rfl,x,_,dx,_,_,rfl,hx,T.cl_Weighed,T.na_Weighed_weigh,rfl,?_⟩
  rcases hl with⟨⟨pm,ct,hg,hc⟩,rfl⟩|⟨⟨pm,ct,hg,hc⟩,rfl⟩|⟨⟨pm,ct,hg,hc⟩,rfl⟩
  ·exact⟨_,rfl,g,_,rfl,_,rfl,hg,1,_,_,qDI,by decide,q7I,a,A,rfl,ha,hg,hc,_,rfl,g,_,rfl,_,rfl,hg,1,_,_,qDI,by decide,q7I,b,B,rfl,hb,hg,hc,_,_,rfl,rfl,q⟩
  ·exact⟨_,rfl,g,_,rfl,_,rfl,hg,1,_,_,qDJ,by decide,q7J,a,A,rfl,ha,hg,hc,_,rfl,g,_,rfl,_,rfl,hg,1,_,_,qDJ,by decide,q7J,b,B,rfl,hb,hg,hc,_,_,rfl,rfl,q⟩
  ·exact⟨_,rfl,g,_,rfl,_,rfl,hg,1,_,_,qDK,by decide,q7K,a,A,rfl,ha,hg,hc,_,rfl,g,_,rfl,_,rfl,hg,1,_,_,qDK,by decide,q7K,b,B,rfl,hb,hg,hc,_,_,rfl,rfl,q⟩
noncomputable def qLG(t:Adr):Sp:=λvs H Q _=>∃r dx rl dy a b p n A B f,vs=[.ref r,a,b,p,n]∧H r=some (.ins t.C_Turned dx [("inner",.ref rl)])∧((H rl=some (.ins t.C_Fewest dy [])∧f=Tl.lv)∨(H rl=some (.ins t.C_Eldest dy [])∧f=Tl.bo))∧TlAt H a A∧TlAt H b B∧Q (.bl (decide (f B<f A))) H
theorem q2X(T:Txt K mg t)(S:Fns K t):S.Turned_goes_ahead.Ok0 P w mg base 3 (qLG t):=by
 refine S.Turned_goes_ahead.F.ok0 q2Q λcdv A _ s H vs Q E hr h=>?_
 ·obtain⟨r,dx,rl,dy,a,b,p,n,A,B,f,rfl,hr',hl,ha,hb,q⟩:=h
  refine⟨_,(qE (qL (vE (qT (qJ (pv 0) rfl) T.cl_Fewest T.m_Fewest_goes_ahead (u6 T S).mono hr S.Fewest_goes_ahead.b .nil qK (qA (pv 2) (qA (pv 1) (qA (pv 3) (qA (pv 4) qC))))) (qT (qJ (pv 0) rfl) T.cl_Eldest T.m_Eldest_goes_ahead (vQ T S).mono hr S.Eldest_goes_ahead.b .nil qK (qA (pv 2) (qA (pv 1) (qA (pv 3) (qA (pv 4) qC)))))))),?_⟩
  try dsimp-beta-proj-iota-zeta-eta only[wishK,cxK]
  rcases hl with⟨hl,rfl⟩|⟨hl,rfl⟩
  ·exact .inl ⟨_,rfl,r,_,dx,_,_,rfl,hr',T.cl_Turned,T.na_Turned_inner,rfl,rl,dy,[],rfl,hl,rfl,_,rfl,_,rfl,_,rfl,_,rfl,_,_,_,_,_,B,A,rfl,hb,ha,q⟩
  ·exact .inr ⟨_,rfl,r,_,dx,_,_,rfl,hr',T.cl_Turned,T.na_Turned_inner,rfl,rl,dy,[],rfl,hl,rfl,_,rfl,_,rfl,_,rfl,_,rfl,_,_,_,_,_,B,A,rfl,hb,ha,q⟩
noncomputable def Mny(pg many:Int):Prop:=1≤pg∧0<many∧∀j:Int,0≤j→j≤pg→(pg+j) ∣ many
noncomputable def rkW(pg nw many:Int)(T:Tl):Int:=0-(pg-T.lv)*(nw-T.bo)*(many / (pg+T.lv))
theorem q1U{x y m:Int}(h:0<m):x*m<y*m↔x<y:=by
 constructor
 ·intro z
  refine Int.not_le.mp λw=>?_
  have:=Int.mul_le_mul_of_nonneg_right w (Int.le_of_lt h)
  omega
 ·intro z
  exact Int.mul_lt_mul_of_pos_right z h
theorem qEM{pg nw many:Int}{A B:Tl}(m:Mny pg many)(oa:A.Ok pg nw)(ob:B.Ok pg nw):(gain pg nw A*(pg+B.lv)>gain pg nw B*(pg+A.lv))↔rkW pg nw many A<rkW pg nw many B:=by
 obtain⟨p1,m0,md⟩:=m
 have a0:=oa.l0
 have b0:=ob.l0
 obtain⟨sa,ea⟩:=md A.lv oa.l0 oa.l1
 obtain⟨sb,eb⟩:=md B.lv ob.l0 ob.l1
 have da:many / (pg+A.lv)=sa:=by rw[ea];exact Int.mul_ediv_cancel_left _ (by omega)
 have db:many / (pg+B.lv)=sb:=by rw[eb];exact Int.mul_ediv_cancel_left _ (by omega)
 unfold rkW
 rw[da,db]
 show gain pg nw B*(pg+A.lv)<gain pg nw A*(pg+B.lv)↔0-gain pg nw A*sa<0-gain pg nw B*sb
 have pa:0<pg+A.lv:=by omega
 have pb:0<pg+B.lv:=by omega
 have e:(0-gain pg nw A*sa<0-gain pg nw B*sb)↔gain pg nw B*sb<gain pg nw A*sa:=by omega
 rw[e,←q1U (x:=gain pg nw B*(pg+A.lv)) m0,←q1U (x:=gain pg nw B*sb) (Int.mul_pos pa pb)]
 have e1:gain pg nw B*(pg+A.lv)*many=gain pg nw B*sb*((pg+A.lv)*(pg+B.lv)):=by rw[eb];ac_rfl
 have e2:gain pg nw A*(pg+B.lv)*many=gain pg nw A*sa*((pg+A.lv)*(pg+B.lv)):=by rw[ea];ac_rfl
 rw[e1,e2]
noncomputable def RuAt(t:Adr)(H:Hp)(r rl:Addr)(pg nw:Int)(f:Tl→Int):Prop:=(∃dx,H r=some (.ins t.C_Rule dx [])∧f=λ_=>0)∨(∃dx,H r=some (.ins t.C_Fewest dx [])∧f=Tl.lv)∨(∃dx,H r=some (.ins t.C_Eldest dx [])∧f=Tl.bo)∨(∃dx dy,H r=some (.ins t.C_Turned dx [("inner",.ref rl)])∧((H rl=some (.ins t.C_Fewest dy [])∧f=λT=>-T.lv)∨(H rl=some (.ins t.C_Eldest dy [])∧f=λT=>-T.bo)))∨(∃dx many,H r=some (.ins t.C_Worth dx [])∧f=rkW pg nw many∧Mny pg many)∨(∃dx many,H r=some (.ins t.C_Window dx [("many",.int many)])∧f=Tl.lv)∨(∃dx g c,H r=some (.ins t.C_Weighed dx [("weigh",.ref g)])∧LmT H g c f)
noncomputable def spUn(t:Adr)(K:W.Frag):Sp:=λvs H Q _=>∃r rl v l pg nw T us ts f,vs=[.ref r,v,.ref l,.int pg,.int nw]∧RuAt t H r rl pg nw f∧TlAt H v T∧SqL K H l us∧Tls H us ts∧T.Ok pg nw∧(∀o∈ts,o.Ok pg nw)∧pg≤16∧Q (.bl (unb f ts T)) H
theorem q7L(T:Txt K mg t)(S:Fns K t):S.is_unbeaten.Ok0 P w mg base 4 (spUn t K):=by
 refine S.is_unbeaten.F.ok0 q2N λcdv A _ s H vs Q E hr h=>?_
 ·obtain⟨r,rl,v,l,pg,nw,A,us,ts,f,rfl,hR,hv,hl,hts,oa,os,hpg,q⟩:=h
  obtain⟨va,rfl,hva⟩:=id hv
  have hlen:=hts.len
  refine⟨_,(qB (q06 gR rfl (jP (pv 2)) (qX (i:=5) q2N.nd rfl (Or.inl rfl)) (qE (jB (PW.pt (qBV (qS (qHA hr.units) (pv 5) (pv 1) (qU _)) (q93 (jW (qJG (vE (qT (pv 0) T.cl_Rule T.m_Rule_goes_ahead (q42 T S).mono hr S.Rule_goes_ahead.b .nil qK (qA (pv 5) (qA (pv 1) (qA (pv 3) (qA (pv 4) qC))))) (vE (qT (pv 0) T.cl_Fewest T.m_Fewest_goes_ahead (u6 T S).mono hr S.Fewest_goes_ahead.b .nil qK (qA (pv 5) (qA (pv 1) (qA (pv 3) (qA (pv 4) qC))))) (vE (qT (pv 0) T.cl_Eldest T.m_Eldest_goes_ahead (vQ T S).mono hr S.Eldest_goes_ahead.b .nil qK (qA (pv 5) (qA (pv 1) (qA (pv 3) (qA (pv 4) qC))))) (vE (qT (pv 0) T.cl_Turned T.m_Turned_goes_ahead (q2X T S).mono hr S.Turned_goes_ahead.b .nil qK (qA (pv 5) (qA (pv 1) (qA (pv 3) (qA (pv 4) qC))))) (vE (qT (pv 0) T.cl_Worth T.m_Worth_goes_ahead (q38 T S).mono hr S.Worth_goes_ahead.b .nil qK (qA (pv 5) (qA (pv 1) (qA (pv 3) (qA (pv 4) qC))))) (vE (qT (pv 0) T.cl_Window T.m_Window_goes_ahead (u6 T S).mono hr S.Fewest_goes_ahead.b .nil qK (qA (pv 5) (qA (pv 1) (qA (pv 3) (qA (pv 4) qC))))) (qT (pv 0) T.cl_Weighed T.m_Weighed_goes_ahead (q21 T S).mono hr S.Weighed_goes_ahead.b .nil qK (qA (pv 5) (qA (pv 1) (qA (pv 3) (qA (pv 4) qC)))))))))))))))) (qE (qL q3B)) qQ))) (qE (qL q3B))),?_⟩
  try dsimp-beta-proj-iota-zeta-eta only[wishK,cxK]
  refine⟨_,rfl,l,rfl,⟨us,hl⟩,?_⟩
  refine vL (K:=K) (xs:=us) (λi σ' H2=>∃y,σ'=[some (.ref r),some (.ref va),some (.ref l),some (.int pg),some (.int nw),y]∧H2=H∧∀j,∀hj:j<ts.length,j<i→¬f ts[j] <f A) ⟨_,rfl,rfl,λj _ z=>absurd z (Nat.not_lt_zero _)⟩ (λi σ' H2 hi hp=>?_) (λi x σ' H2 hx hp=>?_) (λσ' H2 hp=>?_)
  ·obtain⟨y,rfl,rfl,_⟩:=hp
   exact hl
  ·obtain⟨y,rfl,rfl,hm⟩:=hp
   obtain⟨O,hO,ho⟩:=Paired.at hts hx
   obtain⟨xa,rfl,hxa⟩:=id ho
   have hi:i<ts.length:=(hG.mp hO).1
   obtain rfl:ts[i]=O:=(hG.mp hO).2
   have ok:(ts[i]).Ok pg nw:=os _ (mU hi)
   refine⟨_,rfl,_,rfl,xa,va,(ts[i]).ns,A.ns,rfl,rfl,SqT.of hxa,SqT.of hva,rfl,_,rfl,?_⟩
   by_cases e:(ts[i]).ns=A.ns
   ·rw[hI e]
    refine iteF (iteF ⟨_,rfl,rfl,λj hj z=>?_⟩)
    by_cases ej:j=i
    ·subst ej
     rw[Tl.eq_of e]
     exact Int.lt_irrefl _
    ·exact hm j hj (by omega)
   ·rw[hV e]
    refine iteT ?_
    refine⟨λv' H'=>v'=.bl (decide (f ts[i] <f A))∧H'=H2,?_,?_⟩
    ·rcases hR with⟨dx,hins,rfl⟩|⟨dx,hins,rfl⟩|⟨dx,hins,rfl⟩|⟨dx,dy,hins,⟨hi2,rfl⟩|⟨hi2,rfl⟩⟩|⟨dx,many,hins,rfl,mm⟩|⟨dx,many,hins,rfl⟩|⟨dx,g,c,hins,hlm⟩
     ·exact .inl ⟨_,rfl,r,dx,_,rfl,hins,rfl,_,rfl,_,rfl,_,rfl,_,rfl,_,_,_,_,_,rfl,rfl,rfl⟩
     ·exact .inr (.inl ⟨_,rfl,r,dx,_,rfl,hins,rfl,_,rfl,_,rfl,_,rfl,_,rfl,_,_,_,_,_,ts[i],A,rfl,ho,hv,rfl,rfl⟩)
     ·exact .inr (.inr (.inl ⟨_,rfl,r,dx,_,rfl,hins,rfl,_,rfl,_,rfl,_,rfl,_,rfl,_,_,_,_,_,ts[i],A,rfl,ho,hv,rfl,rfl⟩))
     ·refine .inr (.inr (.inr (.inl ⟨_,rfl,r,dx,_,rfl,hins,rfl,_,rfl,_,rfl,_,rfl,_,rfl,r,dx,rl,dy,_,_,_,_,ts[i],A,Tl.lv,rfl,hins,.inl ⟨hi2,rfl⟩,ho,hv,?_,rfl⟩)))
      exact dB V.bl (dF.mpr ⟨λz=>by show- _ < - _;omega,λz=>by have z:-(ts[i]).lv < -A.lv:=z;omega⟩)
     ·refine .inr (.inr (.inr (.inl ⟨_,rfl,r,dx,_,rfl,hins,rfl,_,rfl,_,rfl,_,rfl,_,rfl,r,dx,rl,dy,_,_,_,_,ts[i],A,Tl.bo,rfl,hins,.inr ⟨hi2,rfl⟩,ho,hv,?_,rfl⟩)))
      exact dB V.bl (dF.mpr ⟨λz=>by show- _ < - _;omega,λz=>by have z:-(ts[i]).bo < -A.bo:=z;omega⟩)
     ·refine .inr (.inr (.inr (.inr (.inl ⟨_,rfl,r,dx,_,rfl,hins,rfl,_,rfl,_,rfl,_,rfl,_,rfl,_,_,_,pg,nw,ts[i],A,rfl,ho,hv,ok,oa,hpg,?_,rfl⟩))))
      exact dB V.bl (dF.mpr (qEM mm ok oa))
     ·exact .inr (.inr (.inr (.inr (.inr (.inl ⟨_,rfl,r,dx,_,rfl,hins,rfl,_,rfl,_,rfl,_,rfl,_,rfl,_,_,_,_,_,ts[i],A,rfl,ho,hv,rfl,rfl⟩)))))
     ·exact .inr (.inr (.inr (.inr (.inr (.inr ⟨_,rfl,r,dx,_,rfl,hins,rfl,_,rfl,_,rfl,_,rfl,_,rfl,r,_,_,_,_,ts[i],A,g,c,dx,_,rfl,hins,hlm,ho,hv,rfl,rfl⟩)))))
    ·rintro v' H' ⟨rfl,rfl⟩
     refine⟨_,rfl,?_⟩
     by_cases g:f ts[i] <f A
     ·rw[hI g]
      refine iteT ?_
      have z:unb f ts A=false:=by
       cases z:unb f ts A with
       |false=>rfl
       |true=>exact absurd (q32.mp z _ (mU hi)) (by omega)
      rw[z]at q
      exact q
     ·rw[hV g]
      refine iteF ⟨_,rfl,rfl,λj hj z=>?_⟩
      by_cases ej:j=i
      ·subst ej
       exact g
      ·exact hm j hj (by omega)
  ·obtain⟨y,rfl,rfl,hm⟩:=hp
   have z:unb f ts A=true:=q32.mpr λo ho=>by
    obtain⟨j,hj,rfl⟩:=gK ho
    have:=hm j hj (by omega)
    omega
   rw[z]at q
   exact q
noncomputable def spFu(t:Adr)(K:W.Frag):Sp:=λvs H Q _=>∃r rl l pg nw us ts f,vs=[.ref r,.ref l,.int pg,.int nw]∧RuAt t H r rl pg nw f∧SqL K H l us∧Tls H us ts∧(∀o∈ts,o.Ok pg nw)∧pg≤16∧ts≠[]∧Q (.int (pk f ts)) H
theorem q05(T:Txt K mg t)(S:Fns K t):S.first_unbeaten.Ok0 P w mg base 5 (spFu t K):=by
 refine S.first_unbeaten.F.ok0 v9 λcdv A _ s H vs Q E hr h=>?_
 ·obtain⟨r,rl,l,pg,nw,us,ts,f,rfl,hR,hl,hts,os,hpg,hne,q⟩:=h
  have hlen:=hts.len
  obtain⟨i,hi,hu,hn⟩:=q6N f ts hne
  have at':∀j,∀hj:j<ts.length,∃x,us[j]?=some x∧TlAt H x ts[j]:=λj hj=>by
   have e:us[j]?=some (us[j]'(by omega)):=hE (by omega)
   obtain⟨O,hO,ho⟩:=Paired.at hts e
   obtain rfl:ts[j]=O:=(hG.mp hO).2
   exact⟨_,e,ho⟩
  refine⟨_,(qB (qV (i:=4) v9.nd rfl (Or.inl rfl) qG) (qB (qAG gR (yL (jW (qM (q7L T S).mono hr rfl T.mg_is_unbeaten T.kp_is_unbeaten S.is_unbeaten.b .nil qK (qA (pv 0) (qA (qY jE (pv 1) (pv 4) (λ_ _=>rfl)) (qA (pv 1) (qA (pv 2) (qA (pv 3) qC)))))))) (qE (qER (i:=4) v9.nd rfl (Or.inl rfl) qG q3I))) (qE (qL (qY jL (qY jE (pv 1) (pv 4) (λ_ _=>rfl)) qG (λ_ _=>rfl)))))),?_⟩
  try dsimp-beta-proj-iota-zeta-eta only[wishK,cxK]
  refine⟨λm σ' H2=>H2=H∧∃p:Nat,σ'=[some (.ref r),some (.ref l),some (.int pg),some (.int nw),some (.int p)]∧p≤i∧m=i-p,⟨i,rfl,0,rfl,mN _,rfl⟩,?_⟩
  rintro m σ' H2 ⟨rfl,p,rfl,hpi,rfl⟩
  obtain⟨x,hx,tx⟩:=at' p (by omega)
  refine⟨_,rfl,_,rfl,_,rfl,l,us,p,x,rfl,rfl,hl,yC hx,_,rfl,_,rfl,_,rfl,r,rl,x,l,pg,nw,ts[p],us,ts,f,rfl,hR,tx,hl,hts,os _ (mU _),os,hpg,?_⟩
  by_cases e:p=i
  ·subst e
   rw[hu]
   refine⟨_,rfl,iteF ?_⟩
   obtain⟨xa,rfl,hxa⟩:=tx
   refine⟨_,rfl,_,rfl,l,us,p,_,rfl,rfl,hl,yC hx,xa,_,0,_,rfl,rfl,SqT.of hxa,rfl,?_⟩
   rw[qFN hi hu hn]at q
   exact q
  ·rw[hn p (by omega)]
   refine⟨_,rfl,iteT ⟨_,λ_ _ z=>z,?_⟩⟩
   exact⟨_,rfl,_,_,rfl,rfl,i-(p+1),by omega,rfl,p+1,rfl,by omega,rfl⟩
theorem yO(T:Txt K mg t)(S:Fns K t):S.Rule_choose.Ok0 P w mg base 6 (spFu t K):=by
 refine S.Rule_choose.F.ok0 q74 λcdv A _ s H vs Q E hr h=>?_
 ·obtain⟨r,rl,l,pg,nw,us,ts,f,rfl,z⟩:=h
  refine⟨_,(qE (qL (qM (q05 T S).mono hr rfl T.mg_first_unbeaten T.kp_first_unbeaten S.first_unbeaten.b .nil qK (qA (pv 0) (qA (pv 1) (qA (pv 2) (qA (pv 3) qC))))))),?_⟩
  try dsimp-beta-proj-iota-zeta-eta only[wishK,cxK]
  exact⟨_,rfl,_,rfl,_,rfl,_,rfl,r,rl,l,pg,nw,us,ts,f,rfl,z⟩
noncomputable def qLH:Sp:=λvs H Q _=>∃v T,vs=[v]∧TlAt H v T∧NewO H (.tup [.int T.bo,.int T.b]) Q
theorem qEN(T:Txt K mg t)(S:Fns K t):S.by_age.Ok0 P w mg base 1 qLH:=by
 refine S.by_age.F.ok0 qEH λcdv A _ s H vs Q E hr h=>?_
 ·obtain⟨v,A,rfl,⟨va,rfl,hv⟩,q⟩:=h
  refine⟨_,(qE (qL (yP (qA (qY jL (pv 0) qG (λ_ _=>rfl)) (qA (qY jL (pv 0) qG (λ_ _=>rfl)) qC))))),?_⟩
  try dsimp-beta-proj-iota-zeta-eta only[wishK,cxK]
  exact⟨_,rfl,va,_,3,_,rfl,rfl,SqT.of hv,rfl,_,rfl,va,_,0,_,rfl,rfl,SqT.of hv,rfl,sz2,q⟩
noncomputable def spWi(t:Adr):Sp:=λvs H Q E=>∃x dx,∃m:Int,vs=[.ref x,.int m]∧H x=some (.ins t.C_Window dx [])∧1≤m∧m≤16∧Q .non (upd H x (.ins t.C_Window dx [("many",.int m)]))
theorem q7M(T:Txt K mg t)(S:Fns K t):S.Window_init.Ok0 P w mg base 3 (spWi t):=by
 refine S.Window_init.F.ok0 q76 λcdv A _ s H vs Q E hr h=>?_
 ·obtain⟨x,dx,m,rfl,hx,m1,m2,q⟩:=h
  refine⟨_,(qB (jB (yL (jW (qM (jD T S).mono hr rfl T.mg_is_within T.kp_is_within S.is_within.b .nil qK (qA (pv 1) (qA qG (qA qG qC)))))) (qE qZ) qQ) (qE (jK (pv 0) (pv 1) rfl))),?_⟩
  try dsimp-beta-proj-iota-zeta-eta only[wishK,cxK]
  refine⟨_,rfl,.int m,_,_,rfl,.int m,_,rfl,?_⟩
  rw[inBi m1 m2]
  exact iteF ⟨_,rfl,_,rfl,x,_,dx,_,rfl,hx,T.cl_Window,T.na_Window_many,by simp,q⟩
noncomputable def spWc(t:Adr)(K:W.Frag):Sp:=λvs H Q _=>∃(r dx:Addr) (m:Int) (l:Addr) (us:List V) (ts:List Tl) (pg nw:Int),vs=[.ref r,.ref l,.int pg,.int nw]∧H r=some (.ins t.C_Window dx [("many",.int m)])∧1≤m∧SqL K H l us∧Tls H us ts∧(∀o∈ts,Tl.Ok pg nw o)∧ts≠[]∧ts.length≤16∧pg≤16∧
 ∀A C H',Same H H'→List.Perm A ts→List.Pairwise agR A→List.Perm C (A.take m.toNat)→List.Pairwise (λx y=>lx (Tl.ns y) (Tl.ns x)=false) C→Q (.int (pk Tl.lv C)) H'
theorem q56(T:Txt K mg t)(S:Fns K t):S.Window_choose.Ok0 P w mg base 6 (spWc t K):=by
 refine S.Window_choose.F.ok0 q13 λcdv A _ s H vs Q E hr h=>?_
 ·obtain⟨r,dx,m,l,us,ts,pg,nw,rfl,hr1,m1,hl,hts,os,hne,hln,hpg,q⟩:=h
  have hlen:=hts.len
  refine⟨_,(qB (qV (i:=4) q13.nd rfl (Or.inl rfl) (qAK qCW (qC8 (k:=3) (qEN T S).mono hr S.by_age.b (by rfl) T.b_sorted rfl T.mg_by_age (qA (pv 1) qC)) qCT (qCU (qJ (pv 0) rfl)))) (qE (qL (qM (q05 T S).mono hr rfl T.mg_first_unbeaten T.kp_first_unbeaten S.first_unbeaten.b .nil qK (qA (pv 0) (qA (qW zB (by rfl) T.b_sorted (by kernel_rfl) (qA (pv 4) qC)) (qA (pv 2) (qA (pv 3) qC)))))))),?_⟩
  try dsimp-beta-proj-iota-zeta-eta only[wishK,cxK]
  refine⟨_,rfl,l,us,λi zs H'=>Same H H'∧Paired (λz (o:Tl)=>∃a,z=.ref a∧H' a=some (.tup [.int o.bo,.int o.b])) zs (ts.take i),rfl,hl,by omega,⟨Same.refl H,.nil⟩,λi x zs H' hx hp=>?_,λzs H' lz hp=>?_⟩
  ·obtain⟨sm,pr⟩:=hp
   obtain⟨O,hO,ho⟩:=Paired.at hts hx
   have hi:i<ts.length:=(hG.mp hO).1
   obtain rfl:ts[i]=O:=(hG.mp hO).2
   refine⟨x,ts[i],rfl,ho.same sm,λp H2 np s2 h2=>⟨sm.trans s2,?_⟩⟩
   rw[←mB hi]
   exact L2.Paired.snoc (Paired.mapP pr λ_ _ ⟨a,e,z⟩=>⟨a,e,s2 _ _ z⟩) ⟨p,rfl,h2⟩
  ·obtain⟨sm,pr⟩:=hp
   rw[hlen,mZ]at pr
   refine⟨ts.map λo=>[o.bo,o.b],2,?_,λk hk=>?_,by decide,λq1 p1 w1=>?_⟩
   ·refine zG (by rw[hC];exact pr.len) λj z k hz hk=>?_
    obtain⟨o,ho,a,e,ha⟩:=Paired.at pr hz
    rw[kN,ho]at hk
    obtain rfl:=kF hk
    exact⟨a,e,SqT.of ha⟩
   ·obtain⟨o,_,rfl⟩:=kX.mp hk
    rfl
   ·have hin:∀i∈q1,i<us.length:=λi hi=>mK.mp (p1.mem_iff.mp hi)
    have hin':∀i∈q1,i<ts.length:=λi hi=>by rw[←hlen];exact hin i hi
    rw[hlen]at p1
    have AP:=q4T p1
    rw[q6R (λo=>[o.bo,o.b]) hin',gC]at w1
    intro sl H2 n2 s2 h2
    have at2:Tls H2 (q1.map λi=>us.getD i .non) (pick q1 ts):=q01 (hts.same (sm.trans s2)) hin
    generalize q1.map (λi=>us.getD i V.non)=us2 at h2 at2 ⊢
    generalize pick q1 ts=A at AP w1 at2 ⊢
    have r2:=s2 _ _ (sm _ _ hr1)
    refine⟨_,rfl,r,_,dx,_,_,rfl,r2,T.cl_Window,T.na_Window_many,rfl,_,rfl,sl,us2,rfl,SqL.of h2,λse ne=>?_⟩
    rw[qFO (by omega)]
    have s3:Same H2 (upd H2 se (.lst (us2.take m.toNat))):=Same.upd ne
    have h3:(upd H2 se (.lst (us2.take m.toNat))) se=some (.lst (us2.take m.toNat)):=qH
    generalize upd H2 se (.lst (us2.take m.toNat))=H3 at s3 h3 ⊢
    have at3:Tls H3 (us2.take m.toNat) (A.take m.toNat):=Paired.takeP _ (at2.same s3)
    have tl3:(us2.take m.toNat).length≤16:=by
     have e1:=at3.len
     have e2:(A.take m.toNat).length≤16:=by
      rw[gA,AP.length_eq]
      omega
     omega
    refine⟨_,rfl,_,rfl,se,us2.take m.toNat,(A.take m.toNat).map Tl.ns,4,rfl,SqL.of h3,?_,λk hk=>?_,by decide,by omega,λq2 p2 w2=>?_⟩
    ·refine zG (by rw[hC];exact at3.len) λj z k hz hk=>?_
     obtain⟨o,ho,a,e,ha⟩:=Paired.at at3 hz
     rw[kN,ho]at hk
     obtain rfl:=kF hk
     exact⟨a,e,SqT.of ha⟩
    ·obtain⟨o,_,rfl⟩:=kX.mp hk
     rfl
    ·have jn:∀i∈q2,i<(us2.take m.toNat).length:=λi hi=>mK.mp (p2.mem_iff.mp hi)
     have jn':∀i∈q2,i<(A.take m.toNat).length:=λi hi=>by rw[←at3.len];exact jn i hi
     rw[at3.len]at p2
     have CP:=q4T p2
     rw[q6R Tl.ns jn',gC]at w2
     intro cl H4 n4 s4 h4
     have at4:Tls H4 (q2.map λi=>(us2.take m.toNat).getD i .non) (pick q2 (A.take m.toNat)):=q01 (at3.same s4) jn
     have r4:=s4 _ _ (s3 _ _ r2)
     have tk:A.take m.toNat≠[]:=by
      intro z
      have:=dB List.length z
      rw[gA,List.length_nil,AP.length_eq]at this
      have:=List.length_pos_iff.mpr hne
      omega
     refine⟨_,rfl,_,rfl,r,r,cl,pg,nw,_,pick q2 (A.take m.toNat),Tl.lv,rfl,.inr (.inr (.inr (.inr (.inr (.inl ⟨dx,m,r4,rfl⟩))))),SqL.of h4,at4,λo ho=>os o (AP.mem_iff.mp (List.mem_of_mem_take (CP.mem_iff.mp ho))),hpg,λz=>tk ?_,?_⟩
     ·rw[z]at CP
      exact List.nil_perm.mp CP
     ·exact q A _ H4 (sm.trans (s2.trans (s3.trans s4))) AP w1 CP w2
theorem qDL(xs:List V)(i:Nat):∀n p,(clr xs i n).getD p .non=if i≤p∧p<i+n then .non else xs.getD p .non
 |0,p=>by rw[hX (by omega)];rfl
 |n+1,p=>by
  show((clr xs i n).set (i+n) .non).getD p .non=_
  rw[jI,qDL xs i n p]
  by_cases e:i+n=p
  ·subst e
   rw[kG (show i≤i+n∧i+n<i+(n+1) by omega),hX (show ¬(i≤i+n∧i+n<i+n) by omega)]
   by_cases z:i+n<(clr xs i n).length
   ·rw[kG ⟨rfl,z⟩]
   ·rw[hX (λy=>z y.2)]
    rw[q5X]at z
    rw[hU,rH (by omega)]
    rfl
  ·rw[hX (λy=>e y.1)]
   by_cases z:i≤p∧p<i+n
   ·rw[kG z,kG (by omega)]
   ·rw[hX z,hX (by omega)]
structure JS(t:Adr)(H:Hp)(x:Sto)(sh sr:Int)(ie:Nat)(r5:V)(m:CM)(q:QM):Prop where
 st:StAt t H x (.int sh) (.int sr) (.int (ie:Int)) r5 m q
 ft:Fit m q
 br:m.br=noB q.B
 li:∀b,valV m.lim (Sum.inl b)=none
 lf:m.lf=none
 mo:m.mo=1000000
 qs:QS q
 on:OneP q.B q.P q.fi
 cr:∀b f:Nat,b<q.B→q.fi.getD b 0≤(f:Int)→f<q.P→m.bo.getD (b*q.P+f) .non=.non
 vl:∀n p,(n,p)∈q.V→∃b f tp mk v,b<q.B∧f<q.P∧p=((b*q.P+f:Nat):Int)∧((f:Nat):Int)<q.fi.getD b 0∧m.bo.getD (b*q.P+f) .non=.ref tp∧H tp=some (.tup [.int mk,.int v])
 nr:∀y∈q.V,y.1≠64
 pd:(q.V.map (·.2)).Nodup
 cl:∀b,0≤m.cl.getD b 0∧m.cl.getD b 0≤(m.rc.length:Int)
 bo:∀b,0≤q.bo.getD b 0∧q.bo.getD b 0<q.nx
 nx:1≤q.nx
theorem q7N{P b f c g:Nat}(hf:f<P)(hg:g<P)(e:b*P+f=c*P+g):b=c∧f=g:=by
 have h1:=u7 (b:=b) hf
 have h2:=u7 (b:=c) hg
 rw[e,h2]at h1
 subst h1
 exact⟨rfl,by omega⟩
section
variable{H H':Hp}{x:Sto}{sh sr:Int}{ie:Nat}{r5:V}{m:CM}{q:QM}
theorem JS.keep(j:JS t H x sh sr ie r5 m q){F:List Addr}(k:Keep F H H')(st:StAt t H' x (.int sh) (.int sr) (.int (ie:Int)) r5 m q):JS t H' x sh sr ie r5 m q:=
 have vl':∀n p,(n,p)∈q.V→∃b f tp mk v,b<q.B∧f<q.P∧p=((b*q.P+f:Nat):Int)∧((f:Nat):Int)<q.fi.getD b 0∧m.bo.getD (b*q.P+f) .non=.ref tp∧H' tp=some (.tup [.int mk,.int v]):=λn p h=>by
  obtain⟨b,f,tp,mk,v,a1,a2,a3,a4,a5,a6⟩:=j.vl n p h
  exact⟨b,f,tp,mk,v,a1,a2,a3,a4,a5,k.tp _ _ a6⟩
 { j with st:=st,vl:=vl' }
theorem JS.same(j:JS t H x sh sr ie r5 m q)(s:Same H H'):JS t H' x sh sr ie r5 m q:=j.keep (F:=[]) (Keep.same s) (j.st.same s)
theorem JS.kT(j:JS t H x sh sr ie r5 m q)(k:Keep [t.T_Plain_free] H H')(tb:TbF t H'):JS t H' x sh sr ie r5 m q:=j.keep k (j.st.kT k tb)
theorem JS.brD(j:JS t H x sh sr ie r5 m q)(b:Nat):m.br.getD b false=false:=by
 rw[j.br,hU,gE]
 split<;>rfl
theorem JS.pgs(j:JS t H x sh sr ie r5 m q){b f:Nat}(hb:b<q.B)(hf:f<q.P):((b*q.P+f:Nat):Int)≤m.bl*m.pg-1:=by
 rw[j.ft.eB,j.ft.eP,←Int.natCast_mul]
 have:b*q.P+f<q.B*q.P:=(Nat.div_lt_iff_lt_mul (by omega)).mp (by rw[u7 hf];exact hb)
 omega
theorem JS.gd(j:JS t H x sh sr ie r5 m q):Gd m:=⟨j.lf,j.brD,j.li⟩
theorem JS.put(j:JS t H x sh sr ie r5 m q){b f:Nat}{n v:Int}(hb:b<q.B)(hf:f<q.P)(ef:q.fi.getD b 0=(f:Int))(n0:0≤n)(n1:n<64)(rc:m.rc.length<1000000)
 (sp:(jJ q.B q.P (noB q.B) q.fi=some b)∨(jJ q.B q.P (noB q.B) q.fi=none∧q.fi.getD b 0=0)) {tp:Addr} (htp:H' tp=some (.tup [.int (q.nx*128+n),.int v])) {F:List Addr} (k:Keep F H H')
 (st:StAt t H' x (.int sh) (.int sr) (.int (ie:Int)) r5 (putC m (b*q.P+f) (.ref tp)) (q.put b f n)):JS t H' x sh sr ie r5 (putC m (b*q.P+f) (.ref tp)) (q.put b f n):=by
 have okq:=j.qs.ok
 have okd:(m.deed "put" ((b*q.P+f:Nat):Int) (((b*q.P+f:Nat):Int) / m.pg) false).Ok:=j.ft.ok.deed rc
 have nbo:=j.ft.ok.nbo
 have hpg:=j.pgs hb hf
 have efi:(q.put b f n).fi=q.fi.set b ((f:Int)+1):=by show q.fi.set b (q.fi.getD b 0+1)=_;rw[ef]
 have gfi:∀c,(q.put b f n).fi.getD c 0=if b=c then(f:Int)+1 else q.fi.getD c 0:=λc=>by
  rw[efi,jI,okq.lf]
  by_cases e:b=c
  ·rw[kG ⟨e,hb⟩,kG e]
  ·rw[hX (λz=>e z.1),hX e]
 have gbo:∀p,(putC m (b*q.P+f) (.ref tp)).bo.getD p .non=if b*q.P+f=p then .ref tp else m.bo.getD p .non:=λp=>by
  show(m.bo.set (b*q.P+f) (.ref tp)).getD p .non=_
  rw[jI]
  by_cases e:b*q.P+f=p
  ·rw[kG ⟨e,by omega⟩,kG e]
  ·rw[hX (λz=>e z.1),hX e]
 refine⟨st,⟨⟨okd.bl1,okd.bl2,okd.pg1,okd.pg2,?_,okd.ncl,okd.ndc,okd.nbr,okd.lim,okd.nrc⟩,okq.put hb hf ef n0 (by omega),j.ft.eB,j.ft.eP⟩,j.br,j.li,?_,j.mo,j.qs.put hb hf ef n0 (by omega),?_,λc g hc hg hgP=>?_,λn' p h=>?_,λy hy=>?_,?_,λc=>?_,λc=>?_,?_⟩
 ·show((m.bo.set _ _).length:Int)=_
  rw[mV]
  exact nbo
 ·show m.lf.map _=none
  rw[j.lf]
  rfl
 ·exact qDE j.on hb okq.lf sp
 ·show(putC m (b*q.P+f) (.ref tp)).bo.getD (c*q.P+g) .non=.non
  rw[gfi]at hg
  rw[gbo]
  by_cases e:b=c
  ·subst e
   rw[kG rfl]at hg
   rw[hX (by omega)]
   exact j.cr b g hc (by omega) hgP
  ·rw[hX e]at hg
   rw[hX (λz=>e (q7N hf hgP z).1)]
   exact j.cr c g hc hg hgP
 ·rcases zC.mp h with e|⟨h,hne⟩
  ·cases e
   refine⟨b,f,tp,_,v,hb,hf,rfl,?_,?_,htp⟩
   ·rw[gfi,kG rfl];omega
   ·show(putC m (b*q.P+f) (.ref tp)).bo.getD (b*q.P+f) .non=_
    rw[gbo,kG rfl]
  ·obtain⟨c,g,tq,mk,w,a1,a2,a3,a4,a5,a6⟩:=j.vl n' p h
   refine⟨c,g,tq,mk,w,a1,a2,a3,?_,?_,k.tp _ _ a6⟩
   ·rw[gfi]
    by_cases e:b=c
    ·subst e;rw[kG rfl];omega
    ·rw[hX e];exact a4
   ·show(putC m (b*q.P+f) (.ref tp)).bo.getD (c*q.P+g) .non=_
    rw[gbo,hX (λz=>?_)]
    ·exact a5
    ·obtain⟨e1,e2⟩:=q7N hf a2 z
     subst e1 e2
     rw[ef]at a4
     omega
 ·rcases zC.mp hy with e|⟨h,_⟩
  ·rw[e]
   show n≠64
   omega
  ·exact j.nr y h
 ·show((y9 q.V n++[(n,((b*q.P+f:Nat):Int))]).map (·.2)).Nodup
  rw[kU]
  refine List.nodup_append.mpr ⟨j.pd.sublist (List.Sublist.map _ List.filter_sublist),by simp,λa ha c hc e=>?_⟩
  obtain⟨y,hy,rfl⟩:=kX.mp ha
  obtain⟨c',g,tq,mk,w,a1,a2,a3,a4,_⟩:=j.vl y.1 y.2 (jG.mp hy).1
  have hc:c=((b*q.P+f:Nat):Int):=kC.mp hc
  have e:y.2=c:=e
  rw[a3,hc]at e
  obtain⟨e1,e2⟩:=q7N a2 hf (Int.ofNat.inj e)
  subst e1 e2
  rw[ef]at a4
  omega
 ·show 0≤m.cl.getD c 0∧m.cl.getD c 0≤((m.rc++[_]).length:Int)
  have:=j.cl c
  rw[k8,List.length_singleton]
  omega
 ·show 0≤(if q.fi.getD b 0=0 then q.bo.set b q.nx else q.bo).getD c 0∧(if q.fi.getD b 0=0 then q.bo.set b q.nx else q.bo).getD c 0<q.nx+1
  have:=j.bo c
  have:=j.nx
  split
  ·rw[jI]
   split<;>omega
  ·omega
 ·show 1≤q.nx+1
  have:=j.nx
  omega
theorem JS.set(j:JS t H x sh sr ie r5 m q){n v:Int}(n0:0≤n)(n1:n<64)(rc:m.rc.length<1000000)(hr:0<rm q.B q.P q.fi){Q:VK}{E:XK}
 (kk:∀b f tp H',b=spF q m.cl→b<q.B→f<q.P→q.fi.getD b 0=(f:Int)→JS t H' x sh sr ie r5 (putC m (b*q.P+f) (.ref tp)) (q.put b f n)→rm q.B q.P (q.put b f n).fi+1=rm q.B q.P q.fi→Keep (t.T_Plain_free::sf x) H H'→Q (.int ((b*q.P+f:Nat):Int)) H'):qBJ t [.ref x.s,.int n,.int v] H Q E:=by
 refine⟨x,_,_,_,_,m,q,n,v,rfl,j.st,j.ft,j.gd,rc,λl hl=>?_⟩
 rw[j.br]at hl
 obtain⟨b,hsp,hc⟩:=q4W j.on j.qs.ok.wr j.qs.ok.p1 hl hr
 have hF:=qGE j.on j.qs.ok.wr j.qs.ok.p1 hl hr
 obtain⟨hB,_,f0,f1⟩:=q6Z hl j.qs.ok.p1 hsp
 obtain⟨f,ef⟩:∃f:Nat,q.fi.getD b 0=(f:Int):=⟨(q.fi.getD b 0).toNat,by omega⟩
 have hf:f<q.P:=by omega
 exact⟨b,f,by rw[j.br];exact hsp,ef,j.cr b f hB (by omega) hf,λtp H' htp kH st'=>kk b f tp H' (kF (hsp.symm.trans hF)) hB hf ef (j.put hB hf ef n0 n1 rc hc htp kH st') (qG9 hB j.qs.ok.lf ef hf) kH⟩
theorem JS.wipe(j:JS t H x sh sr ie r5 m q){b:Nat}(hb:b<q.B)(rc:m.rc.length<1000000)(nl:∀y∈q.V,¬y.2 / (q.P:Int)=(b:Int)){F:List Addr}(k:Keep F H H')
 (st:StAt t H' x (.int sh) (.int sr) (.int (ie:Int)) r5 (wipC m b) (q.emptied b)):JS t H' x sh sr ie r5 (wipC m b) (q.emptied b):=by
 have okq:=j.qs.ok
 have okd:(m.deed "wipe" (b:Int) (b:Int) false).Ok:=j.ft.ok.deed rc
 have e1:((b:Int)*m.pg).toNat=b*q.P:=by rw[j.ft.eP,←Int.natCast_mul,mH]
 have e2:m.pg.toNat=q.P:=by rw[j.ft.eP,mH]
 have gbo:∀p,(wipC m b).bo.getD p .non=if b*q.P≤p∧p<b*q.P+q.P then .non else m.bo.getD p .non:=λp=>by
  show(clr m.bo ((b:Int)*m.pg).toNat m.pg.toNat).getD p .non=_
  rw[e1,e2,qDL]
 have gfi:∀c,(q.emptied b).fi.getD c 0=if b=c then 0 else q.fi.getD c 0:=λc=>by
  show(q.fi.set b 0).getD c 0=_
  rw[jI,okq.lf]
  by_cases e:b=c
  ·rw[kG ⟨e,hb⟩,kG e]
  ·rw[hX (λz=>e z.1),hX e]
 have inb:∀{c g:Nat},g<q.P→(b*q.P≤c*q.P+g∧c*q.P+g<b*q.P+q.P↔c=b):=fun {c g} hg=>by
  constructor
  ·intro z
   have h1:=u7 (b:=c) hg
   have:(c*q.P+g) / q.P=b:=Nat.div_eq_of_lt_le (by omega) (by rw[Nat.succ_mul];omega)
   omega
  ·rintro rfl
   omega
 have oke:=(j.qs.emptied b).ok
 refine⟨st,⟨⟨okd.bl1,okd.bl2,okd.pg1,okd.pg2,?_,?_,okd.ndc,okd.nbr,okd.lim,okd.nrc⟩,oke,j.ft.eB,j.ft.eP⟩,j.br,j.li,?_,j.mo,j.qs.emptied b,qB4 j.on,λc g hc hg hgP=>?_,λn' p h=>?_,j.nr,j.pd,λc=>?_,λc=>?_,j.nx⟩
 ·show((clr m.bo _ _).length:Int)=_
  rw[q5X]
  exact j.ft.ok.nbo
 ·show((m.cl.set _ _).length:Int)=_
  rw[mV]
  exact j.ft.ok.ncl
 ·show m.lf.map _=none
  rw[j.lf]
  rfl
 ·show(wipC m b).bo.getD (c*q.P+g) .non=.non
  rw[gbo]
  by_cases e:c=b
  ·rw[kG ((inb hgP).mpr e)]
  ·rw[hX (λz=>e ((inb hgP).mp z))]
   rw[gfi,hX (λz=>e z.symm)]at hg
   exact j.cr c g hc hg hgP
 ·obtain⟨c,g,tq,mk,w,a1,a2,a3,a4,a5,a6⟩:=j.vl n' p h
  have cb:c≠b:=λz=>nl _ h (by
   show p / (q.P:Int)=(b:Int)
   rw[a3,←Int.natCast_ediv,u7 a2,z])
  refine⟨c,g,tq,mk,w,a1,a2,a3,?_,?_,k.tp _ _ a6⟩
  ·rw[gfi,hX (λz=>cb z.symm)]
   exact a4
  ·show(wipC m b).bo.getD (c*q.P+g) .non=_
   rw[gbo,hX (λz=>cb ((inb a2).mp z))]
   exact a5
 ·show 0≤(m.cl.set b (m.cl.getD b 0+1)).getD c 0∧(m.cl.set b (m.cl.getD b 0+1)).getD c 0≤((m.rc++[_]).length:Int)
  have:=j.cl c
  have:=j.cl b
  rw[jI,k8,List.length_singleton]
  split<;>omega
 ·show 0≤(q.bo.set b 0).getD c 0∧(q.bo.set b 0).getD c 0<q.nx
  have:=j.bo c
  have:=j.nx
  rw[jI]
  split<;>omega
end
noncomputable def spCo(t:Adr):Sp:=λvs H Q E=>∃x sh sr ie r5 m q,∃b:Nat,vs=[.ref x.s,.int (b:Int)]∧JS t H x sh sr ie r5 m q∧b<q.B∧m.rc.length<1000000∧(∀y∈q.V,¬y.2 / (q.P:Int)=(b:Int))∧∀H',JS t H' x sh sr ie r5 (wipC m b) (q.emptied b)→Keep (t.T_Plain_free::sf x) H H'→Q .non H'
theorem q43(T:Txt K mg t)(S:Fns K t):S.Store_clear_out.Ok0 P w mg base 5 (spCo t):=by
 refine S.Store_clear_out.F.ok0 q3Z λcdv A _ s H vs Q E hr h=>?_
 ·obtain⟨x,sh,sr,ie,r5,m,q,b,rfl,j,hb,rc,nl,k⟩:=h
  have hs:=j.st
  refine⟨_,(qB (jA (qT (qJ (pv 0) rfl) T.cl_Chip T.m_Chip_wipe (qA0 T S).mono hr S.Chip_wipe.b .nil qK (qA (pv 1) qC))) (qE (jA (qT (qJ (pv 0) rfl) T.cl_Book T.m_Book_emptied (q5Q T S).mono hr S.Book_emptied.b .nil qK (qA (pv 1) qC))))),?_⟩
  try dsimp-beta-proj-iota-zeta-eta only[wishK,cxK]
  refine⟨_,rfl,x.s,_,x.sd,_,_,rfl,hs.o,T.cl_Store,T.na_Store_chip,rfl,x.c,x.a.dx,_,rfl,hs.ch.ins,rfl,_,rfl,x.c,x.a,m,_,rfl,hs.ch,j.ft.ok,rc,j.gd,by have:=j.ft.eB;omega,by rw[j.mo];have:=(j.cl b).2;omega,λH1 hc1 k1=>?_⟩
  have hs1:=hs.put hc1 k1 rfl rfl
  refine⟨_,rfl,x.s,_,x.sd,_,_,rfl,hs1.o,T.cl_Store,T.na_Store_book,rfl,x.k.bk,x.k.dx,_,rfl,hs1.bk.o,rfl,_,rfl,x.k,q,b,rfl,hs1.bk,j.qs.ok,hs1.ds,hb,λH2 hb2 k2=>?_⟩
  have k2':Keep (bf x.k) H1 H2:=k2.mono (by intro y hy;simp[bf]at hy ⊢;rcases hy with rfl|rfl<;>simp)
  have kA:Keep (t.T_Plain_free::sf x) H H2:=(k1.mono (λy hy=>by unfold sf;exact kE _ (List.mem_append_left _ hy))).trans (k2'.mono (λy hy=>by unfold sf;exact kE _ (mO _ hy)))
  exact k H2 (j.wipe hb rc nl kA (hs1.note hb2 k2')) kA
theorem q7O(T:Txt K mg t)(S:Fns K t):S.Store_wiped.Ok0 P w mg base 6 (λvs H Q E=>spCo t vs H (λv H'=>v=.non∧Q (.bl true) H') E):=by
 refine S.Store_wiped.F.ok0 q7A λcdv A _ s H vs Q E hr h=>?_
 ·obtain⟨x,sh,sr,ie,r5,m,q,b,rfl,j,hb,rc,nl,k⟩:=h
  refine⟨_,(qB (jA (qT (pv 0) T.cl_Store T.m_Store_clear_out (q43 T S).mono hr S.Store_clear_out.b .nil qK (qA (pv 1) qC))) (qE (qL q3B))),?_⟩
  try dsimp-beta-proj-iota-zeta-eta only[wishK,cxK]
  exact⟨_,rfl,x.s,x.sd,_,rfl,j.st.o,rfl,_,rfl,x,sh,sr,ie,r5,m,q,b,rfl,j,hb,rc,nl,λH' j' k'=>(k H' j' k').2⟩
noncomputable def spVm(t:Adr):Sp:=λvs H Q E=>∃x sh sr ie r5 m q,∃n p:Int,vs=[.ref x.s,.int p,.int n]∧JS t H x sh sr ie r5 m q∧(n,p)∈q.V∧∀(v:Int),Q (.int v) H
theorem q1V(T:Txt K mg t)(S:Fns K t):S.Store_value_to_move.Ok0 P w mg base 6 (spVm t):=by
 refine S.Store_value_to_move.F.ok0 q1R λcdv A _ s H vs Q E hr h=>?_
 ·obtain⟨x,sh,sr,ie,r5,m,q,n,p,rfl,j,hm,k⟩:=h
  have hs:=j.st
  refine⟨_,(qB (jB (qS u9 (pv 2) (q1B rfl T.mg_ROLL ⟨_,rfl⟩ (v:=.int 64)) (qU _)) (qE qZ) qQ) (qE (qL (qY jL (qT (qJ (pv 0) rfl) T.cl_Chip T.m_Chip_read (q9Z T S).mono hr S.Chip_read.b .nil qK (qA (pv 1) qC)) qG (λ_ _=>rfl))))),?_⟩
  try dsimp-beta-proj-iota-zeta-eta only[wishK,cxK]
  refine⟨_,rfl,rfl,_,rfl,?_⟩
  rw[yM]
  rw[hV (j.nr _ hm)]
  refine iteF ?_
  obtain⟨b,f,tp,mk,v,a1,a2,a3,a4,a5,a6⟩:=j.vl n p hm
  have hp:=j.pgs a1 a2
  refine⟨_,rfl,x.s,_,x.sd,_,_,rfl,hs.o,T.cl_Store,T.na_Store_chip,rfl,x.c,x.a.dx,_,rfl,hs.ch.ins,rfl,_,rfl,x.c,x.a,m,_,rfl,hs.ch,j.ft.ok,j.lf,by rw[a3];omega,by rw[a3];exact hp,?_⟩
  rw[a3,mH,a5]
  exact⟨tp,_,1,_,rfl,rfl,SqT.of a6,rfl,k v⟩
theorem qA8{H:Hp}{m:CM}{q:QM}:∀{rs:List V} {L:List Nat},Tys H m q rs L→Tls H rs (L.map (tlOf m q))
 |_,_,.nil=>.nil
 |_,_,.cons ⟨p,e,h⟩ r=>.cons ⟨p,e,h⟩ (qA8 r)
noncomputable def mnC:Int:=144403552893600
theorem qCJ{pg:Int}(p1:1≤pg)(p2:pg≤16):Mny pg mnC:=by
 refine⟨p1,by decide,λj j0 j1=>?_⟩
 have key:∀n:Nat,n<33→0<n→n ∣ 144403552893600:=by decide+kernel
 have:=key (pg+j).toNat (by omega) (by omega)
 rw[show pg+j=(((pg+j).toNat:Nat):Int) by omega]
 exact Int.natCast_dvd_natCast.mpr this
noncomputable def RuX(t:Adr)(H:Hp)(r:Addr)(rl:List Addr):Rl→Prop
 | .rk f=>(∃dx,H r=some (.ins t.C_Rule dx [])∧f=λ_ _ _=>0)∨(∃dx,H r=some (.ins t.C_Fewest dx [])∧f=λ_ _=>Tl.lv)∨(∃dx,H r=some (.ins t.C_Eldest dx [])∧f=λ_ _=>Tl.bo)∨(∃i dx dy,i∈rl∧H r=some (.ins t.C_Turned dx [("inner",.ref i)])∧((H i=some (.ins t.C_Fewest dy [])∧f=λ_ _ T=>-T.lv)∨(H i=some (.ins t.C_Eldest dy [])∧f=λ_ _ T=>-T.bo)))∨(∃dx,H r=some (.ins t.C_Worth dx [])∧f=λpg nw=>rkW pg nw mnC)∨(∃dx g c w,g∈rl∧c∈rl∧H r=some (.ins t.C_Weighed dx [("weigh",.ref g)])∧LmT H g c w∧f=λ_ _=>w)
 | .win m=>1≤m∧∃dx,H r=some (.ins t.C_Window dx [("many",.int m)])
 | .fol _ _=>False
theorem RuX.ok{H:Hp}{r:Addr}{rl:List Addr}{g:Rl}(h:RuX t H r rl g):g.Ok:=by
 cases g with
 |rk f=>trivial
 |win m=>exact h.1
 |fol row u=>trivial
theorem RuX.map{H H':Hp}{r:Addr}{rl:List Addr}{g:Rl}(h:RuX t H r rl g)(h1:∀o,H r=some o→H' r=some o)(h2:∀b∈rl,∀o,H b=some o→H' b=some o):RuX t H' r rl g:=by
 cases g with
 |rk f=>
  rcases h with⟨dx,a,b⟩|⟨dx,a,b⟩|⟨dx,a,b⟩|⟨i,dx,dy,hi,a,⟨c,b⟩|⟨c,b⟩⟩|⟨dx,a,b⟩|⟨dx,g,c,w,hg,hc,a,lm,b⟩
  ·exact .inl ⟨dx,h1 _ a,b⟩
  ·exact .inr (.inl ⟨dx,h1 _ a,b⟩)
  ·exact .inr (.inr (.inl ⟨dx,h1 _ a,b⟩))
  ·exact .inr (.inr (.inr (.inl ⟨i,dx,dy,hi,h1 _ a,.inl ⟨h2 _ hi _ c,b⟩⟩)))
  ·exact .inr (.inr (.inr (.inl ⟨i,dx,dy,hi,h1 _ a,.inr ⟨h2 _ hi _ c,b⟩⟩)))
  ·exact .inr (.inr (.inr (.inr (.inl ⟨dx,h1 _ a,b⟩))))
  ·exact .inr (.inr (.inr (.inr (.inr ⟨dx,g,c,w,hg,hc,h1 _ a,lm.map (h2 _ hg) (h2 _ hc),b⟩))))
 |win m=>
  obtain⟨m1,dx,a⟩:=h
  exact⟨m1,dx,h1 _ a⟩
 |fol row u=>exact h
theorem RuX.keep{H H':Hp}{r:Addr}{rl:List Addr}{F:List Addr}{g:Rl}(h:RuX t H r rl g)(k:Keep F H H')(n:r∉F)(n':∀b∈rl,b∉F):RuX t H' r rl g:=h.map (λ_ e=>k.k _ _ n e) (λb hb _ e=>k.k _ _ (n' b hb) e)
theorem RuX.ins'{H:Hp}{r:Addr}{rl:List Addr}{g:Rl}(h:RuX t H r rl g):∃C d fs,H r=some (.ins C d fs)∧fs.length≤2:=by
 cases g with
 |rk f=>
  rcases h with⟨dx,a,b⟩|⟨dx,a,b⟩|⟨dx,a,b⟩|⟨i,dx,dy,hi,a,b⟩|⟨dx,a,b⟩|⟨dx,g,c,w,hg,hc,a,lm,b⟩
  ·exact⟨_,_,_,a,mN _⟩
  ·exact⟨_,_,_,a,mN _⟩
  ·exact⟨_,_,_,a,mN _⟩
  ·exact⟨_,_,_,a,by show 1≤2;decide⟩
  ·exact⟨_,_,_,a,mN _⟩
  ·exact⟨_,_,_,a,by show 1≤2;decide⟩
 |win m=>
  obtain⟨m1,dx,a⟩:=h
  exact⟨_,_,_,a,by show 1≤2;decide⟩
 |fol row u=>exact h.elim
theorem RuX.ins{H:Hp}{r:Addr}{rl:List Addr}{g:Rl}(h:RuX t H r rl g):∃C d fs,H r=some (.ins C d fs):=by
 obtain⟨C,d,fs,a,_⟩:=h.ins'
 exact⟨C,d,fs,a⟩
theorem TbF.keepR{H H':Hp}{r:Addr}{C d:Addr}{fs:List (Str×V)}(h:TbF t H)(e:H r=some (.ins C d fs))(k:Keep [r] H H'):TbF t H':=by
 obtain⟨ps,hT,h⟩:=h
 have ne:∀{b:Addr} {o:HO},H b=some o→(∀C d fs,o≠ .ins C d fs)→H' b=some o:=fun {b o} hb n=>k.k _ _ (λz=>by
  rw[kC.mp z,e]at hb
  exact n _ _ _ (kF hb).symm) hb
 refine⟨ps,ne hT (λ_ _ _ z=>by cases z),?_⟩
 rcases h with h|⟨c,h,hc⟩
 ·exact .inl h
 ·exact .inr ⟨c,h,ne hc (λ_ _ _ z=>by cases z)⟩
theorem qK2{row:List Int}{u:Nat}{ts:List Tl}(h:ts≠[]):fo row u ts∈ts.map Tl.b:=by
 have h0:(ts.map Tl.b).headD 0∈ts.map Tl.b:=by
  cases ts with
  |nil=>exact absurd rfl h
  |cons a r=>simp
 unfold fo
 split
 ·split
  ·assumption
  ·exact h0
 ·exact h0
theorem qK3{g:Rl}{pg nw:Int}{ts:List Tl}(ok:g.Ok)(h:ts≠[]):(g.ch pg nw ts).1∈ts.map Tl.b:=by
 cases g with
 |rk f=>
  obtain⟨A,hA,e,_⟩:=qGC (f:=f pg nw) h
  show pk (f pg nw) ts∈_
  rw[e]
  exact kX.mpr ⟨A,hA,rfl⟩
 |win m=>
  obtain⟨A,hA,e,_⟩:=qGC (f:=Tl.lv) (qHQ ok h)
  show pk Tl.lv (winC m ts)∈_
  rw[e]
  exact kX.mpr ⟨A,qHP A hA,rfl⟩
 |fol row u=>exact qK2 h
noncomputable def spCr(t:Adr)(K:W.Frag):Sp:=λvs H Q _=>∃x r2 r3 r4 r5 m q r rl g op rs ts,vs=[.ref x.s,.ref op]∧StAt t H x r2 r3 r4 r5 m q∧Fit m q∧x.ru=.ref r∧RuX t H r rl g∧H op=some (.lst rs)∧Tls H rs ts∧ts≠[]∧ts.length≤16∧(∀o∈ts,o.Ok (q.P:Int) q.nx)∧(∀a∈ts,∀c∈ts,a.b=c.b→a=c)∧∀p H',Keep [r] H H'→RuX t H' r rl (g.ch (q.P:Int) q.nx ts).2→H' p=some (.tup [.str "rule",.int (g.ch (q.P:Int) q.nx ts).1])→Q (.ref p) H'
theorem q1A(T:Txt K mg t)(S:Fns K t):S.Store_choice_by_rule.Ok0 P w mg base 7 (spCr t K):=by
 refine S.Store_choice_by_rule.F.ok0 q15 λcdv A _ s H vs Q E hr h=>?_
 ·obtain⟨x,r2,r3,r4,r5,m,q,r,rl,g,op,rs,ts,rfl,hs,ft,er,hR,hop,tl,ne,l16,ok,unl,k⟩:=h
  have eP:=ft.eP
  have p1:=ft.oq.p1
  have p2:=ft.oq.p2
  have te:=hs.te
  rw[eP]at te
  refine⟨_,(qE (qL (yP (qA jO (qA (vE (qT (qJ (pv 0) rfl) T.cl_Rule T.m_Rule_choose (yO T S).mono hr S.Rule_choose.b .nil qK (qA (pv 1) (qA (qJ (qJ (pv 0) rfl) rfl) (qA (qJ (qJ (pv 0) rfl) rfl) qC)))) (vE (qT (qJ (pv 0) rfl) T.cl_Fewest T.m_Fewest_choose (yO T S).mono hr S.Rule_choose.b .nil qK (qA (pv 1) (qA (qJ (qJ (pv 0) rfl) rfl) (qA (qJ (qJ (pv 0) rfl) rfl) qC)))) (vE (qT (qJ (pv 0) rfl) T.cl_Eldest T.m_Eldest_choose (yO T S).mono hr S.Rule_choose.b .nil qK (qA (pv 1) (qA (qJ (qJ (pv 0) rfl) rfl) (qA (qJ (qJ (pv 0) rfl) rfl) qC)))) (vE (qT (qJ (pv 0) rfl) T.cl_Turned T.m_Turned_choose (yO T S).mono hr S.Rule_choose.b .nil qK (qA (pv 1) (qA (qJ (qJ (pv 0) rfl) rfl) (qA (qJ (qJ (pv 0) rfl) rfl) qC)))) (vE (qT (qJ (pv 0) rfl) T.cl_Worth T.m_Worth_choose (yO T S).mono hr S.Rule_choose.b .nil qK (qA (pv 1) (qA (qJ (qJ (pv 0) rfl) rfl) (qA (qJ (qJ (pv 0) rfl) rfl) qC)))) (vE (qT (qJ (pv 0) rfl) T.cl_Window T.m_Window_choose (q56 T S).mono hr S.Window_choose.b .nil qK (qA (pv 1) (qA (qJ (qJ (pv 0) rfl) rfl) (qA (qJ (qJ (pv 0) rfl) rfl) qC)))) (qT (qJ (pv 0) rfl) T.cl_Weighed T.m_Weighed_choose (yO T S).mono hr S.Rule_choose.b .nil qK (qA (pv 1) (qA (qJ (qJ (pv 0) rfl) rfl) (qA (qJ (qJ (pv 0) rfl) rfl) qC)))))))))) qC))))),?_⟩
  try dsimp-beta-proj-iota-zeta-eta only[wishK,cxK]
  cases g with
  |rk f=>
   rcases id hR with⟨dx,hins,rfl⟩|⟨dx,hins,rfl⟩|⟨dx,hins,rfl⟩|⟨il,dx,dy,hil,hins,⟨hi2,rfl⟩|⟨hi2,rfl⟩⟩|⟨dx,hins,rfl⟩|⟨dx,g,c,w,hg,hc,hins,lm,rfl⟩
   ·exact .inl ⟨_,rfl,x.s,_,x.sd,_,_,rfl,hs.o,T.cl_Store,T.na_Store_rule,rfl,r,dx,_,er,hins,rfl,_,rfl,_,rfl,x.s,_,x.sd,_,_,rfl,hs.o,T.cl_Store,T.na_Store_terms,rfl,x.tm,_,x.td,_,_,rfl,te,T.cl_Terms,T.na_Terms_pages,rfl,_,rfl,x.s,_,x.sd,_,_,rfl,hs.o,T.cl_Store,T.na_Store_book,rfl,x.k.bk,_,x.k.dx,_,_,rfl,hs.bk.o,T.cl_Book,T.na_Book_stamp,rfl,r,r,op,_,_,rs,ts,_,(by rw[er];rfl),.inl ⟨dx,hins,rfl⟩,SqL.of hop,tl,ok,by omega,ne,sz2,λp H2 n2 s2 e2=>k p H2 (Keep.same s2) (hR.keep (Keep.same s2) (F:=[]) (by simp) (by simp)) e2⟩
   ·exact .inr (.inl ⟨_,rfl,x.s,_,x.sd,_,_,rfl,hs.o,T.cl_Store,T.na_Store_rule,rfl,r,dx,_,er,hins,rfl,_,rfl,_,rfl,x.s,_,x.sd,_,_,rfl,hs.o,T.cl_Store,T.na_Store_terms,rfl,x.tm,_,x.td,_,_,rfl,te,T.cl_Terms,T.na_Terms_pages,rfl,_,rfl,x.s,_,x.sd,_,_,rfl,hs.o,T.cl_Store,T.na_Store_book,rfl,x.k.bk,_,x.k.dx,_,_,rfl,hs.bk.o,T.cl_Book,T.na_Book_stamp,rfl,r,r,op,_,_,rs,ts,_,(by rw[er];rfl),.inr (.inl ⟨dx,hins,rfl⟩),SqL.of hop,tl,ok,by omega,ne,sz2,λp H2 n2 s2 e2=>k p H2 (Keep.same s2) (hR.keep (Keep.same s2) (F:=[]) (by simp) (by simp)) e2⟩)
   ·exact .inr (.inr (.inl ⟨_,rfl,x.s,_,x.sd,_,_,rfl,hs.o,T.cl_Store,T.na_Store_rule,rfl,r,dx,_,er,hins,rfl,_,rfl,_,rfl,x.s,_,x.sd,_,_,rfl,hs.o,T.cl_Store,T.na_Store_terms,rfl,x.tm,_,x.td,_,_,rfl,te,T.cl_Terms,T.na_Terms_pages,rfl,_,rfl,x.s,_,x.sd,_,_,rfl,hs.o,T.cl_Store,T.na_Store_book,rfl,x.k.bk,_,x.k.dx,_,_,rfl,hs.bk.o,T.cl_Book,T.na_Book_stamp,rfl,r,r,op,_,_,rs,ts,_,(by rw[er];rfl),.inr (.inr (.inl ⟨dx,hins,rfl⟩)),SqL.of hop,tl,ok,by omega,ne,sz2,λp H2 n2 s2 e2=>k p H2 (Keep.same s2) (hR.keep (Keep.same s2) (F:=[]) (by simp) (by simp)) e2⟩))
   ·exact .inr (.inr (.inr (.inl ⟨_,rfl,x.s,_,x.sd,_,_,rfl,hs.o,T.cl_Store,T.na_Store_rule,rfl,r,dx,_,er,hins,rfl,_,rfl,_,rfl,x.s,_,x.sd,_,_,rfl,hs.o,T.cl_Store,T.na_Store_terms,rfl,x.tm,_,x.td,_,_,rfl,te,T.cl_Terms,T.na_Terms_pages,rfl,_,rfl,x.s,_,x.sd,_,_,rfl,hs.o,T.cl_Store,T.na_Store_book,rfl,x.k.bk,_,x.k.dx,_,_,rfl,hs.bk.o,T.cl_Book,T.na_Book_stamp,rfl,r,il,op,_,_,rs,ts,_,(by rw[er];rfl),.inr (.inr (.inr (.inl ⟨dx,dy,hins,.inl ⟨hi2,rfl⟩⟩))),SqL.of hop,tl,ok,by omega,ne,sz2,λp H2 n2 s2 e2=>k p H2 (Keep.same s2) (hR.keep (Keep.same s2) (F:=[]) (by simp) (by simp)) e2⟩)))
   ·exact .inr (.inr (.inr (.inl ⟨_,rfl,x.s,_,x.sd,_,_,rfl,hs.o,T.cl_Store,T.na_Store_rule,rfl,r,dx,_,er,hins,rfl,_,rfl,_,rfl,x.s,_,x.sd,_,_,rfl,hs.o,T.cl_Store,T.na_Store_terms,rfl,x.tm,_,x.td,_,_,rfl,te,T.cl_Terms,T.na_Terms_pages,rfl,_,rfl,x.s,_,x.sd,_,_,rfl,hs.o,T.cl_Store,T.na_Store_book,rfl,x.k.bk,_,x.k.dx,_,_,rfl,hs.bk.o,T.cl_Book,T.na_Book_stamp,rfl,r,il,op,_,_,rs,ts,_,(by rw[er];rfl),.inr (.inr (.inr (.inl ⟨dx,dy,hins,.inr ⟨hi2,rfl⟩⟩))),SqL.of hop,tl,ok,by omega,ne,sz2,λp H2 n2 s2 e2=>k p H2 (Keep.same s2) (hR.keep (Keep.same s2) (F:=[]) (by simp) (by simp)) e2⟩)))
   ·exact .inr (.inr (.inr (.inr (.inl ⟨_,rfl,x.s,_,x.sd,_,_,rfl,hs.o,T.cl_Store,T.na_Store_rule,rfl,r,dx,_,er,hins,rfl,_,rfl,_,rfl,x.s,_,x.sd,_,_,rfl,hs.o,T.cl_Store,T.na_Store_terms,rfl,x.tm,_,x.td,_,_,rfl,te,T.cl_Terms,T.na_Terms_pages,rfl,_,rfl,x.s,_,x.sd,_,_,rfl,hs.o,T.cl_Store,T.na_Store_book,rfl,x.k.bk,_,x.k.dx,_,_,rfl,hs.bk.o,T.cl_Book,T.na_Book_stamp,rfl,r,r,op,_,_,rs,ts,_,(by rw[er];rfl),.inr (.inr (.inr (.inr (.inl ⟨dx,_,hins,rfl,qCJ (by omega) (by omega)⟩)))),SqL.of hop,tl,ok,by omega,ne,sz2,λp H2 n2 s2 e2=>k p H2 (Keep.same s2) (hR.keep (Keep.same s2) (F:=[]) (by simp) (by simp)) e2⟩))))
   ·exact .inr (.inr (.inr (.inr (.inr (.inr (⟨_,rfl,x.s,_,x.sd,_,_,rfl,hs.o,T.cl_Store,T.na_Store_rule,rfl,r,dx,_,er,hins,rfl,_,rfl,_,rfl,x.s,_,x.sd,_,_,rfl,hs.o,T.cl_Store,T.na_Store_terms,rfl,x.tm,_,x.td,_,_,rfl,te,T.cl_Terms,T.na_Terms_pages,rfl,_,rfl,x.s,_,x.sd,_,_,rfl,hs.o,T.cl_Store,T.na_Store_book,rfl,x.k.bk,_,x.k.dx,_,_,rfl,hs.bk.o,T.cl_Book,T.na_Book_stamp,rfl,r,r,op,_,_,rs,ts,_,(by rw[er];rfl),.inr (.inr (.inr (.inr (.inr (.inr ⟨dx,g,c,hins,lm⟩))))),SqL.of hop,tl,ok,by omega,ne,sz2,λp H2 n2 s2 e2=>k p H2 (Keep.same s2) (hR.keep (Keep.same s2) (F:=[]) (by simp) (by simp)) e2⟩))))))
  |win m5=>
   obtain⟨m1,dx,hins⟩:=id hR
   exact .inr (.inr (.inr (.inr (.inr (.inl ⟨_,rfl,x.s,_,x.sd,_,_,rfl,hs.o,T.cl_Store,T.na_Store_rule,rfl,r,dx,_,er,hins,rfl,_,rfl,_,rfl,x.s,_,x.sd,_,_,rfl,hs.o,T.cl_Store,T.na_Store_terms,rfl,x.tm,_,x.td,_,_,rfl,te,T.cl_Terms,T.na_Terms_pages,rfl,_,rfl,x.s,_,x.sd,_,_,rfl,hs.o,T.cl_Store,T.na_Store_book,rfl,x.k.bk,_,x.k.dx,_,_,rfl,hs.bk.o,T.cl_Book,T.na_Book_stamp,rfl,r,dx,m5,op,rs,ts,_,_,(by rw[er];rfl),hins,m1,SqL.of hop,tl,ok,ne,l16,by omega,λA C H1 s1 AP w1 CP w2=>⟨sz2,λp H2 n2 s2 e2=>k p H2 (Keep.same (s1.trans s2)) (hR.keep (Keep.same (s1.trans s2)) (F:=[]) (by simp) (by simp)) (by rw[qGD unl AP w1 CP w2]at e2;exact e2)⟩⟩)))))
  |fol row u=>exact hR.elim
theorem JS.okT{H:Hp}{x:Sto}{sh sr:Int}{ie:Nat}{r5:V}{m:CM}{q:QM}(j:JS t H x sh sr ie r5 m q)(rc:m.rc.length<1000000){l:List Nat}:∀o∈(optN (ie:Int) m q l).map (tlOf m q),o.Ok (q.P:Int) q.nx:=λo ho=>by
 obtain⟨b,hb,rfl⟩:=kX.mp ho
 obtain⟨b1,_,_,b4⟩:=q9M j.br hb
 have b2:=j.qs.ok.b2
 have c:=j.cl b
 have d:=j.bo b
 have e:=j.qs.lv b b1
 refine⟨?_,?_,?_,?_,c.1,?_,d.1,d.2⟩
 ·show(0:Int)≤(b:Int)
  omega
 ·show(b:Int)<16
  omega
 ·show 0≤q.lv.getD b 0
  omega
 ·show q.lv.getD b 0≤(q.P:Int)
  omega
 ·show m.cl.getD b 0<10 ^ 30
  have:(1000000:Int)<10 ^ 30:=by decide
  omega
noncomputable def Off(t:Adr)(x:Sto)(r:Addr)(rl:List Addr):Prop:=∀y∈[x.s,x.tm]++(x.a.li::t.T_Plain_free::sf x),y≠r∧y∉rl
theorem JS.kR{H H':Hp}{x:Sto}{sh sr:Int}{ie:Nat}{r5:V}{m:CM}{q:QM}{r:Addr}{rl:List Addr}(j:JS t H x sh sr ie r5 m q)(o:Off t x r rl)(k:Keep [r] H H'){g:Rl}(hR:RuX t H r rl g):JS t H' x sh sr ie r5 m q:=by
 obtain⟨C,d,fs,e⟩:=hR.ins
 refine j.keep k (j.st.keep k (λy hy z=>(o y ?_).1 (kC.mp z)) (j.st.tb.keepR e k))
 have hy:y=x.s∨y=x.tm∨y=x.a.li∨y∈sf x:=by simpa using hy
 rcases hy with h|h|h|h<;>simp[h]
theorem qK4{m:CM}{q:QM}{L:List Nat}:∀a∈L.map (tlOf m q),∀c∈L.map (tlOf m q),a.b=c.b→a=c:=λa ha c hc e=>by
 obtain⟨x,_,rfl⟩:=kX.mp ha
 obtain⟨y,_,rfl⟩:=kX.mp hc
 have e:(x:Int)=(y:Int):=e
 rw[show x=y by omega]
noncomputable def spCh(t:Adr):Sp:=λvs H Q _=>∃x sh sr ie r5 m q r rl g,vs=[.ref x.s]∧JS t H x sh sr ie r5 m q∧x.ru=.ref r∧RuX t H r rl g∧Off t x r rl∧m.rc.length<1000000∧∀l,FreeIs q.B m.br m.cl q.fi l→optN (ie:Int) m q l≠[]∧∀p H',Keep [t.T_Plain_free,r] H H'→JS t H' x sh sr ie r5 m q→RuX t H' r rl (g.ch (q.P:Int) q.nx ((optN (ie:Int) m q l).map (tlOf m q))).2→H' p=some (.tup [.str "rule",.int (g.ch (q.P:Int) q.nx ((optN (ie:Int) m q l).map (tlOf m q))).1])→Q (.ref p) H'
theorem qK5{e:Int}{m:CM}{q:QM}{l:List Nat}(h:q.B≤16):(optN e m q l).length≤16:=by
 unfold optN yA
 exact mD (kY _ _) (mD (kY _ _) (mD (kY _ _) (mD q10 h)))
theorem q5R(T:Txt K mg t)(S:Fns K t)(B:BmIn base mg):S.Store_choice.Ok0 P w mg base 13 (spCh t):=by
 refine S.Store_choice.F.ok0 q1Y λcdv A _ s H vs Q E hr h=>?_
 ·obtain⟨x,sh,sr,ie,r5,m,q,r,rl,g,rfl,j,er,hR,of,rc,k⟩:=h
  have hs:=j.st
  refine⟨_,(qB (qV (i:=1) q1Y.nd rfl (Or.inl rfl) (jC (pv 0) T.cl_Store T.m_Store_options (q19 T S B).mono hr S.Store_options.b .nil qK)) (qB (jB (qS (q9D hr.units) (pv 1) (jF qC) (qU _)) (qE qZ) qQ) (qE (qL (qT (pv 0) T.cl_Store T.m_Store_choice_by_rule (q1A T S).mono hr S.Store_choice_by_rule.b .nil qK (qA (pv 1) qC)))))),?_⟩
  try dsimp-beta-proj-iota-zeta-eta only[wishK,cxK]
  refine⟨_,rfl,x.s,x.sd,_,rfl,hs.o,rfl,x,_,_,_,m,q,_,rfl,hs,j.ft,λl p rs H1 hl np k1 tb1 h1 ty=>?_⟩
  obtain⟨ne,kk⟩:=k l hl
  have rn:rs≠[]:=λz=>by
   rw[z]at ty
   have:=ty.len
   exact ne (List.eq_nil_of_length_eq_zero this.symm)
  refine⟨_,rfl,sz0,λe6 H6 n6 s6 h6=>⟨p,_,e6,rfl,rfl,SqL.of (s6 _ _ h1),SqL.of h6,_,rfl,?_⟩⟩
  have e0:decide (rs=[])=false:=hV rn
  obtain⟨u,us,rfl⟩:∃u us,rs=u::us:=by
   cases rs with
   |nil=>exact absurd rfl rn
   |cons u us=>exact⟨u,us,rfl⟩
  refine iteF ?_
  have k6:Keep [t.T_Plain_free] H H6:=k1.trans (Keep.same s6)
  have tb6:=tb1.same s6
  have hs6:=hs.kT k6 tb6
  have of':r∉[t.T_Plain_free]∧∀b∈rl,b∉[t.T_Plain_free]:=by
   have:=of t.T_Plain_free (by simp)
   exact⟨λz=>this.1 (kC.mp z).symm,λb hb z=>this.2 (by rw[←kC.mp z];exact hb)⟩
  have hR6:=hR.keep k6 of'.1 of'.2
  have l16:((optN (ie:Int) m q l).map (tlOf m q)).length≤16:=by
   rw[hC]
   exact qK5 j.ft.oq.b2
  refine⟨_,rfl,x.s,x.sd,_,rfl,hs6.o,rfl,_,rfl,x,_,_,_,_,m,q,r,rl,g,p,_,_,rfl,hs6,j.ft,er,hR6,s6 _ _ h1,qA8 (q7H (Keep.same (F:=[]) s6) ty),λz=>ne (List.map_eq_nil_iff.mp z),l16,j.okT rc,qK4,λpp H7 k7 hR7 h7=>?_⟩
  exact kk pp H7 ((k6.mono (by simp)).trans (k7.mono (by simp))) ((j.kT k6 tb6).kR of k7 hR6) hR7 h7
noncomputable def spPp(K:W.Frag):Sp:=λvs H Q _=>∃wy bl wi l1 l2 rs us,vs=[wy,.ref l1,bl,.ref l2,wi]∧H l1=some (.lst rs)∧H l2=some (.lst us)∧∀pa a1 a2 H',Same H H'→H pa=none→H a1=none→H a2=none→H' pa=some (.tup [wy,.ref a1,bl,.ref a2,wi])→H' a1=some (.lst rs)→H' a2=some (.lst us)→Q (.ref pa) H'
theorem q5D(T:Txt K mg t)(S:Fns K t):S.paper_of.Ok0 P w mg base 1 (spPp K):=by
 refine S.paper_of.F.ok0 qBD λcdv A _ s H vs Q E hr h=>?_
 ·obtain⟨wy,bl,wi,l1,l2,rs,us,rfl,h1,h2,k⟩:=h
  refine⟨_,(qE (qL (yP (qA (pv 0) (qA (q31 q08 (by rfl) T.b_list (by kernel_rfl) (qA (pv 1) qC)) (qA (pv 2) (qA (q31 q08 (by rfl) T.b_list (by kernel_rfl) (qA (pv 3) qC)) (qA (pv 4) qC)))))))),?_⟩
  try dsimp-beta-proj-iota-zeta-eta only[wishK,cxK]
  refine⟨_,rfl,_,rfl,l1,rs,rfl,.inl (SqL.of h1),λa1 H1 n1 s1 e1=>?_⟩
  refine⟨_,rfl,_,rfl,l2,us,rfl,.inl (SqL.of (s1 _ _ h2)),λa2 H2 n2 s2 e2=>?_⟩
  refine⟨_,rfl,sz5,λpa H3 n3 s3 e3=>?_⟩
  exact k pa a1 a2 H3 ((s1.trans s2).trans s3) ((s1.trans s2).free n3) n1 (s1.free n2) e3 (s3 _ _ (s2 _ _ e1)) (s3 _ _ e2)
theorem TbF.updL{H:Hp}{p:Addr}{xs:List V}{o:HO}(h:TbF t H)(e:H p=some (.lst xs)):TbF t (upd H p o):=by
 obtain⟨ps,hT,h⟩:=h
 refine⟨ps,by rw[qD (jV hT e (by intro z;cases z))];exact hT,?_⟩
 rcases h with h|⟨c,h,hc⟩
 ·exact .inl h
 ·exact .inr ⟨c,h,by rw[qD (jV hc e (by intro z;cases z))];exact hc⟩
theorem qDM{V:Mp}{n p p':Int}(nd:(V.map (·.1)).Nodup)(h:(n,p)∈V)(h':(n,p')∈V):p=p':=by
 induction V with
 |nil=>exact absurd h (by simp)
 |cons y V ih=>
  rw[mJ]at nd
  obtain⟨n1,n2⟩:=mQ.mp nd
  rcases kI.mp h with e|h<;>rcases kI.mp h' with e'|h'
  ·rw[←e]at e'
   injection e' with _ e'
   exact e'.symm
  ·exact(n1 (kX.mpr ⟨_,h',by rw[←e]⟩)).elim
  ·exact(n1 (kX.mpr ⟨_,h,by rw[←e']⟩)).elim
  ·exact ih n2 h h'
theorem JS.inH{H:Hp}{x:Sto}{sh sr:Int}{ie:Nat}{r5:V}{m:CM}{q:QM}(j:JS t H x sh sr ie r5 m q):∀y∈t.T_Plain_free::sf x,∃o,H y=some o:=λy hy=>by
 have hs:=j.st
 rcases kI.mp hy with e|e
 ·obtain⟨pt,hT,_⟩:=hs.tb
  exact⟨_,by rw[e];exact hT⟩
 ·unfold sf at e
  rcases gF.mp e with e|e
  ·exact hs.ch.some (kE _ e)
  ·have e:y=x.k.bk∨y=x.k.wv∨y=x.k.lv∨y=x.k.fi∨y=x.k.bo:=by simpa[bf]using e
   rcases e with rfl|rfl|rfl|rfl|rfl
   ·exact⟨_,hs.bk.o⟩
   ·exact⟨_,hs.bk.w⟩
   ·exact⟨_,hs.bk.l⟩
   ·exact⟨_,hs.bk.f⟩
   ·exact⟨_,hs.bk.b⟩
theorem JS.lst{H:Hp}{x:Sto}{sh sr:Int}{ie:Nat}{r5:V}{m:CM}{q:QM}(j:JS t H x sh sr ie r5 m q){p:Addr}{xs:List V}{o:HO}(e:H p=some (.lst xs))(np:p∉t.T_Plain_free::sf x):JS t (upd H p o) x sh sr ie r5 m q:=by
 have k:=Keep.upd (F:=[p]) (o:=o) e (λ_ z=>by cases z) (by simp)
 refine j.keep k (j.st.keep k (λy hy z=>?_) (TbF.updL j.st.tb e))
 rw[kC.mp z]at hy
 rcases gF.mp hy with hy|hy
 ·have hy:p=x.s∨p=x.tm:=by simpa using hy
  rcases hy with h|h
  ·rw[h,j.st.o]at e;cases e
  ·rw[h,j.st.te]at e;cases e
 ·rcases kI.mp hy with h|h
  ·rw[h,j.st.ch.li]at e;cases e
  ·exact np (kE _ h)
noncomputable def spMv(t:Adr):Sp:=λvs H Q _=>∃x sh sr ie r5 m q,∃b:Nat,vs=[.ref x.s,.int (b:Int)]∧JS t H x sh sr ie r5 m q∧b<q.B∧q.fi.getD b 0=(q.P:Int)∧cntB q.P q.V b≤rm q.B q.P q.fi∧q.V.length<60∧m.rc.length+100<1000000∧
 ∀ml us m' q' H',JS t H' x sh sr ie r5 m' q'→H ml=none→H' ml=some (.lst us)→us.length=(lvS q.P b q.V).length→us.length=cntB q.P q.V b→(⟨q',m'.cl⟩:RS)=movS ⟨q,m.cl⟩ b→m'.rc.length=m.rc.length+cntB q.P q.V b→rm q.B q.P q'.fi+cntB q.P q.V b=rm q.B q.P q.fi→q'.B=q.B→q'.P=q.P→q'.fi.getD b 0=(q.P:Int)→(∀y∈q'.V,∃z∈q.V,z.1=y.1)→(∀y∈q'.V,¬y.2 / (q.P:Int)=(b:Int))→Keep (t.T_Plain_free::sf x) H H'→Q (.ref ml) H'
theorem q7P(T:Txt K mg t)(S:Fns K t)(B:BmIn base mg):S.Store_moved.Ok0 P w mg base 12 (spMv t):=by
 refine S.Store_moved.F.ok0 vA λcdv A _ s H vs Q E hr h=>?_
 ·obtain⟨x,sh,sr,ie,r5,m,q,b,rfl,j,hb,efb,hrm,l60,rc,k⟩:=h
  have hs:=j.st
  have s9:(99999:Nat)<sizeLine:=by decide
  refine⟨_,(qB (qV (i:=2) vA.nd rfl (Or.inl rfl) (jF qC)) (qB (q06 gR rfl (jP (qT (qJ (pv 0) rfl) T.cl_Book T.m_Book_live_pages (q41 T S).mono hr S.Book_live_pages.b .nil qK (qA (pv 1) qC))) (q94 rfl (yE (qX (i:=3) vA.nd rfl (Or.inl rfl)) (yE (qX (i:=4) vA.nd rfl (Or.inl rfl)) q1E))) (qE (jA (q8O PySem.F.plainAttrs_list PySem.F.slot_list_append PySem.F.type_list_append vD (pv 2) (qA (yP (qA (pv 4) (qA (pv 3) (qA (qT (pv 0) T.cl_Store T.m_Store_lay (q4J T S B).mono hr S.Plain_lay.b .nil qK (qA (pv 4) (qA (qT (pv 0) T.cl_Store T.m_Store_value_to_move (q1V T S).mono hr S.Store_value_to_move.b .nil qK (qA (pv 3) (qA (pv 4) qC))) qC))) qC)))) qC q49))))) (qE (qL (pv 2))))),?_⟩
  try dsimp-beta-proj-iota-zeta-eta only[wishK,cxK]
  refine⟨sz0,λml H1 n1 s1 h1=>?_⟩
  have hs1:=hs.same s1
  refine⟨_,rfl,x.s,_,x.sd,_,_,rfl,hs1.o,T.cl_Store,T.na_Store_book,rfl,x.k.bk,x.k.dx,_,rfl,hs1.bk.o,rfl,_,rfl,x.k,q,b,rfl,hs1.bk,j.qs.ok,by omega,λll ps rs H2 s2 n2 h2 pr2 pm so=>?_⟩
  have s02:=s1.trans s2
  have nd:=j.qs.ok.nd
  have mlF:∀y∈t.T_Plain_free::sf x,ml≠y:=λy hy z=>by
   obtain⟨o,ho⟩:=j.inH y hy
   rw[←z,n1]at ho
   cases ho
  have llF:∀y∈t.T_Plain_free::sf x,ll≠y:=λy hy z=>by
   obtain⟨o,ho⟩:=(j.same s1).inH y hy
   rw[←z,n2]at ho
   cases ho
  have llm:ll≠ml:=(qI h1 n2).symm
  have lrs:rs.length=cntB q.P q.V b:=by
   rw[pm.length_eq]
   unfold lpK cntB
   rw[hC,List.countP_eq_length_filter]
  have cl60:cntB q.P q.V b≤q.V.length:=List.countP_le_length
  have ndr:rs.Nodup:=by
   refine pm.nodup_iff.mpr ?_
   unfold lpK
   refine gC.mpr (((gC.mp nd).imp fun {a c} hne z=>hne ?_).filter _)
   injection z with _ z
   injection z with z _
  have mrs:∀kk,kk∈rs↔∃n p,kk=[p,n]∧(n,p)∈q.V∧p / (q.P:Int)=(b:Int):=λkk=>by
   rw[pm.mem_iff]
   unfold lpK
   rw[kX]
   constructor
   ·rintro⟨y,hy,rfl⟩
    obtain⟨a1,a2⟩:=m9.mp hy
    exact⟨y.1,y.2,rfl,a1,kP a2⟩
   ·rintro⟨n,p,rfl,a1,a2⟩
    exact⟨(n,p),m9.mpr ⟨a1,hI a2⟩,rfl⟩
  have lps:ps.length=rs.length:=pr2.len
  refine⟨ll,rfl,⟨_,SqL.of h2⟩,?_⟩
  have eRS:rs=lvP q.P b q.V:=qHR j.qs.ok.p1 j.pd ndr mrs so
  have lS:(lvS q.P b q.V).length=rs.length:=by rw[←qB7,hC,eRS]
  refine vL (K:=K) (xs:=ps) (λi σ' H'=>∃y3 y4 us m' q',σ'=[some (.ref x.s),some (.int (b:Int)),some (.ref ml),y3,y4]∧JS t H' x sh sr ie r5 m' q'∧H' ml=some (.lst us)∧us.length=i∧(⟨q',m'.cl⟩:RS)=((rs.take i).map λk=>k.getD 1 0).foldl putS ⟨q,m.cl⟩∧m'.rc.length=m.rc.length+i∧rm q.B q.P q'.fi+i=rm q.B q.P q.fi∧q'.B=q.B∧q'.P=q.P∧q'.fi.getD b 0=(q.P:Int)∧(∀y∈q'.V,∃z∈q.V,z.1=y.1)∧(∀kk∈rs.drop i,∃n p,kk=[p,n]∧(n,p)∈q'.V∧p / (q.P:Int)=(b:Int))∧(∀y∈q'.V,y.2 / (q.P:Int)=(b:Int)→[y.2,y.1]∈rs.drop i)∧Keep (ml::t.T_Plain_free::sf x) H2 H') ⟨_,_,[],m,q,rfl,j.same s02,s2 _ _ h1,rfl,rfl,rfl,rfl,rfl,rfl,efb,λy hy=>⟨y,hy,rfl⟩,λkk hk=>(mrs kk).mp hk,λy hy hyb=>(mrs _).mpr ⟨y.1,y.2,rfl,hy,hyb⟩,Keep.refl⟩ (λi σ' H' hi hp=>?_) (λi v σ' H' hv hp=>?_) (λσ' H' hp=>?_)
  ·obtain⟨y3,y4,us,m',q',rfl,j',hml,lus,eS,rce,rme,eB,eP,ef',nms,dr,dl,kk⟩:=hp
   refine SqL.of (kk.k _ _ (λz=>?_) h2)
   rcases kI.mp z with e|e
   ·exact llm e
   ·exact llF _ e rfl
  ·obtain⟨y3,y4,us,m',q',rfl,j',hml,lus,eS,rce,rme,eB,eP,ef',nms,dr,dl,kk⟩:=hp
   obtain⟨kv,hk,tp,rfl,htp⟩:=Paired.at pr2 hv
   obtain⟨hi,ekv⟩:=hG.mp hk
   have dre:rs.drop i=kv::rs.drop (i+1):=by rw[List.drop_eq_getElem_cons hi,ekv]
   obtain⟨n,p,rfl,hnp,hpb⟩:=dr kv (by rw[dre];simp)
   have htp':=kk.tp _ _ htp
   have nd':=j'.qs.ok.nd
   have nb:=j'.qs.ok.nm _ hnp
   have n64:=j'.nr _ hnp
   refine⟨tp,_,rfl,SqT.of htp',rfl,_,_,rfl,_,_,rfl,rfl,?_⟩
   refine⟨_,rfl,.inl ⟨rfl,_,SqL.of hml⟩,_,rfl,_,rfl,_,rfl,x.s,x.sd,_,rfl,j'.st.o,rfl,_,rfl,_,rfl,x.s,x.sd,_,rfl,j'.st.o,rfl,_,rfl,_,rfl,x,sh,sr,ie,r5,m',q',n,p,rfl,j',hnp,λvv=>?_⟩
   have hr0:0<rm q'.B q'.P q'.fi:=by
    rw[eB,eP]
    omega
   dsimp only[tNil,List.cons_append,List.nil_append,gB]
   refine j'.set (n:=n) (v:=vv) nb.1 (by have:n≤64:=nb.2;have:n≠64:=n64;omega) (by omega) hr0 (λc f tq H5 ec hc hf ef j5 rm5 k5=>?_)
   have cb:c≠b:=λz=>by
    rw[z,ef',←eP]at ef
    omega
   have hml5:=k5.k _ _ (λz=>mlF _ z rfl) hml
   refine⟨sz3,λtu H6 n6 s6 h6=>⟨ml,us,_,rfl,rfl,s6 _ _ hml5,by omega,?_⟩⟩
   have hml6:=s6 _ _ hml5
   have k7:=Keep.upd (F:=[ml]) (o:=.lst (us++[.ref tu])) hml6 (λ_ z=>by cases z) (by simp)
   have hml7:(upd H6 ml (.lst (us++[.ref tu]))) ml=_:=qH
   have j7:=(j5.same s6).lst (o:=.lst (us++[.ref tu])) hml6 (λz=>mlF _ z rfl)
   generalize upd H6 ml (.lst (us++[.ref tu]))=H7 at k7 hml7 j7 ⊢
   have kA:Keep (ml::t.T_Plain_free::sf x) H' H7:=((k5.mono (λy hy=>kE _ hy)).trans (Keep.same s6)).trans (k7.mono (by simp))
   have newp:((c*q'.P+f:Nat):Int) / (q.P:Int)=(c:Int):=by rw[←eP,←Int.natCast_ediv,u7 hf]
   refine⟨some (.int p),some (.int n),us++[.ref tu],_,_,rfl,j7,hml7,?_,?_,?_,?_,eB,eP,?_,λy hy=>?_,λkq hkq=>?_,λy hy hyb=>?_,kk.trans kA⟩
   ·rw[k8,lus]
    rfl
   ·have e1:rs.take (i+1)=rs.take i++[[p,n]]:=by rw[←mB hi,ekv]
    rw[e1,kU,List.foldl_append,←eS]
    show(⟨q'.put c f n,m'.cl⟩:RS)=putS ⟨q',m'.cl⟩ n
    unfold putS
    dsimp only
    rw[←ec,ef,mH]
   ·show(m'.rc++[_]).length=_
    rw[k8,rce]
    rfl
   ·rw[eB,eP]at rm5
    omega
   ·show(q'.fi.set c (q'.fi.getD c 0+1)).getD b 0=_
    rw[jI,hX (λz=>cb z.1)]
    exact ef'
   ·rcases zC.mp hy with e|⟨hy,_⟩
    ·obtain⟨z,hz,ez⟩:=nms _ hnp
     exact⟨z,hz,by rw[e];exact ez⟩
    ·exact nms y hy
   ·have hkq':kq∈rs.drop i:=by rw[dre];exact kE _ hkq
    obtain⟨n',p',rfl,h',hb'⟩:=dr kq hkq'
    refine⟨n',p',rfl,zC.mpr (.inr ⟨h',λe=>?_⟩),hb'⟩
    have e:n'=n:=e
    subst e
    have:=qDM nd' h' hnp
    subst this
    have nn:=ndr
    rw[←List.take_append_drop i rs,dre]at nn
    have:=(List.nodup_append.mp nn).2.1
    exact(mQ.mp this).1 hkq
   ·rcases zC.mp hy with e|⟨hy,hne⟩
    ·rw[e]at hyb
     rw[newp]at hyb
     exact(cb (by omega)).elim
    ·have:=dl y hy hyb
     rw[dre]at this
     rcases kI.mp this with e|e
     ·injection e with _ e
      injection e with e _
      exact(hne e).elim
     ·exact e
  obtain⟨y3,y4,us,m',q',rfl,j',hml,lus,eS,rce,rme,eB,eP,ef',nms,dr,dl,kk⟩:=hp
  rw[lps]at lus eS rme rce dl
  rw[List.drop_length]at dl
  have kH:Keep (t.T_Plain_free::sf x) H H':=by
   refine⟨λy o ny e=>kk.k y o (λz=>?_) (s02 _ _ e),λy ys e=>kk.tp _ _ (s02 _ _ e)⟩
   rcases kI.mp z with z|z
   ·rw[z,n1]at e;cases e
   ·exact ny z
  refine⟨_,rfl,k ml us m' q' H' j' n1 hml (by rw[lus,lS]) (by rw[lus,lrs]) ?_ (by rw[←lrs];exact rce) (by rw[←lrs];exact rme) eB eP ef' nms (λy hy hyb=>absurd (dl y hy hyb) (by simp)) kH⟩
  rw[eS,mZ,eRS,qB7]
  rfl
structure MR(t:Adr)(H:Hp)(x:Sto)(sh sr:Int)(ie:Nat)(r5:V)(m:CM)(q:QM)(r:Addr)(rl:List Addr)(g:Rl)(pp:Addr)(ps:List V):Prop where
 j:JS t H x sh sr ie r5 m q
 er:x.ru=.ref r
 ru:RuX t H r rl g
 of:Off t x r rl
 ep:x.pa=.ref pp
 hp:H pp=some (.lst ps)
 np:pp∉t.T_Plain_free::sf x
 nr:pp≠r∧pp∉rl
 l60:q.V.length<60
 rc:m.rc.length+200<1000000
 lp:ps.length<90000
noncomputable def PapA(H:Hp)(F:List Addr)(v:V)(p:Pp):Prop:=∃pa l1 l2 us rs,v=.ref pa∧H pa=some (.tup [.str "rule",.ref l1,.int (p.b:Int),.ref l2,.bl true])∧H l1=some (.lst rs)∧Tls H rs p.ts∧H l2=some (.lst us)∧us.length=p.k∧l1∉F∧l2∉F
theorem zX{H H':Hp}{F:List Addr}(k:Keep F H H'):∀{rs:List V} {ts:List Tl},Tls H rs ts→Tls H' rs ts
 |_,_,.nil=>.nil
 |_,_,.cons ⟨p,e,h⟩ r=>.cons ⟨p,e,k.tp _ _ h⟩ (zX k r)
theorem PapA.keep{H H':Hp}{F G:List Addr}{v:V}{p:Pp}(h:PapA H F v p)(k:Keep G H H')(s:∀y∈G,y∈F):PapA H' F v p:=by
 obtain⟨pa,l1,l2,us,rs,e,a,b,c,d,f,g1,g2⟩:=h
 exact⟨pa,l1,l2,us,rs,e,k.tp _ _ a,k.k _ _ (λz=>g1 (s _ z)) b,zX k c,k.k _ _ (λz=>g2 (s _ z)) d,f,g1,g2⟩
noncomputable abbrev wrF(t:Adr)(x:Sto)(r pp:Addr):List Addr:=pp::r::t.T_Plain_free::sf x
structure Made(t:Adr)(H H':Hp)(x:Sto)(sh sr:Int)(ie:Nat)(r5:V)(m m':CM)(q q':QM)(r:Addr)(rl:List Addr)(g':Rl)(pp:Addr)(ps:List V)(b:Nat)(ts:List Tl)(v:V):Prop where
 j:JS t H' x sh sr ie r5 m' q'
 e:(⟨q',m'.cl⟩:RS)=wipS (movS ⟨q,m.cl⟩ b) b
 rcE:m'.rc.length≤m.rc.length+61
 rmE:rm q.B q.P q'.fi+cntB q.P q.V b=rm q.B q.P q.fi+q.P
 eB:q'.B=q.B
 eP:q'.P=q.P
 nm:∀y∈q'.V,∃z∈q.V,z.1=y.1
 hp:H' pp=some (.lst (ps++[v]))
 pa:PapA H' (wrF t x r pp) v ⟨ts,b,(lvS q.P b q.V).length⟩
 kk:Keep (wrF t x r pp) H H'
 ru:RuX t H' r rl g'
noncomputable def qLI(t:Adr):Sp:=λvs H Q _=>∃x sh sr ie r5 m q r rl g pp ps,vs=[.ref x.s]∧MR t H x sh sr ie r5 m q r rl g pp ps∧(∀l,FreeIs q.B m.br m.cl q.fi l→optN (ie:Int) m q l≠[])∧
 ∀l b m' q' pv v H',FreeIs q.B m.br m.cl q.fi l→b∈optN (ie:Int) m q l→(b:Int)=(g.ch (q.P:Int) q.nx ((optN (ie:Int) m q l).map (tlOf m q))).1→Made t H H' x sh sr ie r5 m m' q q' r rl (g.ch (q.P:Int) q.nx ((optN (ie:Int) m q l).map (tlOf m q))).2 pp ps b ((optN (ie:Int) m q l).map (tlOf m q)) pv→Q v H'
theorem q44(T:Txt K mg t)(S:Fns K t)(B:BmIn base mg):S.Store_make_room.Ok0 P w mg base 14 (qLI t):=by
 refine S.Store_make_room.F.ok0 yG λcdv A _ s H vs Q E hr h=>?_
 ·obtain⟨x,sh,sr,ie,r5,m,q,r,rl,g,pp,ps,rfl,mr,hop,k⟩:=h
  have j:=mr.j
  have s9:(99999:Nat)<sizeLine:=by decide
  have rc0:=mr.rc
  have lp0:=mr.lp
  have V60:=mr.l60
  refine⟨_,(qB (qV (i:=1) yG.nd rfl (Or.inl rfl) (jC (pv 0) T.cl_Store T.m_Store_options (q19 T S B).mono hr S.Store_options.b .nil qK)) (qB (qV (i:=2) yG.nd rfl (Or.inl rfl) (jC (pv 0) T.cl_Store T.m_Store_choice (q5R T S B).mono hr S.Store_choice.b .nil qK)) (qB (qV (i:=3) yG.nd rfl (Or.inl rfl) (qT (pv 0) T.cl_Store T.m_Store_moved (q7P T S B).mono hr S.Store_moved.b .nil qK (qA (qY jL (pv 2) qG (λ_ _=>rfl)) qC))) (qB (qV (i:=4) yG.nd rfl (Or.inl rfl) (qT (pv 0) T.cl_Store T.m_Store_wiped (q7O T S).mono hr S.Store_wiped.b .nil qK (qA (qY jL (pv 2) qG (λ_ _=>rfl)) qC))) (qB (jA (q8O PySem.F.plainAttrs_list PySem.F.slot_list_append PySem.F.type_list_append vD (qJ (pv 0) rfl) (qA (qM (q5D T S).mono hr rfl T.mg_paper_of T.kp_paper_of S.paper_of.b .nil qK (qA (qY jL (pv 2) qG (λ_ _=>rfl)) (qA (pv 1) (qA (qY jL (pv 2) qG (λ_ _=>rfl)) (qA (pv 3) (qA (pv 4) qC)))))) qC))) (qE (qL (qM (q5D T S).mono hr rfl T.mg_paper_of T.kp_paper_of S.paper_of.b .nil qK (qA (qY jL (pv 2) qG (λ_ _=>rfl)) (qA (pv 1) (qA (qY jL (pv 2) qG (λ_ _=>rfl)) (qA (pv 3) (qA (pv 4) qC))))))))))))),?_⟩
  try dsimp-beta-proj-iota-zeta-eta only[wishK,cxK]
  refine⟨_,rfl,x.s,x.sd,_,rfl,j.st.o,rfl,x,_,_,_,m,q,_,rfl,j.st,j.ft,λl op rs H1 hl np k1 tb1 h1 ty=>?_⟩
  have j1:=j.kT k1 tb1
  have ne:=hop l hl
  have oT:=mr.of t.T_Plain_free (by simp)
  have hR1:=mr.ru.keep k1 (λz=>oT.1 (kC.mp z).symm) (λb hb z=>oT.2 (by rw[←kC.mp z];exact hb))
  refine⟨_,rfl,x.s,x.sd,_,rfl,j1.st.o,rfl,x,sh,sr,ie,r5,m,q,r,rl,g,rfl,j1,mr.er,hR1,mr.of,by omega,λl' hl'=>⟨hop l' hl',λcp H2 k2 j2 hR2 h2=>?_⟩⟩
  obtain rfl:=hl.one hl'
  obtain⟨b,hb,eb⟩:∃b,b∈optN (ie:Int) m q l∧(b:Int)=(g.ch (q.P:Int) q.nx ((optN (ie:Int) m q l).map (tlOf m q))).1:=by
   have:=qK3 (g:=g) (pg:=(q.P:Int)) (nw:=q.nx) mr.ru.ok (ts:=((optN (ie:Int) m q l).map (tlOf m q))) (λz=>ne (List.map_eq_nil_iff.mp z))
   rw[List.map_map]at this
   obtain⟨b,hb,e⟩:=kX.mp this
   exact⟨b,hb,e⟩
  rw[←eb]at h2
  have nrl:r∉t.T_Plain_free::sf x∧(∀b∈rl,b∉t.T_Plain_free::sf x):=⟨λz=>(mr.of r (by rcases kI.mp z with e|e<;>simp[e])).1 rfl,λb hb z=>(mr.of b (by rcases kI.mp z with e|e<;>simp[e])).2 hb⟩
  obtain⟨b1,b2,b3,b4⟩:=q9M j.br hb
  have hlr:=hl
  rw[j.br]at hlr
  have spl:=qJT (ie:=ie) j.on j.qs.ok.wr j.qs.ok.p1 hlr
  have lvb:=j.qs.lv b b1
  have k02:Keep [t.T_Plain_free,r] H H2:=(k1.mono (by simp)).trans k2
  refine⟨_,rfl,x.s,x.sd,_,rfl,j2.st.o,rfl,_,rfl,cp,_,1,.int (b:Int),rfl,rfl,SqT.of h2,rfl,x,sh,sr,ie,r5,m,q,b,rfl,j2,b1,b2,by omega,V60,by omega,λml us m3 q3 H3 j3 nm hml lm lm' eS rce rme eB eP ef nms nl k3=>?_⟩
  have h3:=k3.tp _ _ h2
  have cl60:cntB q.P q.V b≤q.V.length:=List.countP_le_length
  have rc3:m3.rc.length<1000000:=by omega
  refine⟨_,rfl,x.s,x.sd,_,rfl,j3.st.o,rfl,_,rfl,cp,_,1,.int (b:Int),rfl,rfl,SqT.of h3,rfl,x,sh,sr,ie,r5,m3,q3,b,rfl,j3,by rw[eB];exact b1,rc3,by rw[eP];exact nl,λH4 j4 k4=>⟨rfl,?_⟩⟩
  have k34:Keep (t.T_Plain_free::sf x) H2 H4:=k3.trans k4
  have k04:Keep (r::t.T_Plain_free::sf x) H H4:=(k02.mono (by simp)).trans (k34.mono (λy hy=>kE _ hy))
  obtain⟨C0,d0,f0,er0⟩:=mr.ru.ins
  have opr:op≠r:=λz=>by rw[z,er0]at np;cases np
  have hR4:=hR2.keep k34 nrl.1 nrl.2
  obtain⟨C4,d4,f4,er4⟩:=hR4.ins
  have h4:=k34.tp _ _ h2
  have opn:op∉t.T_Plain_free::sf x:=λz=>by
   obtain⟨o,e⟩:=j.inH op z
   rw[np]at e
   cases e
  have opH2:H2 op=some (.lst rs):=k2.k _ _ (λz=>by
   have z:op=t.T_Plain_free∨op=r:=by simpa using z
   rcases z with z|z
   ·exact opn (by rw[z];simp)
   ·exact opr z) h1
  have hop4:=k34.k _ _ opn opH2
  have mln:ml∉t.T_Plain_free::sf x:=λz=>by
   obtain⟨o,e⟩:=j2.inH ml z
   rw[nm]at e
   cases e
  have hml4:=k4.k _ _ mln hml
  have npr:pp∉r::t.T_Plain_free::sf x:=λz=>(kI.mp z).elim mr.nr.1 mr.np
  have hpp4:=k04.k _ _ npr mr.hp
  have o4:H4 x.s=some (.ins t.C_Store x.sd [("chip",.ref x.c),("terms",.ref x.tm),("book",.ref x.k.bk),("rule",x.ru),("papers",.ref pp)]):=by rw[←mr.ep];exact j4.st.o
  refine⟨_,rfl,x.s,_,x.sd,_,_,rfl,o4,T.cl_Store,T.na_Store_papers,rfl,.inl ⟨rfl,_,SqL.of hpp4⟩,_,rfl,cp,_,0,_,rfl,rfl,SqT.of h4,rfl,_,rfl,_,rfl,cp,_,1,_,rfl,rfl,SqT.of h4,rfl,_,rfl,_,rfl,.str "rule",.int (b:Int),.bl true,op,ml,rs,us,rfl,hop4,hml4,λpa a1 a2 H5 s5 npa na1 na2 e5 e51 e52=>⟨pp,ps,_,rfl,rfl,s5 _ _ hpp4,by omega,?_⟩⟩
  have hpp5:=s5 _ _ hpp4
  have k6:=Keep.upd (F:=[pp]) (o:=.lst (ps++[.ref pa])) hpp5 (λ_ z=>by cases z) (by simp)
  have hpp6:(upd H5 pp (.lst (ps++[.ref pa]))) pp=_:=qH
  have j6:=(j4.same s5).lst (o:=.lst (ps++[.ref pa])) hpp5 mr.np
  generalize upd H5 pp (.lst (ps++[.ref pa]))=H6 at k6 hpp6 j6 ⊢
  have ppo:∀{y:Addr},H4 y=none→y∉[pp]:=fun {y} e z=>by
   rw[kC.mp z,hpp4]at e
   cases e
  have opp:op∉[pp]:=λz=>by
   rw[kC.mp z,mr.hp]at np
   cases np
  have mlp:ml∉[pp]:=λz=>by
   rw[kC.mp z,k02.k _ _ (λz=>npr (by rcases kI.mp z with e|e<;>simp at e ⊢<;>simp[e])) mr.hp]at nm
   cases nm
  refine⟨_,rfl,cp,_,0,_,rfl,rfl,SqT.of (k6.tp _ _ (s5 _ _ h4)),rfl,_,rfl,_,rfl,cp,_,1,_,rfl,rfl,SqT.of (k6.tp _ _ (s5 _ _ h4)),rfl,_,rfl,_,rfl,.str "rule",.int (b:Int),.bl true,op,ml,rs,us,rfl,k6.k _ _ opp (s5 _ _ hop4),k6.k _ _ mlp (s5 _ _ hml4),λpb c1 c2 H7 s7 _ _ _ e7 _ _=>?_⟩
  have k07:Keep (pp::r::t.T_Plain_free::sf x) H H7:=(((k04.mono (λy hy=>kE _ hy)).trans (Keep.same s5)).trans (k6.mono (by simp))).trans (Keep.same s7)
  have hR7:=((hR4.keep (Keep.same s5) (F:=[]) (by simp) (by simp)).keep k6 (λz=>mr.nr.1 (kC.mp z).symm) (λb hb z=>mr.nr.2 (by rw[←kC.mp z];exact hb))).keep (Keep.same s7) (F:=[]) (by simp) (by simp)
  have inF:∀{y:Addr},H4 y=none→y∉wrF t x r pp:=fun {y} e z=>by
   rcases kI.mp z with z|z
   ·rw[z,hpp4]at e;cases e
   ·rcases kI.mp z with z|z
    ·rw[z,er4]at e;cases e
    ·obtain⟨o,e'⟩:=j4.inH y z
     rw[e]at e'
     cases e'
  have ty2:=qA8 ty
  have ty7:Tls H7 rs ((optN (ie:Int) m q l).map (tlOf m q)):=zX (F:=[]) (Keep.same s7) (zX k6 (zX (F:=[]) (Keep.same s5) (zX k34 (zX k2 ty2))))
  refine k l b _ _ (.ref pa) _ H7 hl hb eb ⟨j6.same s7,?_,?_,?_,eB,eP,nms,s7 _ _ hpp6,⟨pa,a1,a2,us,rs,rfl,s7 _ _ (k6.tp _ _ e5),s7 _ _ (k6.k _ _ (ppo na1) e51),ty7,s7 _ _ (k6.k _ _ (ppo na2) e52),lm,inF na1,inF na2⟩,k07,hR7⟩
  ·show(⟨q3.emptied b,m3.cl.set b (m3.cl.getD b 0+1)⟩:RS)=_
   rw[←eS]
   rfl
  ·show(m3.rc++[_]).length≤_
   rw[k8,rce]
   show _ +1≤_
   omega
  ·have:rm q.B q.P (q3.fi.set b 0)=rm q.B q.P q3.fi+q.P:=qDD b1 (by rw[j3.qs.ok.lf,eB]) ef
   show rm q.B q.P (q3.fi.set b 0)+ _=_
   omega
noncomputable def spMr(t:Adr):Sp:=λvs H Q _=>∃x sh sr ie r5 m q r rl g pp ps,vs=[.ref x.s]∧MR t H x sh sr ie r5 m q r rl g pp ps∧(1+ie)*q.P≤rm q.B q.P q.fi∧q.V.length<(q.B-(1+ie))*q.P∧
 ((1+ie)*q.P<rm q.B q.P q.fi→∀H',Keep [t.T_Plain_free] H H'→TbF t H'→Q .non H')∧
 (rm q.B q.P q.fi=(1+ie)*q.P→∀l b m' q' pv H',FreeIs q.B m.br m.cl q.fi l→b∈optN (ie:Int) m q l→(b:Int)=(g.ch (q.P:Int) q.nx ((optN (ie:Int) m q l).map (tlOf m q))).1→Made t H H' x sh sr ie r5 m m' q q' r rl (g.ch (q.P:Int) q.nx ((optN (ie:Int) m q l).map (tlOf m q))).2 pp ps b ((optN (ie:Int) m q l).map (tlOf m q)) pv→Q .non H')
theorem MR.kT{H H':Hp}{x:Sto}{sh sr:Int}{ie:Nat}{r5:V}{m:CM}{q:QM}{r:Addr}{rl:List Addr}{g:Rl}{pp:Addr}{ps:List V}(h:MR t H x sh sr ie r5 m q r rl g pp ps)(k:Keep [t.T_Plain_free] H H')(tb:TbF t H'):MR t H' x sh sr ie r5 m q r rl g pp ps:=
 { h with j:=h.j.kT k tb,ru:=h.ru.keep k (λz=>(h.of t.T_Plain_free (by simp)).1 (kC.mp z).symm) (λb hb z=>(h.of t.T_Plain_free (by simp)).2 (by rw[←kC.mp z];exact hb)),hp:=k.k _ _ (λz=>h.np (by rw[kC.mp z];simp)) h.hp }
theorem MR.same{H H':Hp}{x:Sto}{sh sr:Int}{ie:Nat}{r5:V}{m:CM}{q:QM}{r:Addr}{rl:List Addr}{g:Rl}{pp:Addr}{ps:List V}(h:MR t H x sh sr ie r5 m q r rl g pp ps)(s:Same H H'):MR t H' x sh sr ie r5 m q r rl g pp ps:=h.kT (Keep.same s) (h.j.st.tb.same s)
section
variable{H H1 H' H2:Hp}{x:Sto}{sh sr:Int}{ie:Nat}{r5:V}{m m':CM}{q q':QM}{r:Addr}{rl:List Addr}{g':Rl}{pp:Addr}{ps:List V}{b:Nat}{ts:List Tl}{v:V}
theorem Made.from(h:Made t H1 H' x sh sr ie r5 m m' q q' r rl g' pp ps b ts v)(k:Keep [t.T_Plain_free] H H1):Made t H H' x sh sr ie r5 m m' q q' r rl g' pp ps b ts v:=
 { h with kk:=(k.mono (by simp)).trans h.kk }
theorem Made.kT(h:Made t H H' x sh sr ie r5 m m' q q' r rl g' pp ps b ts v)(of:Off t x r rl)(np:pp∉t.T_Plain_free::sf x)(k:Keep [t.T_Plain_free] H' H2)(tb:TbF t H2):Made t H H2 x sh sr ie r5 m m' q q' r rl g' pp ps b ts v:=
 { h with j:=h.j.kT k tb,hp:=k.k _ _ (λz=>np (by rw[kC.mp z];simp)) h.hp,pa:=h.pa.keep k (by simp),kk:=h.kk.trans (k.mono (by simp)),ru:=h.ru.keep k (λz=>(of t.T_Plain_free (by simp)).1 (kC.mp z).symm) (λb hb z=>(of t.T_Plain_free (by simp)).2 (by rw[←kC.mp z];exact hb)) }
end
theorem q39(T:Txt K mg t)(S:Fns K t)(B:BmIn base mg):S.Store_make_rooms.Ok0 P w mg base 15 (spMr t):=by
 refine S.Store_make_rooms.F.ok0 q37 λcdv A _ s H vs Q E hr h=>?_
 ·obtain⟨x,sh,sr,ie,r5,m,q,r,rl,g,pp,ps,rfl,mr,rest,hv,kA,kB⟩:=h
  refine⟨_,(qE (qAG gR (yL (jW (jC (pv 0) T.cl_Store T.m_Store_ready (q7E T S B).mono hr S.Plain_ready.b .nil qK))) (qE (jA (jC (pv 0) T.cl_Store T.m_Store_make_room (q44 T S B).mono hr S.Store_make_room.b .nil qK))))),?_⟩
  try dsimp-beta-proj-iota-zeta-eta only[wishK,cxK]
  refine⟨λn σ' H2=>σ'=[some (.ref x.s)]∧((n=1∧H2=H)∨(n=0∧rm q.B q.P q.fi=(1+ie)*q.P∧∃l b m' q' pv,FreeIs q.B m.br m.cl q.fi l∧b∈optN (ie:Int) m q l∧(b:Int)=(g.ch (q.P:Int) q.nx ((optN (ie:Int) m q l).map (tlOf m q))).1∧Made t H H2 x sh sr ie r5 m m' q q' r rl (g.ch (q.P:Int) q.nx ((optN (ie:Int) m q l).map (tlOf m q))).2 pp ps b ((optN (ie:Int) m q l).map (tlOf m q)) pv)),⟨1,rfl,.inl ⟨rfl,rfl⟩⟩,?_⟩
  rintro n σ' H2 ⟨rfl,⟨rfl,rfl⟩|⟨rfl,hr,l,b,m',q',pv,hl,hb,hmin,md⟩⟩
  ·have j:=mr.j
   refine⟨_,rfl,x.s,x.sd,_,rfl,j.st.o,rfl,x,_,_,_,m,q,_,rfl,j.st,j.ft,λl H3 hl k3 tb3=>⟨_,rfl,?_⟩⟩
   rw[show jJ q.B q.P m.br q.fi=jJ q.B q.P (noB q.B) q.fi by rw[j.br],qDC j.on j.qs.ok.wr j.qs.ok.p1 (by rw[j.br]at hl;exact hl)]
   by_cases z:(1+ie)*q.P<rm q.B q.P q.fi
   ·rw[hI z]
    exact iteF (kA z H3 k3 tb3)
   ·rw[hV z]
    have hr:rm q.B q.P q.fi=(1+ie)*q.P:=by omega
    refine iteT ⟨_,λ_ _ z=>z,?_⟩
    have mr3:=mr.kT k3 tb3
    refine⟨_,rfl,x.s,x.sd,_,rfl,mr3.j.st.o,rfl,x,sh,sr,ie,r5,m,q,r,rl,g,pp,ps,rfl,mr3,λl' hl'=>(qB5 j.qs j.on j.br (by rw[j.br]at hl';exact hl') hr hv).1,λl' b m' q' pv v H4 hl' hb hmin md=>?_⟩
    exact⟨0,by omega,rfl,.inr ⟨rfl,hr,l',b,m',q',pv,hl',hb,hmin,md.from k3⟩⟩
  ·have j:=md.j
   refine⟨_,rfl,x.s,x.sd,_,rfl,j.st.o,rfl,x,_,_,_,m',q',_,rfl,j.st,j.ft,λl3 H3 hl3 k3 tb3=>⟨_,rfl,?_⟩⟩
   rw[show jJ q'.B q'.P m'.br q'.fi=jJ q'.B q'.P (noB q'.B) q'.fi by rw[j.br],qDC j.on j.qs.ok.wr j.qs.ok.p1 (by rw[j.br]at hl3;exact hl3)]
   obtain⟨b1,b2,b3,b4⟩:=q9M mr.j.br hb
   have lvb:=mr.j.qs.lv b b1
   have:=md.rmE
   rw[hI (show(1+ie)*q'.P<rm q'.B q'.P q'.fi by rw[md.eB,md.eP];omega)]
   exact iteF (kB hr l b m' q' pv H3 hl hb hmin (md.kT mr.of mr.np k3 tb3))
theorem q3A(T:Txt K mg t)(S:Fns K t)(B:BmIn base mg):S.Store_make_ready.Ok0 P w mg base 16 (spMr t):=by
 refine S.Store_make_ready.F.ok0 q36 λcdv A _ s H vs Q E hr h=>?_
 ·obtain⟨x,sh,sr,ie,r5,m,q,r,rl,g,pp,ps,rfl,mr,rest,hv,kA,kB⟩:=h
  refine⟨_,(qE (jA (jC (pv 0) T.cl_Store T.m_Store_make_rooms (q39 T S B).mono hr S.Store_make_rooms.b .nil qK))),?_⟩
  try dsimp-beta-proj-iota-zeta-eta only[wishK,cxK]
  exact⟨_,rfl,x.s,x.sd,_,rfl,mr.j.st.o,rfl,x,sh,sr,ie,r5,m,q,r,rl,g,pp,ps,rfl,mr,rest,hv,kA,kB⟩
structure Ask(t:Adr)(H H':Hp)(x:Sto)(sh sr:Int)(ie:Nat)(r5:V)(m m':CM)(q q':QM)(r:Addr)(rl:List Addr)(g:Rl)(pp:Addr)(ps ns:List V)(n:Int):Prop where
 j:JS t H' x sh sr ie r5 m' q'
 e:(⟨q',m'.cl⟩:RS)=(stp ⟨q,m.cl⟩ g n).1
 eB:q'.B=q.B
 eP:q'.P=q.P
 rcE:m'.rc.length≤m.rc.length+62
 rest:(1+ie)*q.P≤rm q.B q.P q'.fi
 nm:∀y∈q'.V,y.1=n∨∃z∈q.V,z.1=y.1
 hp:H' pp=some (.lst (ps++ns))
 pa:Paired (PapA H' (wrF t x r pp)) ns (stp ⟨q,m.cl⟩ g n).2.2
 kk:Keep (wrF t x r pp) H H'
 ru:RuX t H' r rl (stp ⟨q,m.cl⟩ g n).2.1
section
variable{H H1:Hp}{x:Sto}{sh sr:Int}{r5:V}{m m1:CM}{q q1:QM}{r:Addr}{rl:List Addr}{g:Rl}{pp:Addr}{ps:List V}
theorem MR.off(mr:MR t H x sh sr 0 r5 m q r rl g pp ps):r∉t.T_Plain_free::sf x∧(∀b∈rl,b∉t.T_Plain_free::sf x):=⟨λz=>(mr.of r (by rcases kI.mp z with e|e<;>simp[e])).1 rfl,λb hb z=>(mr.of b (by rcases kI.mp z with e|e<;>simp[e])).2 hb⟩
theorem MR.layA(mr:MR t H x sh sr 0 r5 m q r rl g pp ps)(z:(1+0)*q.P<rm q.B q.P q.fi)(k1:Keep [t.T_Plain_free] H H1)(tb1:TbF t H1){n v:Int}(n0:0≤n)(n1:n<64){Q:VK}{E:XK}
 (kk:∀p m' q' ns H',Ask t H H' x sh sr 0 r5 m m' q q' r rl g pp ps ns n→Q (.int p) H'):qBJ t [.ref x.s,.int n,.int v] H1 Q E:=by
 have j1:=mr.j.kT k1 tb1
 have rc:=mr.rc
 have es:stp ⟨q,m.cl⟩ g n=(putS ⟨q,m.cl⟩ n,g,[]):=by
  unfold stp
  exact kG (show q.P<rm q.B q.P q.fi by omega)
 refine j1.set n0 n1 (by omega) (by omega) λb f tp H' eb hb hf ef j' rm' k'=>?_
 have kA:Keep (wrF t x r pp) H H':=((k1.mono (by simp)).trans k').mono (λy hy=>kE _ (kE _ hy))
 have hp':H' pp=some (.lst (ps++[])):=by rw[gB];exact k'.k _ _ mr.np (k1.k _ _ (λz=>mr.np (by rw[kC.mp z];simp)) mr.hp)
 refine kk _ _ _ [] H' ⟨j',?_,rfl,rfl,?_,by omega,λy hy=>?_,hp',?_,kA,?_⟩
 ·rw[es]
  show(⟨q.put b f n,m.cl⟩:RS)=putS ⟨q,m.cl⟩ n
  unfold putS
  dsimp only
  rw[←eb,ef,mH]
 ·show(m.rc++[_]).length≤_
  rw[k8]
  show _ +1≤_
  omega
 ·rcases zC.mp hy with e|⟨h,_⟩
  ·exact .inl (by rw[e])
  ·exact .inr ⟨y,h,rfl⟩
 ·rw[es]
  exact .nil
 ·rw[es]
  exact(mr.kT k1 tb1).ru.keep k' mr.off.1 mr.off.2
theorem MR.layB(mr:MR t H x sh sr 0 r5 m q r rl g pp ps)(hr:rm q.B q.P q.fi=(1+0)*q.P){l:List Nat}{b:Nat}{pv:V}(hl:FreeIs q.B m.br m.cl q.fi l)(hb:b∈optN ((0:Nat):Int) m q l)(eb:(b:Int)=(g.ch (q.P:Int) q.nx ((optN ((0:Nat):Int) m q l).map (tlOf m q))).1)(md:Made t H H1 x sh sr 0 r5 m m1 q q1 r rl (g.ch (q.P:Int) q.nx ((optN ((0:Nat):Int) m q l).map (tlOf m q))).2 pp ps b ((optN ((0:Nat):Int) m q l).map (tlOf m q)) pv)
 {n v:Int} (n0:0≤n) (n1:n<64) {Q:VK} {E:XK}
 (kk:∀p m' q' ns H',Ask t H H' x sh sr 0 r5 m m' q q' r rl g pp ps ns n→Q (.int p) H'):qBJ t [.ref x.s,.int n,.int v] H1 Q E:=by
 have rc:=mr.rc
 have V60:=mr.l60
 obtain⟨b1,b2,b3,b4⟩:=q9M mr.j.br hb
 have lvb:=mr.j.qs.lv b b1
 have rmE:=md.rmE
 have rc1:=md.rcE
 have eo:(optN ((0:Nat):Int) m q l).map (tlOf m q)=opS ⟨q,m.cl⟩:=by
  rw[qIA mr.j.qs mr.j.on mr.j.br (by have:=hl;rw[mr.j.br]at this;exact this) hr]
  rfl
 have eru:=md.ru
 have epa:=md.pa
 rw[eo]at eb eru epa
 have ebn:(g.ch (q.P:Int) q.nx (opS ⟨q,m.cl⟩)).1.toNat=b:=by rw[←eb];exact mH b
 have es:stp ⟨q,m.cl⟩ g n=(putS (wipS (movS ⟨q,m.cl⟩ b) b) n,(g.ch (q.P:Int) q.nx (opS ⟨q,m.cl⟩)).2,[⟨opS ⟨q,m.cl⟩,b,(lvS q.P b q.V).length⟩]):=by
  unfold stp
  rw[hX (show ¬q.P<rm q.B q.P q.fi by omega),ebn]
 refine md.j.set n0 n1 (by omega) (by rw[md.eB,md.eP];omega) λc f tp H' ec hc hf ef j' rm' k'=>?_
 have kA:Keep (wrF t x r pp) H H':=md.kk.trans (k'.mono (λy hy=>kE _ (kE _ hy)))
 rw[md.eB,md.eP]at rm'
 refine kk _ _ _ [pv] H' ⟨j',?_,md.eB,md.eP,?_,by omega,λy hy=>?_,k'.k _ _ mr.np md.hp,?_,kA,?_⟩
 ·rw[es,←md.e]
  show(⟨q1.put c f n,m1.cl⟩:RS)=putS ⟨q1,m1.cl⟩ n
  unfold putS
  dsimp only
  rw[←ec,ef,mH]
 ·show(m1.rc++[_]).length≤_
  rw[k8]
  show _ +1≤_
  omega
 ·rcases zC.mp hy with e|⟨h,_⟩
  ·exact .inl (by rw[e])
  ·exact .inr (md.nm y h)
 ·rw[es]
  exact .cons (epa.keep k' λy hy=>kE _ (kE _ hy)) .nil
 ·rw[es]
  exact eru.keep k' mr.off.1 mr.off.2
theorem Ask.from{H':Hp}{m':CM}{q':QM}{ns:List V}{n:Int}(a:Ask t H1 H' x sh sr 0 r5 m m' q q' r rl g pp ps ns n)(s1:Same H H1):Ask t H H' x sh sr 0 r5 m m' q q' r rl g pp ps ns n:=
 { a with kk:=(Keep.same s1).trans a.kk }
end
noncomputable def qLJ(t:Adr):Sp:=λvs H Q E=>∃x sh sr r5 m q r rl g pp ps,∃s v:Int,vs=[.ref x.s,.int s,.int v]∧MR t H x sh sr 0 r5 m q r rl g pp ps∧(1+0)*q.P≤rm q.B q.P q.fi∧q.V.length<(q.B-(1+0))*q.P∧sh≤64∧inB (.int s) 0 (sh-1)=true∧inB (.int v) 0 (10 ^ 30-1)=true∧¬(hold q s=false∧sr≤((hdN q.V).length:Int))∧
 ∀p m' q' ns H',Ask t H H' x sh sr 0 r5 m m' q q' r rl g pp ps ns s→Q (.int p) H'
theorem q7Q(T:Txt K mg t)(S:Fns K t)(B:BmIn base mg):S.Plain_write.Ok0 P w mg base 17 (qLJ t):=by
 refine S.Plain_write.F.ok0 q77 λcdv A _ s H vs Q E hr h=>?_
 ·obtain⟨x,sh,sr,r5,m,q,r,rl,g,pp,ps,s,v,rfl,mr,rest,hv,sh64,z,w,ff,k⟩:=h
  have j:=mr.j
  have hs:=j.st
  have V60:=mr.l60
  have h64:(hdN q.V).length<64:=by
   unfold hdN
   refine Nat.lt_of_le_of_lt (kY _ _) ?_
   rw[hC]
   omega
  refine⟨_,(qB (jA (qT (pv 0) T.cl_Store T.m_Store_check_sheet (q2V T S).mono hr S.Plain_check_sheet.b .nil qK (qA (pv 1) qC))) (qB (jB (yL (jW (qM (qBK T S).mono hr rfl T.mg_is_value T.kp_is_value S.is_value.b .nil qK (qA (pv 2) qC)))) (qE qZ) qQ) (qB (jA (qT (pv 0) T.cl_Store T.m_Store_check_share (q2W T S).mono hr S.Plain_check_share.b .nil qK (qA (pv 1) qC))) (qB (jA (jC (pv 0) T.cl_Store T.m_Store_make_ready (q3A T S B).mono hr S.Store_make_ready.b .nil qK)) (qE (qL (qT (pv 0) T.cl_Store T.m_Store_lay (q4J T S B).mono hr S.Plain_lay.b .nil qK (qA (pv 1) (qA (pv 2) qC))))))))),?_⟩
  try dsimp-beta-proj-iota-zeta-eta only[wishK,cxK]
  refine⟨_,rfl,x.s,x.sd,_,rfl,hs.o,rfl,_,rfl,x,.int sr,_,r5,m,q,.int s,sh,rfl,hs,.int _,?_⟩
  rw[kG z]
  obtain⟨s',e,s0,s1'⟩:=qH2 z
  injection e with e
  subst e
  refine⟨_,rfl,.int v,rfl,.int _,_,rfl,?_⟩
  rw[w]
  refine iteF ?_
  refine⟨_,rfl,x.s,x.sd,_,rfl,hs.o,rfl,_,rfl,x,.int sh,_,r5,m,q,s,sr,rfl,hs,j.ft,h64,λH1 s1=>?_⟩
  rw[hX ff]
  have mr1:=mr.same s1
  refine⟨_,rfl,x.s,x.sd,_,rfl,mr1.j.st.o,rfl,x,sh,sr,0,r5,m,q,r,rl,g,pp,ps,rfl,mr1,rest,hv,λzz H2 k2 tb2=>?_,λhr l b m' q' pv H2 hl hb hm md=>?_⟩
  ·refine⟨_,rfl,x.s,x.sd,_,rfl,((mr1.j.kT k2 tb2).st).o,rfl,_,rfl,_,rfl,?_⟩
   dsimp only[tNil,List.cons_append,List.nil_append,gB]
   exact mr1.layA zz k2 tb2 s0 (by omega) λp m' q' ns H' a=>k p m' q' ns H' (a.from s1)
  ·refine⟨_,rfl,x.s,x.sd,_,rfl,md.j.st.o,rfl,_,rfl,_,rfl,?_⟩
   dsimp only[tNil,List.cons_append,List.nil_append,gB]
   exact mr1.layB hr hl hb hm md s0 (by omega) λp m' q' ns H' a=>k p m' q' ns H' (a.from s1)
noncomputable def qLK:Sp:=λvs H Q _=>∃n:Int,vs=[.int n]∧0≤n∧n<64∧Q (.bl true) H
theorem qBN(T:Txt K mg t)(S:Fns K t):S.is_sheet.Ok0 P w mg base 3 qLK:=by
 refine S.is_sheet.F.ok0 qBC λcdv A _ s H vs Q E hr h=>?_
 ·obtain⟨n,rfl,h0,h1,q⟩:=h
  refine⟨_,(qE (qL (qM (jD T S).mono hr rfl T.mg_is_within T.kp_is_within S.is_within.b .nil qK (qA (pv 0) (qA qG (qA (qN jR (q1B rfl T.mg_ROLL ⟨_,rfl⟩ (v:=.int 64)) qG) qC)))))),?_⟩
  try dsimp-beta-proj-iota-zeta-eta only[wishK,cxK]
  refine⟨_,rfl,_,_,rfl,rfl,.int n,0,_,rfl,.int _,?_⟩
  rw[show inB (.int n) 0 ((64:Int)-1)=true from qBL h0 (by omega)]
  exact q
noncomputable def qLL(K:W.Frag):Sp:=λvs H Q _=>∃l,∃ns:List Int,vs=[.ref l]∧H l=some (.lst (ns.map V.int))∧ns.length≤100∧(∀n∈ns,0≤n∧n<64)∧∀H',Same H H'→Q (.bl true) H'
theorem qEO(T:Txt K mg t)(S:Fns K t):S.is_row.Ok0 P w mg base 4 (qLL K):=by
 refine S.is_row.F.ok0 qEI λcdv A _ s H vs Q E hr h=>?_
 ·obtain⟨l,ns,rfl,hl,hn,hb,q⟩:=h
  refine⟨_,(qE (qL (q3G (qW yQ (by rfl) T.b_isinstance (by kernel_rfl) (qA (pv 0) (qA (q1C rfl T.b_list (by kernel_rfl) rfl (v:=.ty "list")) qC))) (q1D (qW (q8X rfl) (by rfl) T.b_all (by kernel_rfl) (qA (yH ["sheet"] [] rfl (jP (pv 0)) (λ_ _ _ _ _=>(qX (i:=0) (show List.Nodup (["sheet"]:List Str)from by decide) rfl (Or.inl rfl))) (λ_ _ _ _ _=>uW) (λ_ _ _ _ _=>(qM (qBN T S).mono hr rfl T.mg_is_sheet T.kp_is_sheet S.is_sheet.b .nil qK (qA (pv 0) qC))) (by kernel_rfl) (jM (by decide))) qC)))))),?_⟩
  try dsimp-beta-proj-iota-zeta-eta only[wishK,cxK]
  refine⟨_,rfl,.ref l,_,_,.type "list",_,rfl,rfl,.inl (.lst hl),qFB,_,rfl,iteT ?_⟩
  refine⟨_,rfl,l,rfl,⟨_,SqL.of hl⟩,λD H2 nD s2 hD=>?_⟩
  refine zI (K:=K) (xs:=ns.map V.int) (D:=D) (k:=0) (λi H3=>Same H H3∧H3 D=some (.lst ((List.replicate i true).map V.bl))) ⟨s2,hD⟩ (λi H3 hp=>SqL.of (hp.1 _ _ hl)) (λi x H3 hx hp=>?_) (λH3 hp=>?_)
  ·obtain⟨sm,hd⟩:=hp
   rw[kN]at hx
   obtain⟨n,hn',rfl⟩:=mF.mp hx
   have hi:i<ns.length:=(hG.mp hn').1
   have b:=hb n (mG hn')
   have s9:(99999:Nat)<sizeLine:=by decide
   refine⟨_,rfl,n,rfl,b.1,b.2,_,hd,by rw[hC,mS];omega,λb o e=>?_,?_⟩
   ·rw[qD (qI e nD)]
    exact sm _ _ e
   ·rw[qH,List.replicate_succ',kU]
    rfl
  ·obtain⟨sm,hd⟩:=hp
   refine⟨D,_,rfl,SqL.of hd,?_⟩
   rw[show(List.replicate (ns.map V.int).length true).all id=true by simp]
   exact q H3 sm
noncomputable def spCp:Sp:=λvs H Q _=>∃b p:Int,vs=[.int b,.int p]∧0≤b∧b≤4∧0≤p∧p≤3∧Q (.int ((b-1)*p)) H
theorem uK(T:Txt K mg t)(S:Fns K t):S.closed_pages.Ok0 P w mg base 1 spCp:=by
 refine S.closed_pages.F.ok0 q5L λcdv A _ s H vs Q E hr h=>?_
 ·obtain⟨b,p,rfl,b0,b4,p0,p3,q⟩:=h
  refine⟨_,(qE (qL (qN yB (qN jR (pv 0) qG) (pv 1)))),?_⟩
  try dsimp-beta-proj-iota-zeta-eta only[wishK,cxK]
  exact⟨_,rfl,_,_,rfl,rfl,_,rfl,_,_,rfl,rfl,.inr ⟨by omega,by omega⟩,q⟩
noncomputable def spCk:Sp:=λvs H Q _=>∃b p n:Int,vs=[.int b,.int p,.int n]∧0≤b∧b≤4∧0≤p∧p≤3∧n≤(b-1)*p+6∧Q .non H
theorem q5S(T:Txt K mg t)(S:Fns K t):S.check_length.Ok0 P w mg base 2 spCk:=by
 refine S.check_length.F.ok0 q5M λcdv A _ s H vs Q E hr h=>?_
 ·obtain⟨b,p,n,rfl,b0,b4,p0,p3,hn,q⟩:=h
  refine⟨_,(qE (jB (qS q8H (pv 2) (qN yI (qM (uK T S).mono hr rfl T.mg_closed_pages T.kp_closed_pages S.closed_pages.b .nil qK (qA (pv 0) (qA (pv 1) qC))) qG) (qU _)) (qE qZ) qQ)),?_⟩
  try dsimp-beta-proj-iota-zeta-eta only[wishK,cxK]
  refine⟨_,rfl,_,rfl,_,rfl,b,p,rfl,b0,b4,p0,p3,_,_,rfl,rfl,_,_,rfl,rfl,_,rfl,?_⟩
  rw[hV (show ¬n>(b-1)*p+6 by omega)]
  exact iteF q
noncomputable def spCu(K:W.Frag):Sp:=λvs H Q _=>∃b p:Int,∃l,∃ns M:List Int,vs=[.int b,.int p,.ref l]∧0≤b∧b≤4∧0≤p∧p≤3∧H l=some (.lst (ns.map V.int))∧ns.length≤100∧(∀x∈ns,x∈M)∧(M.length:Int)≤(b-1)*p-2∧∀H',Same H H'→Q .non H'
theorem q5T(T:Txt K mg t)(S:Fns K t):S.check_unlike.Ok0 P w mg base 2 (spCu K):=by
 refine S.check_unlike.F.ok0 q5N λcdv A _ s H vs Q E hr h=>?_
 ·obtain⟨b,p,l,ns,M,rfl,b0,b4,p0,p3,hl,hn,sb,hM,q⟩:=h
  refine⟨_,(qE (jB (qS q8H (qW qEF (by rfl) T.b_len m7 (qA (q31 (qEE rfl) (by rfl) T.b_set (by kernel_rfl) (qA (pv 2) qC)) qC)) (qN jR (qM (uK T S).mono hr rfl T.mg_closed_pages T.kp_closed_pages S.closed_pages.b .nil qK (qA (pv 0) (qA (pv 1) qC))) qG) (qU _)) (qE qZ) qQ)),?_⟩
  try dsimp-beta-proj-iota-zeta-eta only[wishK,cxK]
  refine⟨_,rfl,l,ns,rfl,SqL.of hl,by omega,λSf N nd mm sA H1 nA sS hA=>?_⟩
  have lN:N.length≤M.length:=q6U nd λx hx=>sb x ((mm x).mp hx)
  have lN2:N.length≤ns.length:=q6U nd λx hx=>(mm x).mp hx
  refine⟨sA,Sf,_,rfl,hA,by omega,_,rfl,_,rfl,b,p,rfl,b0,b4,p0,p3,_,_,rfl,rfl,_,_,rfl,rfl,_,rfl,?_⟩
  rw[hV (show ¬(N.length:Int)>(b-1)*p-2 by omega)]
  exact iteF (q H1 sS)
structure Rc(B P:Nat)(ns M:List Int):Prop where
 b1:2≤B
 b2:B≤4
 p1:1≤P
 p2:P≤3
 c3:3≤(B-1)*P
 sh:∀n∈ns,0≤n∧n<64
 ln:ns.length≤(B-1)*P+6
 un:∀x∈ns,x∈M
 lM:M.length+2≤(B-1)*P
theorem Rc.cl{B P:Nat}{ns M:List Int}(h:Rc B P ns M):((B:Int)-1)*(P:Int)=(((B-1)*P:Nat):Int):=by
 have:=h.b1
 rw[Int.natCast_mul,Int.natCast_sub (by omega)]
 rfl
theorem Rc.c9{B P:Nat}{ns M:List Int}(h:Rc B P ns M):(B-1)*P≤9:=Nat.mul_le_mul (show B-1≤3 by have:=h.b2;omega) h.p2
noncomputable def qLM(K:W.Frag):Sp:=λvs H Q _=>∃B P:Nat,∃l,∃ns M:List Int,vs=[.int (B:Int),.int (P:Int),.ref l]∧H l=some (.lst (ns.map V.int))∧Rc B P ns M∧∀H',Same H H'→Q .non H'
theorem q8B(T:Txt K mg t)(S:Fns K t):S.check_race.Ok0 P w mg base 5 (qLM K):=by
 refine S.check_race.F.ok0 q84 λcdv A _ s H vs Q E hr h=>?_
 ·obtain⟨B,P,l,ns,M,rfl,hl,rc,q⟩:=h
  have b1:=rc.b1
  have b2:=rc.b2
  have p1:=rc.p1
  have p2:=rc.p2
  have c3:=rc.c3
  have c9:=rc.c9
  have ln:=rc.ln
  have lM:=rc.lM
  refine⟨_,(qB (jB (PW.pt (qAF (yL (jW (qM (jD T S).mono hr rfl T.mg_is_within T.kp_is_within S.is_within.b .nil qK (qA (pv 0) (qA qG (qA qG qC)))))) (qBU (yL (jW (qM (jD T S).mono hr rfl T.mg_is_within T.kp_is_within S.is_within.b .nil qK (qA (pv 1) (qA qG (qA qG qC))))))))) (qE qZ) qQ) (qB (jB (qS zZ (qM (uK T S).mono hr rfl T.mg_closed_pages T.kp_closed_pages S.closed_pages.b .nil qK (qA (pv 0) (qA (pv 1) qC))) qG (qU _)) (qE qZ) qQ) (qB (jB (yL (jW (qM (qEO T S).mono hr rfl T.mg_is_row T.kp_is_row S.is_row.b .nil qK (qA (pv 2) qC)))) (qE qZ) qQ) (qB (jA (qM (q5S T S).mono hr rfl T.mg_check_length T.kp_check_length S.check_length.b .nil qK (qA (pv 0) (qA (pv 1) (qA (qW j8 (by rfl) T.b_len m7 (qA (pv 2) qC)) qC))))) (qE (jA (qM (q5T T S).mono hr rfl T.mg_check_unlike T.kp_check_unlike S.check_unlike.b .nil qK (qA (pv 0) (qA (pv 1) (qA (pv 2) qC)))))))))),?_⟩
  try dsimp-beta-proj-iota-zeta-eta only[wishK,cxK]
  refine⟨_,rfl,.int _,2,4,rfl,.int _,?_⟩
  rw[qBL (show(2:Int)≤(B:Int) by omega) (show(B:Int)≤4 by omega)]
  refine⟨_,rfl,iteF ⟨_,rfl,.int _,1,3,rfl,.int _,?_⟩⟩
  rw[qBL (show(1:Int)≤(P:Int) by omega) (show(P:Int)≤3 by omega)]
  refine⟨_,rfl,iteF ?_⟩
  refine⟨_,rfl,_,rfl,(B:Int),(P:Int),rfl,by omega,by omega,by omega,by omega,_,_,rfl,rfl,_,rfl,?_⟩
  rw[rc.cl,hV (show ¬(((B-1)*P:Nat):Int)<3 by omega)]
  refine iteF ⟨_,rfl,l,ns,rfl,hl,by omega,rc.sh,λH1 s1=>⟨_,rfl,iteF ?_⟩⟩
  refine⟨_,rfl,_,rfl,_,rfl,l,_,rfl,.inl (SqL.of (s1 _ _ hl)),(B:Int),(P:Int),_,rfl,by omega,by omega,by omega,by omega,?_,?_⟩
  ·rw[rc.cl,hC]
   omega
  refine⟨_,rfl,_,rfl,_,rfl,(B:Int),(P:Int),l,ns,M,rfl,by omega,by omega,by omega,by omega,s1 _ _ hl,by omega,rc.un,?_,λH2 s2=>q H2 (s1.trans s2)⟩
  rw[rc.cl]
  omega
noncomputable def spCi(K:W.Frag):Sp:=λvs H Q _=>∃l ps F,∃pl:List Pp,vs=[.ref l]∧H l=some (.lst ps)∧Paired (PapA H F) ps pl∧pl.length≤100∧∀c H',Same H H'→H c=none→H' c=some (.lst ((chN pl).map V.int))→Q (.ref c) H'
theorem qA9(T:Txt K mg t)(S:Fns K t):S.chosen_in.Ok0 P w mg base 1 (spCi K):=by
 refine S.chosen_in.F.ok0 q9X λcdv A _ s H vs Q E hr h=>?_
 ·obtain⟨l,ps,F,pl,rfl,hl,pr,hn,q⟩:=h
  have s9:(99999:Nat)<sizeLine:=by decide
  refine⟨_,(qE (qL (yH ["paper"] [] rfl (jP (pv 0)) (λ_ _ _ _ _=>(qX (i:=0) (show List.Nodup (["paper"]:List Str)from by decide) rfl (Or.inl rfl))) (λ_ _ _ _ _=>uW) (λ_ _ _ _ _=>(qY (q4D (K:=K) rfl) (pv 0) qG (λ_ _=>rfl))) (by kernel_rfl) (jM (by decide))))),?_⟩
  try dsimp-beta-proj-iota-zeta-eta only[wishK,cxK]
  refine⟨_,rfl,l,rfl,⟨_,SqL.of hl⟩,λD H2 nD s2 hD=>?_⟩
  refine zI (K:=K) (xs:=ps) (D:=D) (k:=0) (λi H3=>Same H H3∧H3 D=some (.lst ((chN (pl.take i)).map V.int))) ⟨s2,hD⟩ (λi H3 hp=>SqL.of (hp.1 _ _ hl)) (λi x H3 hx hp=>?_) (λH3 hp=>?_)
  ·obtain⟨sm,hd⟩:=hp
   obtain⟨p,hO,pa,l1,l2,us,rs,rfl,a1,_⟩:=Paired.at pr hx
   obtain⟨hi,rfl⟩:=hG.mp hO
   refine⟨_,rfl,pa,_,2,_,rfl,rfl,SqT.of (sm _ _ a1),rfl,_,hd,by unfold chN;rw[hC,hC,gA];omega,λb o e=>?_,?_⟩
   ·rw[qD (qI e nD)]
    exact sm _ _ e
   ·rw[qH,←mB hi]
    unfold chN
    rw[kU,kU]
    rfl
  ·obtain⟨sm,hd⟩:=hp
   rw[pr.len,mZ]at hd
   exact q D H3 sm nD hd
theorem qHX{pl:List Pp}:(pl.map λp=>((p.k:Nat):Int)).sum=((mvN pl:Nat):Int):=by
 unfold mvN
 induction pl with
 |nil=>rfl
 |cons p pl ih=>rw[mJ,mJ,gY,gY,ih,Int.natCast_add]
noncomputable def spPm(K:W.Frag):Sp:=λvs H Q _=>∃l ps F,∃pl:List Pp,vs=[.ref l]∧H l=some (.lst ps)∧Paired (PapA H F) ps pl∧pl.length≤100∧∀H',Same H H'→Q (.int (mvN pl:Nat)) H'
theorem q7R(T:Txt K mg t)(S:Fns K t):S.pages_moved.Ok0 P w mg base 1 (spPm K):=by
 refine S.pages_moved.F.ok0 q78 λcdv A _ s H vs Q E hr h=>?_
 ·obtain⟨l,ps,F,pl,rfl,hl,pr,hn,q⟩:=h
  have s9:(99999:Nat)<sizeLine:=by decide
  refine⟨_,(qE (qL (qW (qE3 rfl) (by rfl) T.b_sum (by kernel_rfl) (qA (yH ["paper"] [] rfl (jP (pv 0)) (λ_ _ _ _ _=>(qX (i:=0) (show List.Nodup (["paper"]:List Str)from by decide) rfl (Or.inl rfl))) (λ_ _ _ _ _=>uW) (λ_ _ _ _ _=>(qW (q0A (K:=K) rfl) (by rfl) T.b_len m7 (qA (qY (q4D (K:=K) rfl) (pv 0) qG (λ_ _=>rfl)) qC))) (by kernel_rfl) (jM (by decide))) qC)))),?_⟩
  try dsimp-beta-proj-iota-zeta-eta only[wishK,cxK]
  refine⟨_,rfl,l,rfl,⟨_,SqL.of hl⟩,λD H2 nD s2 hD=>?_⟩
  refine zI (K:=K) (xs:=ps) (D:=D) (k:=0) (λi H3=>Same H H3∧H3 D=some (.lst (((pl.take i).map λp=>((p.k:Nat):Int)).map V.int))) ⟨s2,hD⟩ (λi H3 hp=>SqL.of (hp.1 _ _ hl)) (λi x H3 hx hp=>?_) (λH3 hp=>?_)
  ·obtain⟨sm,hd⟩:=hp
   obtain⟨p,hO,pa,l1,l2,us,rs,rfl,a1,_,_,a2,a3,_⟩:=Paired.at pr hx
   obtain⟨hi,rfl⟩:=hG.mp hO
   refine⟨_,rfl,pa,_,3,_,rfl,rfl,SqT.of (sm _ _ a1),rfl,l2,us,rfl,.inl (SqL.of (sm _ _ a2)),_,hd,by rw[hC,hC,gA];omega,λb o e=>?_,?_⟩
   ·rw[qD (qI e nD)]
    exact sm _ _ e
   ·rw[qH,←mB hi,kU,kU,a3]
    rfl
  ·obtain⟨sm,hd⟩:=hp
   rw[pr.len,mZ]at hd
   refine⟨D,_,rfl,SqL.of hd,?_⟩
   rw[qHX]
   exact q H3 sm
noncomputable def spOc(K:W.Frag):Sp:=λvs H Q _=>∃l ps F,∃pl:List Pp,vs=[.ref l]∧H l=some (.lst ps)∧Paired (PapA H F) ps pl∧pl.length≤100∧∀o c H',Same H H'→H c=none→H' c=some (.lst ((chN pl).map V.int))→H' o=some (.tup [.int (mvN pl:Nat),.ref c])→Q (.ref o) H'
theorem PapA.same{H H':Hp}{F:List Addr}{ps:List V}{pl:List Pp}(s:Same H H')(h:Paired (PapA H F) ps pl):Paired (PapA H' F) ps pl:=Paired.mapP h λ_ _ z=>z.keep (G:=[]) (Keep.same s) (by simp)
theorem q8C(T:Txt K mg t)(S:Fns K t):S.outcome_of.Ok0 P w mg base 2 (spOc K):=by
 refine S.outcome_of.F.ok0 q85 λcdv A _ s H vs Q E hr h=>?_
 ·obtain⟨l,ps,F,pl,rfl,hl,pr,hn,q⟩:=h
  refine⟨_,(qE (qL (yP (qA (qM (q7R T S).mono hr rfl T.mg_pages_moved T.kp_pages_moved S.pages_moved.b .nil qK (qA (pv 0) qC)) (qA (qM (qA9 T S).mono hr rfl T.mg_chosen_in T.kp_chosen_in S.chosen_in.b .nil qK (qA (pv 0) qC)) qC))))),?_⟩
  try dsimp-beta-proj-iota-zeta-eta only[wishK,cxK]
  refine⟨_,rfl,l,ps,F,pl,rfl,hl,pr,hn,λH1 s1=>?_⟩
  refine⟨_,rfl,l,ps,F,pl,rfl,s1 _ _ hl,PapA.same s1 pr,hn,λc H2 s2 nc hc=>?_⟩
  exact⟨sz2,λo H3 n3 s3 h3=>q o c H3 ((s1.trans s2).trans s3) (Same.free s1 nc) (s3 _ _ hc) h3⟩
theorem qLN{H:Hp}{bl pg mo:Int}{Q:Addr→Hp→Prop}{E:XK}(b1:2≤bl)(b2:bl≤16)(p1:1≤pg)(p2:pg≤16)(m1:0≤mo)(m2:mo≤1000000)
 (q:∀x a H',ChipAt t.C_Chip H' x a (CM.new bl pg mo [])→Same H H'→(∀b∈a.li::foot x a,H b=none)→Q x H') (x dx:Addr) (nx:H x=none) (ndx:H dx=none) (ne:dx≠x):
 spMk t [.ref x,.int bl,.int pg,.int mo,.non] (upd (upd H dx (.own x)) x (.ins t.C_Chip dx [])) (λv H2=>v=.non∧Q x H2) E:=by
 have s0:Same H (upd (upd H dx (.own x)) x (.ins t.C_Chip dx [])):=λb o e=>by rw[qD (qI e nx),qD (qI e ndx)];exact e
 refine⟨x,dx,bl,pg,mo,rfl,qH,b1,b2,p1,p2,m1,m2,λa H' hc fr u=>⟨rfl,q x a H' hc (λb o e=>u b o (qI e nx) (s0 b o e)) λb hb=>?_⟩⟩
 have hb:b=x∨b∈[a.li,a.bo,a.cl,a.dc,a.br,a.rc]:=by
  simp[foot]at hb ⊢
  rcases hb with rfl|rfl|rfl|rfl|rfl|rfl|rfl<;>simp
 rcases hb with rfl|hb
 ·exact nx
 ·exact s0.free (fr _ hb)
theorem qGL{B P:Nat}(b2:B≤16)(p1:1≤P)(p2:P≤16):QS (bk0 B P):=by
 have rep:∀b,(List.replicate B (0:Int)).getD b 0=0:=λb=>by
  rw[hU,gE]
  split<;>rfl
 exact⟨qK1 b2 p1 p2,λb hb=>rep b⟩
theorem rep0{B b:Nat}:(List.replicate B (0:Int)).getD b 0=0:=by
 rw[hU,gE]
 split<;>rfl
theorem q7S{α β:Type}{F:α→β→Prop}:∀{a:List α} {b:List β} {c:List α} {d:List β},Paired F a b→Paired F c d→Paired F (a++c) (b++d)
 |_,_,_,_,.nil,h=>h
 |_,_,_,_,.cons e r,h=>.cons e (q7S r h)
theorem qHY{s:RS}{g:Rl}{n:Int}:(stp s g n).2.2.length≤1:=by
 unfold stp
 split
 ·exact mN _
 ·exact kM _
noncomputable def RT2(t:Adr)(r:Addr)(H H':Hp):Prop:=∀b o,b≠t.T_Plain_free→b≠r→H b=some o→H' b=some o
theorem RT2.keep{H Hi Hj:Hp}{r:Addr}{F:List Addr}(h:RT2 t r H Hi)(k:Keep F Hi Hj)(f:∀b∈F,b=t.T_Plain_free∨b=r∨H b=none):RT2 t r H Hj:=λb o nb nr e=>k.k b o (λz=>by
 rcases f b z with z|z|z
 ·exact nb z
 ·exact nr z
 ·rw[z]at e;cases e) (h b o nb nr e)
structure Ruo(t:Adr)(H:Hp)(r:Addr)(rl:List Addr)(g:Rl):Prop where
 ru:RuX t H r rl g
 nr:r≠t.T_Plain_free
 nl:t.T_Plain_free∉rl
 ex:∀b∈rl,∃o,H b=some o∧∀C d fs,o=.ins C d fs→fs=[]
noncomputable def spPr(t:Adr):Sp:=λvs H Q _=>∃B P:Nat,∃l r rl g,∃ns M:List Int,vs=[.int (B:Int),.int (P:Int),.ref l,.ref r]∧H l=some (.lst (ns.map V.int))∧Rc B P ns M∧Ruo t H r rl g∧TbF t H∧
 ∀pp ps F H',RT2 t r H H'→TbF t H'→RuX t H' r rl (runS (ini B P) g ns).2→H pp=none→H' pp=some (.lst ps)→Paired (PapA H' F) ps (runS (ini B P) g ns).1→(runS (ini B P) g ns).1.length≤20→Q (.ref pp) H'
theorem q4K(T:Txt K mg t)(S:Fns K t)(B:BmIn base mg):S.papers_of_race.Ok0 P w mg base 18 (spPr t):=by
 refine S.papers_of_race.F.ok0 yY λcdv A _ s H vs Q E hr h=>?_
 ·obtain⟨B0,P1,l,r,rl,g,ns,M,rfl,hl,rc,ro,tb,q⟩:=h
  have b1:=rc.b1
  have b2:=rc.b2
  have p1:=rc.p1
  have p2:=rc.p2
  have c3:=rc.c3
  have c9:=rc.c9
  have ln:=rc.ln
  have lM:=rc.lM
  obtain⟨sh,esh⟩:∃sh,sh=(B0-1)*P1:=⟨_,rfl⟩
  have ecl:=rc.cl
  rw[←esh]at c3 c9 ln lM ecl
  refine⟨_,(qB (qV (i:=4) yY.nd rfl (Or.inl rfl) (vI T.mk_Terms (q86 T S).mono hr rfl T.mg_Terms S.b_Terms_init_2 S.v_Terms_init_2 qK (qA (pv 0) (qA (pv 1) (qA qG (qA (qN jR (qM (uK T S).mono hr rfl T.mg_closed_pages T.kp_closed_pages S.closed_pages.b .nil qK (qA (pv 0) (qA (pv 1) qC))) qG) qC)))))) (qB (qV (i:=5) yY.nd rfl (Or.inl rfl) (vI T.mk_Store (q8A T S).mono hr rfl T.mg_Store S.Store_init.b .nil qK (qA (vI T.mk_Chip (qA2 T S).mono hr rfl T.mg_Chip S.b_Chip_init_2 S.v_Chip_init_2 qK (qA (pv 0) (qA (pv 1) qC))) (qA (pv 4) (qA (pv 3) qC))))) (qB (q06 gR rfl (jP (pv 2)) (qX (i:=6) yY.nd rfl (Or.inl rfl)) (qE (jA (qT (pv 5) T.cl_Store T.m_Store_write (q7Q T S B).mono hr S.Plain_write.b .nil qK (qA (pv 6) (qA qG qC)))))) (qE (qL (qJ (pv 5) rfl)))))),?_⟩
  try dsimp-beta-proj-iota-zeta-eta only[wishK,cxK]
  refine⟨_,rfl,_,rfl,_,rfl,_,rfl,(B0:Int),(P1:Int),rfl,by omega,by omega,by omega,by omega,_,_,rfl,rfl,?_⟩
  dsimp only[tNil,List.cons_append,List.nil_append]
  rw[ecl]
  refine qLA (by omega) (by omega) (by omega) (by omega) (by decide) (by decide) (by omega) (by
   rw[Int.sub_zero,ecl]
   exact dD _) (by decide) (by omega) (by decide) (by decide) ?_
  intro tm td H1 s1 htm
  refine⟨_,rfl,_,rfl,?_⟩
  dsimp only[tNil,List.cons_append,List.nil_append]
  refine qLN (by omega) (by omega) (by omega) (by omega) (by decide) (by decide) ?_
  refine λch ca H8 hc8 sC fC=>?_
  have s08:=s1.trans sC
  have htm8:=sC _ _ htm
  have tb8:TbF t H8:=tb.same s08
  refine⟨_,rfl,_,rfl,?_⟩
  refine λsA sd nA nsd nn=>?_
  have sM:Same H8 (upd (upd H8 sd (.own sA)) sA (.ins t.C_Store sd [])):=q9F nA nsd
  refine⟨sA,sd,tm,td,ch,ca,_,_,_,_,_,_,B0,P1,rfl,qH,sM _ _ htm8,hc8.same sM,rfl,rfl,by omega,tb8.same sM,λkb pp H9 st9 hp9 npp fk off up=>⟨rfl,?_⟩⟩
  have s89:Same H8 H9:=λb o e=>up b o (qI e nA) (sM b o e)
  have s09:=s08.trans s89
  obtain⟨x,hx⟩:∃x:Sto,x=⟨sA,sd,tm,td,ch,ca,kb,.ref r,.ref pp⟩:=⟨_,rfl⟩
  have frX:∀b∈t.T_Plain_free::sf x,b=t.T_Plain_free∨H b=none:=by
   intro b hb
   have hb:b=t.T_Plain_free∨b∈foot ch ca∨b∈bf kb:=by rw[hx]at hb;simpa[sf]using hb
   rcases hb with hb|hb|hb
   ·exact .inl hb
   ·exact .inr (Same.free s1 (fC b (kE _ hb)))
   ·exact .inr (Same.free s08 (Same.free sM (fk b hb)))
  have frp:H pp=none:=Same.free s08 (Same.free sM npp)
  have frsA:H sA=none:=Same.free s08 nA
  have frW:∀b∈wrF t x r pp,b=t.T_Plain_free∨b=r∨H b=none:=λb hb=>by
   rcases kI.mp hb with e|hb
   ·exact .inr (.inr (by rw[e];exact frp))
   ·rcases kI.mp hb with e|hb
    ·exact .inr (.inl e)
    ·exact(frX b hb).imp id .inr
  obtain⟨Cr,dr,fr,er⟩:=ro.ru.ins
  have erl:∀b∈rl,∃o,H b=some o:=λb hb=>(ro.ex b hb).imp λ_ z=>z.1
  have tmr:tm≠r:=λz=>by
   have hr1:=ro.ru.keep (Keep.same s1) (F:=[]) (by simp) (by simp)
   obtain⟨C,d,fs,a,b⟩:=hr1.ins'
   rw[←z,htm]at a
   injection a with a
   injection a with _ _ a
   rw[←a]at b
   exact absurd (show(6:Nat)≤2 from b) (by decide)
  have tml:tm∉rl:=λz=>by
   obtain⟨o,e,n⟩:=ro.ex _ z
   have:=s1 _ _ e
   rw[htm]at this
   have:=n _ _ _ (kF this).symm
   cases this
  have offX:Off t x r rl:=by
   have key:∀y,(y=t.T_Plain_free∨H y=none)→y≠r∧y∉rl:=λy hy=>by
    rcases hy with e|e
    ·rw[e]
     exact⟨λz=>ro.nr z.symm,ro.nl⟩
    ·exact⟨λz=>(by rw[z,er]at e;cases e),λz=>(by obtain⟨o,e1⟩:=erl _ z;rw[e]at e1;cases e1)⟩
   intro y hy
   rcases gF.mp hy with hy|hy
   ·have hy:y=sA∨y=tm:=by rw[hx]at hy;simpa using hy
    rcases hy with e|e
    ·exact key y (.inr (by rw[e];exact frsA))
    ·rw[e]
     exact⟨tmr,tml⟩
   ·rcases kI.mp hy with e|hy
    ·rw[hx]at e
     exact key y (.inr (by rw[e];exact Same.free s1 (fC _ (by simp))))
    ·exact key y (frX y hy)
  have eT:((B0:Nat):Int).toNat=B0:=mH B0
  have qs0:QS (bk0 B0 P1):=qGL (by omega) p1 (by omega)
  have rm0:(1+0)*P1≤rm B0 P1 (List.replicate B0 0):=by
   have:=q9L (L:=List.range B0) (f:=clr1 P1 (List.replicate B0 0)) (k:=P1) λb _=>by
    unfold clr1
    rw[rep0]
    exact kM _
   rw[mR]at this
   exact mD (gM P1 (by omega)) this
  have nok:(CM.new ((B0:Nat):Int) (P1:Int) 1000000 []).Ok:=qJF (by omega) (by omega) (by omega) (by omega) (λb v e=>by cases e)
  have j0:JS t H9 x 64 ((sh:Int)-2) 0 (.int 1000000) (CM.new ((B0:Nat):Int) (P1:Int) 1000000 []) (bk0 B0 P1):=by
   refine⟨by rw[hx];exact st9,⟨nok,qs0.ok,rfl,rfl⟩,?_,λb=>rfl,rfl,rfl,qs0,λb d hb hd pb=>?_,λb f hb hf hfP=>?_,λn p h=>absurd h (by simp[bk0]),λy hy=>absurd hy (by simp[bk0]),by simp[bk0],λb=>?_,λb=>?_,by show(1:Int)≤1;decide⟩
   ·show List.replicate (((B0:Nat):Int)).toNat false=_
    rw[eT]
    rfl
   ·unfold jX at pb
    rw[show(bk0 B0 P1).fi=List.replicate B0 0 from rfl,rep0]at pb
    simp at pb
   ·show(List.replicate _ V.non).getD _ .non=.non
    exact rep8
   ·show 0≤(List.replicate _ (0:Int)).getD b 0∧(List.replicate _ (0:Int)).getD b 0≤_
    rw[rep0]
    exact⟨dD _,dD _⟩
   ·show 0≤(List.replicate _ (0:Int)).getD b 0∧(List.replicate _ (0:Int)).getD b 0<1
    rw[rep0]
    exact⟨dD _,by decide⟩
  have ei:(⟨bk0 B0 P1,(CM.new ((B0:Nat):Int) (P1:Int) 1000000 []).cl⟩:RS)=ini B0 P1:=by
   show(⟨bk0 B0 P1,List.replicate (((B0:Nat):Int)).toNat 0⟩:RS)=_
   rw[eT]
   rfl
  have hl9:=s09 _ _ hl
  have lnl:l≠t.T_Plain_free:=λz=>by
   obtain⟨pt,hT,_⟩:=tb
   rw[z,hT]at hl
   cases hl
  have lnr:l≠r:=λz=>by rw[z,er]at hl;cases hl
  have rc':=rc
  have off':pp∉t.T_Plain_free::sf x:=by rw[hx];exact off
  have exs:x.s=sA:=by rw[hx]
  have exp:x.pa=.ref pp:=by rw[hx]
  have exr:x.ru=.ref r:=by rw[hx]
  refine⟨_,rfl,l,rfl,⟨_,SqL.of hl9⟩,?_⟩
  refine vL (K:=K) (xs:=ns.map V.int) (λi σ' H'=>∃y6 m q' g' ps pl,σ'=[some (.int (B0:Int)),some (.int (P1:Int)),some (.ref l),some (.ref r),some (.ref tm),some (.ref sA),y6]∧JS t H' x 64 ((sh:Int)-2) 0 (.int 1000000) m q'∧RuX t H' r rl g'∧H' pp=some (.lst ps)∧Paired (PapA H' (wrF t x r pp)) ps pl∧pl.length≤i∧m.rc.length≤62*i∧q'.B=B0∧q'.P=P1∧(1+0)*P1≤rm B0 P1 q'.fi∧(∀y∈q'.V,y.1∈M)∧RT2 t r H H'∧runS (ini B0 P1) g ns=(pl++(runS ⟨q',m.cl⟩ g' (ns.drop i)).1,(runS ⟨q',m.cl⟩ g' (ns.drop i)).2)) ⟨_,_,bk0 B0 P1,g,[],[],rfl,j0,ro.ru.keep (Keep.same s09) (F:=[]) (by simp) (by simp),hp9,.nil,mN _,mN _,rfl,rfl,rm0,λy hy=>absurd hy (by simp[bk0]),λb o _ _ e=>s09 b o e,by rw[ei];rfl⟩ (λi σ' H' hi hp=>?_) (λi v σ' H' hv hp=>?_) (λσ' H' hp=>?_)
  ·obtain⟨y6,m,q',g',ps,pl,rfl,j,hR,hpp,pr,lp,lr,eB,eP,rest,nms,rt,er'⟩:=hp
   exact SqL.of (rt _ _ lnl lnr hl)
  ·obtain⟨y6,m,q',g',ps,pl,rfl,j,hR,hpp,pr,lp,lr,eB,eP,rest,nms,rt,er'⟩:=hp
   rw[kN]at hv
   obtain⟨n,hn',rfl⟩:=mF.mp hv
   obtain⟨hi,ekv⟩:=hG.mp hn'
   have nm:=mG hn'
   have nb:=rc.sh n nm
   have nM:=rc.un n nm
   have lV:q'.V.length≤M.length:=by
    have:=q6U (l:=q'.V.map (·.1)) (m:=M) j.qs.ok.nd λz hz=>by
     obtain⟨y,hy,rfl⟩:=kX.mp hz
     exact nms y hy
    rw[hC]at this
    exact this
   have lps:=pr.len
   have mr:MR t H' x 64 ((sh:Int)-2) 0 (.int 1000000) m q' r rl g' pp ps:=⟨j,exr,hR,offX,exp,hpp,off',⟨λz=>(by rw[z,er]at frp;cases frp),λz=>(by obtain⟨o,e1⟩:=erl _ z;rw[frp]at e1;cases e1)⟩,by omega,by omega,by omega⟩
   have o5:=j.st.o
   rw[exs]at o5
   refine⟨_,rfl,sA,x.sd,_,rfl,o5,rfl,_,rfl,x,64,(sh:Int)-2,.int 1000000,m,q',r,rl,g',pp,ps,n,0,by rw[exs];rfl,mr,by rw[eB,eP];exact rest,?_,by decide,qBL nb.1 (by omega),qBL (by decide) (by decide),?_,λp m' q2 nv H2 a=>?_⟩
   ·rw[eB,eP,show B0-(1+0)=B0-1 by omega,←esh]
    omega
   ·rintro⟨h1,h2⟩
    have nin:n∉hdN q'.V:=of_decide_eq_false h1
    have nin2:n∉q'.V.map (·.1):=λz=>nin (m9.mpr ⟨z,hI (show n≠64 by omega)⟩)
    have l2:=q6U (l:=n::q'.V.map (·.1)) (m:=M) (mQ.mpr ⟨nin2,j.qs.ok.nd⟩) λz hz=>by
     rcases kI.mp hz with e|hz
     ·rw[e];exact nM
     ·obtain⟨y,hy,rfl⟩:=kX.mp hz
      exact nms y hy
    rw[mP,hC]at l2
    have l3:(hdN q'.V).length≤q'.V.length:=by
     unfold hdN
     refine mD (kY _ _) ?_
     rw[hC]
     exact kM _
    omega
   ·have e1:ns.drop i=n::ns.drop (i+1):=by rw[List.drop_eq_getElem_cons hi,ekv]
    have o1:=qHY (s:=⟨q',m.cl⟩) (g:=g') (n:=n)
    have rcE:=a.rcE
    refine⟨_,m',q2,_,ps++nv,pl++(stp ⟨q',m.cl⟩ g' n).2.2,rfl,a.j,a.ru,a.hp,?_,by rw[k8];omega,by omega,a.eB.trans eB,a.eP.trans eP,?_,λy hy=>?_,rt.keep a.kk frW,?_⟩
    ·exact q7S (Paired.mapP pr λ_ _ z=>z.keep a.kk λ_ h=>h) a.pa
    ·have:=a.rest
     rw[eB,eP]at this
     exact this
    ·rcases a.nm y hy with e|⟨z,hz,e⟩
     ·rw[e];exact nM
     ·rw[←e];exact nms z hz
    ·rw[er',e1,a.e]
     show(pl++((stp ⟨q',m.cl⟩ g' n).2.2++_),_)=_
     rw[List.append_assoc]
     rfl
  ·obtain⟨y6,m,q',g',ps,pl,rfl,j,hR,hpp,pr,lp,lr,eB,eP,rest,nms,rt,er'⟩:=hp
   rw[hC]at lp er'
   rw[List.drop_length]at er'
   have o5:=j.st.o
   rw[exs,exp]at o5
   refine⟨_,rfl,sA,_,x.sd,_,_,rfl,o5,T.cl_Store,T.na_Store_papers,rfl,?_⟩
   have e2:runS (ini B0 P1) g ns=(pl,g'):=by
    rw[er']
    show(pl++[],g')=_
    rw[gB]
   refine q pp ps (wrF t x r pp) H' rt j.st.tb (by rw[e2];exact hR) frp hpp (by rw[e2];exact pr) (by rw[e2];show pl.length≤20;omega)
noncomputable def OcAt(H:Hp)(v:V)(o:Nat×List Int):Prop:=∃p c,v=.ref p∧H p=some (.tup [.int (o.1:Nat),.ref c])∧H c=some (.lst (o.2.map V.int))
noncomputable def ocN(ps:List Pp):Nat×List Int:=(mvN ps,chN ps)
theorem Ruo.same{H H':Hp}{r:Addr}{rl:List Addr}{g:Rl}(h:Ruo t H r rl g)(s:Same H H'):Ruo t H' r rl g:=
 ⟨h.ru.keep (Keep.same s) (F:=[]) (by simp) (by simp),h.nr,h.nl,λb hb=>(h.ex b hb).imp λ_ z=>⟨s _ _ z.1,z.2⟩⟩
theorem RT2.same{H Hi Hj:Hp}{r:Addr}(h:RT2 t r H Hi)(s:Same Hi Hj):RT2 t r H Hj:=λb o nb nr e=>s b o (h b o nb nr e)
theorem RT2.from{H Hi Hj:Hp}{r:Addr}(h:RT2 t r Hi Hj)(s:Same H Hi):RT2 t r H Hj:=λb o nb nr e=>h b o nb nr (s b o e)
noncomputable def spMb(t:Adr):Sp:=λvs H Q _=>∃B P:Nat,∃l r rl g,∃ns M:List Int,vs=[.int (B:Int),.int (P:Int),.ref l,.ref r]∧H l=some (.lst (ns.map V.int))∧Rc B P ns M∧Ruo t H r rl g∧TbF t H∧
 ∀v H',RT2 t r H H'→TbF t H'→RuX t H' r rl (runS (ini B P) g ns).2→OcAt H' v (ocN (rnS B P g ns))→Q v H'
theorem qBO(T:Txt K mg t)(S:Fns K t)(B:BmIn base mg):S.moves_by.Ok0 P w mg base 19 (spMb t):=by
 refine S.moves_by.F.ok0 qBE λcdv A _ s H vs Q E hr h=>?_
 ·obtain⟨B0,P1,l,r,rl,g,ns,M,rfl,hl,rc,ro,tb,q⟩:=h
  refine⟨_,(qB (jA (qM (q8B T S).mono hr rfl T.mg_check_race T.kp_check_race S.check_race.b .nil qK (qA (pv 0) (qA (pv 1) (qA (pv 2) qC))))) (qE (qL (qM (q8C T S).mono hr rfl T.mg_outcome_of T.kp_outcome_of S.outcome_of.b .nil qK (qA (qM (q4K T S B).mono hr rfl T.mg_papers_of_race T.kp_papers_of_race S.papers_of_race.b .nil qK (qA (pv 0) (qA (pv 1) (qA (pv 2) (qA (pv 3) qC))))) qC))))),?_⟩
  try dsimp-beta-proj-iota-zeta-eta only[wishK,cxK]
  refine⟨_,rfl,_,rfl,_,rfl,B0,P1,l,ns,M,rfl,hl,rc,λH1 s1=>?_⟩
  refine⟨_,rfl,_,rfl,_,rfl,_,rfl,B0,P1,l,r,rl,g,ns,M,rfl,s1 _ _ hl,rc,ro.same s1,tb.same s1,λpp ps F H2 rt2 tb2 ru2 npp hpp pr l20=>?_⟩
  refine⟨pp,ps,F,_,rfl,hpp,pr,by omega,λo c H3 s3 nc hc ho=>?_⟩
  exact q _ H3 ((rt2.same s3).from s1) (tb2.same s3) (ru2.keep (Keep.same s3) (F:=[]) (by simp) (by simp)) ⟨o,c,rfl,ho,hc⟩
noncomputable def drN(ns:List Int)(k:Nat):Int:=if k<ns.length then ns.getD k 0 else if 0<ns.length then((ns.getD (k*3%ns.length) 0*69621+(30269*(k:Int)+17))%2147483629)*((ns.getD (k*3%ns.length) 0*69621+(30269*(k:Int)+17))%2147483629)%2147483579 else(30269*(k:Int)+17)*(30269*(k:Int)+17)%2147483579
noncomputable def spDr(K:W.Frag):Sp:=λvs H Q _=>∃sc ns,∃k:Nat,vs=[.ref sc,.int (k:Int)]∧SqL K H sc (ns.map V.int)∧k<100∧Q (.int (drN ns k)) H
theorem jQ(T:Txt K mg t)(S:Fns K t):S.law_drawn.Ok0 P w mg base 1 (spDr K):=by
 refine S.law_drawn.F.ok0 q1S λcdv A _ s H vs Q E hr h=>?_
 ·obtain⟨sc,ns,k,rfl,hS,hk,q⟩:=h
  refine⟨_,(qB (jB (qS zZ (pv 1) (qW j8 (by rfl) T.b_len m7 (qA (pv 0) qC)) (qU _)) (qE (qL (qY jE (pv 0) (pv 1) (λ_ _=>rfl)))) qQ) (qB (qV (i:=2) q1S.nd rfl (Or.inl rfl) (qN yI (qN yB qG (pv 1)) qG)) (qB (jB (qS q8H (qW j8 (by rfl) T.b_len m7 (qA (pv 0) qC)) qG (qU _)) (qE (qV (i:=2) q1S.nd rfl (Or.inl rfl) (qN uU (qN yI (qN yB (qY jE (pv 0) (qN uU (qN yB (pv 1) qG) (qW j8 (by rfl) T.b_len m7 (qA (pv 0) qC))) (λ_ _=>rfl)) qG) (pv 2)) qG))) qQ) (qE (qL (qN uU (qN yB (pv 2) (pv 2)) qG)))))),?_⟩
  try dsimp-beta-proj-iota-zeta-eta only[wishK,cxK]
  refine⟨_,rfl,_,rfl,sc,_,rfl,.inl hS,_,_,rfl,rfl,_,rfl,?_⟩
  unfold drN at q
  rw[hC]
  refine ite2 (λzz=>?_) (λzz=>?_)
  ·have z:k<ns.length:=by
    have:(k:Int)<(ns.length:Nat):=kP zz
    omega
   rw[kG z]at q
   refine⟨_,rfl,_,rfl,sc,_,_,.int (ns.getD k 0),rfl,rfl,hS,yC ?_,q⟩
   rw[kN,hU,hE z]
   rfl
  ·have z:¬k<ns.length:=λy=>zz (hI (by omega))
   rw[hX z]at q
   refine⟨_,rfl,_,_,rfl,rfl,.inl ⟨by decide,by decide⟩,_,_,rfl,rfl,?_⟩
   refine⟨_,rfl,sc,_,rfl,.inl hS,_,_,rfl,rfl,_,rfl,?_⟩
   rw[hC]
   refine ite2 (λzz=>?_) (λzz=>?_)
   ·have z0:0<ns.length:=by
     have:((ns.length:Nat):Int)>0:=kP zz
     omega
    rw[kG z0]at q
    have hi:k*3%ns.length<ns.length:=Nat.mod_lt _ z0
    have at1:atI (ns.map V.int) ((k:Int)*3%((ns.map V.int).length:Nat))=some (.int (ns.getD (k*3%ns.length) 0)):=by
     rw[hC,show(k:Int)*3%(ns.length:Nat)=((k*3%ns.length:Nat):Int) by rw[Int.natCast_emod,Int.natCast_mul];rfl]
     refine yC ?_
     rw[kN,hU,hE hi]
     rfl
    refine⟨_,rfl,_,rfl,_,_,rfl,rfl,.inr ⟨by decide,by decide⟩,_,rfl,sc,_,rfl,.inl hS,_,_,rfl,rfl,by rw[hC];omega,sc,_,_,.int _,rfl,rfl,hS,at1,_,_,rfl,rfl,.inr ⟨by decide,by decide⟩,_,rfl,_,_,rfl,rfl,_,_,rfl,rfl,(by show(0:Int)<2147483629;decide),?_⟩
    have m:=vT (ns.getD (k*3%ns.length) 0*69621+(30269*(k:Int)+17)) 2147483629 (by decide)
    exact⟨_,rfl,_,rfl,_,_,rfl,rfl,.inl ⟨by omega,by omega⟩,_,_,rfl,rfl,(by show(0:Int)<2147483579;decide),q⟩
   ·have z0:¬0<ns.length:=λy=>zz (hI (by omega))
    rw[hX z0]at q
    exact⟨_,rfl,_,rfl,_,_,rfl,rfl,.inl ⟨by omega,by omega⟩,_,_,rfl,rfl,(by show(0:Int)<2147483579;decide),q⟩
noncomputable def spRa(K:W.Frag):Sp:=λvs H Q _=>∃sc,∃ns:List Int,vs=[.ref sc]∧SqL K H sc (ns.map V.int)∧∀p l (B P:Nat) (row M:List Int) H',Same H H'→H' p=some (.lst [.int (B:Int),.int (P:Int),.ref l])→H' l=some (.lst (row.map V.int))→Rc B P row M→Q (.ref p) H'
theorem qBP(T:Txt K mg t)(S:Fns K t):S.law_race.Ok0 P w mg base 2 (spRa K):=by
 refine S.law_race.F.ok0 jY λcdv A _ s H vs Q E hr h=>?_
 ·obtain⟨sc,ns,rfl,hS,q⟩:=h
  have s9:(99999:Nat)<sizeLine:=by decide
  refine⟨_,(qB (qV (i:=1) jY.nd rfl (Or.inl rfl) (qN yI qG (qN uU (qM (jQ T S).mono hr rfl T.mg_law_drawn T.kp_law_drawn S.law_drawn.b .nil qK (qA (pv 0) (qA qG qC))) qG))) (qB (qV (i:=2) jY.nd rfl (Or.inl rfl) (qN yI qG (qN uU (qM (jQ T S).mono hr rfl T.mg_law_drawn T.kp_law_drawn S.law_drawn.b .nil qK (qA (pv 0) (qA qG qC))) qG))) (q48 (jB (qS zZ (qN yB (qN jR (pv 1) qG) (pv 2)) qG (qU _)) (qB (qV (i:=1) jY.nd rfl (Or.inl rfl) qG) (qE (qV (i:=2) jY.nd rfl (Or.inl rfl) qG))) qQ) (qB (qV (i:=3) jY.nd rfl (Or.inl rfl) (qN yB (qN jR (pv 1) qG) (pv 2))) (qB (qV (i:=4) jY.nd rfl (Or.inr rfl) (qN yI qG (qN yB qG (qN uU (qM (jQ T S).mono hr rfl T.mg_law_drawn T.kp_law_drawn S.law_drawn.b .nil qK (qA (pv 0) (qA qG qC))) qG)))) (qB (qV (i:=5) jY.nd rfl (Or.inr rfl) (qN yI qG (qN uU (qM (jQ T S).mono hr rfl T.mg_law_drawn T.kp_law_drawn S.law_drawn.b .nil qK (qA (pv 0) (qA qG qC))) (qN jR (pv 3) qG)))) (qB (qV (i:=6) jY.nd rfl (Or.inr rfl) (yH ["_law_script","_law_step","_law_k"] [0,4] rfl (zF rfl T.b_range (qA (pv 5) qC)) (λ_ _ _ _ _=>(qX (i:=2) (show List.Nodup (["_law_script","_law_step","_law_k"]:List Str)from by decide) rfl (Or.inl rfl))) (λ_ _ _ _ _=>uW) (λ_ _ _ _ _=>(qN uU (qN yI (qM (jQ T S).mono hr rfl T.mg_law_drawn T.kp_law_drawn S.law_drawn.b .nil qK (qA (pv 0) (qA qG qC))) (qN yB (pv 1) (pv 2))) qG)) (by kernel_rfl) (jM (by decide)))) (qB (qV (i:=7) jY.nd rfl (Or.inl rfl) (qN yI (qN yI (pv 3) qG) (qN uU (qN q1F (qM (jQ T S).mono hr rfl T.mg_law_drawn T.kp_law_drawn S.law_drawn.b .nil qK (qA (pv 0) (qA qG qC))) qG) qG))) (q48 (jB (qS u9 (qN uU (qM (jQ T S).mono hr rfl T.mg_law_drawn T.kp_law_drawn S.law_drawn.b .nil qK (qA (pv 0) (qA qG qC))) qG) qG (qU _)) (qE (qV (i:=7) jY.nd rfl (Or.inl rfl) (qN uU (qN q1F (qM (jQ T S).mono hr rfl T.mg_law_drawn T.kp_law_drawn S.law_drawn.b .nil qK (qA (pv 0) (qA qG qC))) qG) (qN yI (pv 3) qG)))) qQ) (qE (qL (jF (qA (pv 1) (qA (pv 2) (qA (yH ["_law_script","_law_unlike","_law_names","_law_k"] [0,5,6] rfl (zF rfl T.b_range (qA (pv 7) qC)) (λ_ _ _ _ _=>(qX (i:=3) (show List.Nodup (["_law_script","_law_unlike","_law_names","_law_k"]:List Str)from by decide) rfl (Or.inl rfl))) (λ_ _ _ _ _=>uW) (λ_ _ _ _ _=>(qY (vM (K:=K) rfl) (pv 2) (qN uU (qM (jQ T S).mono hr rfl T.mg_law_drawn T.kp_law_drawn S.law_drawn.b .nil qK (qA (pv 0) (qA (qN yI qG (pv 3)) qC))) (pv 1)) (λ_ _=>rfl))) (by kernel_rfl) (jM (by decide))) qC))))))))))))))),?_⟩
  try dsimp-beta-proj-iota-zeta-eta only[wishK,cxK]
  refine⟨_,rfl,sc,ns,0,rfl,hS,by decide,_,_,rfl,rfl,(by show(0:Int)<3;decide),_,_,rfl,rfl,?_⟩
  refine⟨_,rfl,sc,ns,1,rfl,hS,by decide,_,_,rfl,rfl,(by show(0:Int)<3;decide),_,_,rfl,rfl,?_⟩
  have m0:=vT (drN ns 0) 3 (by decide)
  have m1:=vT (drN ns 1) 3 (by decide)
  try dsimp only
  obtain⟨B1,eB⟩:∃n:Nat,2+drN ns 0%3=(n:Int):=⟨(2+drN ns 0%3).toNat,by omega⟩
  obtain⟨P1,eP⟩:∃n:Nat,1+drN ns 1%3=(n:Int):=⟨(1+drN ns 1%3).toNat,by omega⟩
  rw[eB,eP]
  refine⟨λσ' H'=>∃B0 P0:Nat,σ'=[some (.ref sc),some (.int (B0:Int)),some (.int (P0:Int)),none,none,none,none,none]∧H=H'∧2≤B0∧B0≤4∧1≤P0∧P0≤3∧3≤(B0-1)*P0,?_,?_⟩
  ·refine⟨_,rfl,_,_,rfl,rfl,_,rfl,_,_,rfl,rfl,.inr ⟨by omega,by omega⟩,_,_,rfl,rfl,_,rfl,?_⟩
   have ec:((B1:Int)-1)*(P1:Int)=(((B1-1)*P1:Nat):Int):=by
    rw[Int.natCast_mul,Int.natCast_sub (by omega)]
    rfl
   rw[ec]
   refine ite2 (λzz=>?_) (λzz=>?_)
   ·exact⟨3,2,rfl,rfl,by decide,by decide,by decide,by decide,by decide⟩
   ·have z:¬(((B1-1)*P1:Nat):Int)<3:=λy=>zz (hI y)
    exact⟨B1,P1,rfl,rfl,by omega,by omega,by omega,by omega,by omega⟩
  rintro σ' H' ⟨B0,P0,rfl,rfl,b1,b2,p1,p2,c3⟩
  clear m0 m1 eB eP
  obtain⟨mo,emo⟩:∃n,n=(B0-1)*P0:=⟨_,rfl⟩
  have c9:(B0-1)*P0≤9:=Nat.mul_le_mul (show B0-1≤3 by omega) p2
  have ec:((B0:Int)-1)*(P0:Int)=(mo:Int):=by
   rw[emo,Int.natCast_mul,Int.natCast_sub (by omega)]
   rfl
  rw[←emo]at c3 c9
  refine⟨_,rfl,_,_,rfl,rfl,_,rfl,_,_,rfl,rfl,.inr ⟨by omega,by omega⟩,?_⟩
  try dsimp only
  rw[ec]
  have m3:=vT (drN ns 3) 32 (by decide)
  obtain⟨e,ee⟩:∃e:Nat,drN ns 3%32=(e:Int):=⟨(drN ns 3%32).toNat,by omega⟩
  refine⟨_,rfl,sc,ns,3,rfl,hS,by decide,_,_,rfl,rfl,(by show(0:Int)<32;decide),_,_,rfl,rfl,.inl ⟨by decide,by decide⟩,_,_,rfl,rfl,?_⟩
  try dsimp only
  rw[ee]
  have m4:=vT (drN ns 4) ((mo:Int)-2) (by omega)
  obtain⟨u,eu⟩:∃u:Nat,1+drN ns 4%((mo:Int)-2)=(u:Int):=⟨(1+drN ns 4%((mo:Int)-2)).toNat,by omega⟩
  refine⟨_,rfl,sc,ns,4,rfl,hS,by decide,_,rfl,_,_,rfl,rfl,_,_,rfl,rfl,(by show(0:Int)<(mo:Int)-2;omega),_,_,rfl,rfl,?_⟩
  try dsimp only
  rw[eu]
  have u1:1≤u:=by omega
  have u3:u+2≤mo:=by omega
  obtain⟨c4,ec4⟩:∃c,c=drN ns 2:=⟨_,rfl⟩
  clear m3 ee m4 eu
  refine⟨_,rfl,_,rfl,by omega,by omega,λD H1 nD s1 hD=>?_⟩
  rw[mH]
  refine q4R (D:=D) (k:=2) (λi H2=>Same H H2∧H2 D=some (.lst (((List.range i).map (nmK c4 (1+2*(e:Int)))).map V.int))) ⟨s1,hD⟩ (λi H2 hi hp=>?_) (λH2 hp=>?_)
  ·obtain⟨sm,hd⟩:=hp
   refine⟨_,rfl,sc,ns,2,rfl,sm.seq hS,by decide,_,rfl,_,rfl,_,_,rfl,rfl,.inr ⟨by omega,by omega⟩,_,_,rfl,rfl,_,_,rfl,rfl,(by show(0:Int)<64;decide),_,hd,by rw[hC,hC,mR];omega,λb o e'=>?_,?_⟩
   ·rw[qD (qI e' nD)]
    exact sm _ _ e'
   ·rw[qH,List.range_succ,kU,kU,←ec4]
    unfold nmK
    rw[Int.zero_add]
    rfl
  obtain⟨sm,hd⟩:=hp
  have m5:=vT (drN ns 5 / 3) 6 (by decide)
  refine⟨_,rfl,_,_,rfl,rfl,_,rfl,sc,ns,5,rfl,sm.seq hS,by decide,_,_,rfl,rfl,⟨by decide,by decide⟩,_,_,rfl,rfl,(by show(0:Int)<6;decide),_,_,rfl,rfl,?_⟩
  try dsimp only
  refine⟨λσ' H'=>∃m:Nat,σ'=[some (.ref sc),some (.int (B0:Int)),some (.int (P0:Int)),some (.int (mo:Int)),some (.int (1+2*(e:Int))),some (.int (u:Int)),some (.ref D),some (.int (m:Int))]∧H2=H'∧m≤mo+6,?_,?_⟩
  ·refine⟨_,rfl,sc,ns,5,rfl,sm.seq hS,by decide,_,_,rfl,rfl,(by show(0:Int)<3;decide),rfl,_,rfl,?_⟩
   refine ite2 (λ_=>?_) (λ_=>?_)
   ·have ps:(0:Int)<(mo:Int)+7:=by omega
    have m6:=vT (drN ns 5 / 3) _ ps
    refine⟨_,rfl,sc,ns,5,rfl,sm.seq hS,by decide,_,_,rfl,rfl,⟨by decide,by decide⟩,_,rfl,_,_,rfl,rfl,_,_,rfl,rfl,ps,?_⟩
    refine⟨(drN ns 5 / 3%((mo:Int)+7)).toNat,?_,rfl,by omega⟩
    rw[show(((drN ns 5 / 3%((mo:Int)+7)).toNat:Nat):Int)=drN ns 5 / 3%((mo:Int)+7) by omega]
    rfl
   ·refine⟨((mo:Int)+1+drN ns 5 / 3%6).toNat,?_,rfl,by omega⟩
    rw[show(((((mo:Int)+1+drN ns 5 / 3%6).toNat):Nat):Int)=(mo:Int)+1+drN ns 5 / 3%6 by omega]
    rfl
  rintro σ' H3 ⟨m,rfl,rfl,hm⟩
  obtain⟨rowF,erF⟩:∃f:Nat→Int,f=λk=>nmK c4 (1+2*(e:Int)) (drN ns (6+k)%(u:Int)).toNat:=⟨_,rfl⟩
  refine⟨_,rfl,_,rfl,_,rfl,_,rfl,by omega,by omega,λD2 H3 nD2 s3 hD2=>?_⟩
  rw[mH]
  refine q4R (D:=D2) (k:=3) (λi H4=>Same H2 H4∧H4 D2=some (.lst (((List.range i).map rowF).map V.int))) ⟨s3,hD2⟩ (λi H4 hi hp=>?_) (λH4 hp=>?_)
  ·obtain⟨s4,hd4⟩:=hp
   have mu:=vT (drN ns (6+i)) (u:Int) (by omega)
   obtain⟨j,ej⟩:∃j:Nat,drN ns (6+i)%(u:Int)=(j:Int):=⟨(drN ns (6+i)%(u:Int)).toNat,by omega⟩
   have at1:atI (((List.range u).map (nmK c4 (1+2*(e:Int)))).map V.int) (drN ns (6+i)%(u:Int))=some (.int (rowF i)):=by
    rw[ej]
    refine yC ?_
    rw[kN,kN,List.getElem?_range (by omega),erF]
    dsimp only
    rw[ej,mH]
    rfl
   refine⟨_,rfl,_,rfl,_,rfl,_,_,rfl,rfl,sc,ns,6+i,by rw[Int.zero_add,Int.natCast_add];rfl,(sm.trans s4).seq hS,by omega,_,rfl,_,_,rfl,rfl,(by show(0:Int)<(u:Int);omega),D,_,_,_,rfl,rfl,SqL.of (s4 _ _ hd),at1,_,hd4,by rw[hC,hC,mR];omega,λb o e'=>?_,?_⟩
   ·rw[qD (qI e' nD2)]
    exact s4 _ _ e'
   ·rw[qH,List.range_succ,kU,kU]
    rfl
  obtain⟨s4,hd4⟩:=hp
  refine⟨sz3,λp H5 n5 s5 h5=>?_⟩
  refine q p D2 B0 P0 ((List.range m).map rowF) ((List.range u).map (nmK c4 (1+2*(e:Int)))) H5 ((sm.trans s4).trans s5) h5 (s5 _ _ hd4) ⟨b1,b2,p1,p2,by omega,λn hn=>?_,by rw[hC,mR];omega,λn hn=>?_,by rw[hC,mR];omega⟩
  ·obtain⟨k',_,rfl⟩:=kX.mp hn
   rw[erF]
   exact vT (c4+(1+2*(e:Int))*(((drN ns (6+k')%(u:Int)).toNat:Nat):Int)) 64 (by decide)
  ·obtain⟨k',_,rfl⟩:=kX.mp hn
   have mu:=vT (drN ns (6+k')) (u:Int) (by omega)
   rw[erF]
   exact kX.mpr ⟨(drN ns (6+k')%(u:Int)).toNat,mK.mpr (by omega),rfl⟩
noncomputable def d5(P:Nat)(hl tl nw:Addr)(st:Int):List (Key×V):=[(Sum.inr "pages",.int (P:Int)),(Sum.inr "held",.ref hl),(Sum.inr "times",.ref tl),(Sum.inr "newest",.ref nw),(Sum.inr "stamp",.int st)]
noncomputable def EnA(H:Hp)(v:V)(e:Int×Int):Prop:=∃p,v=.ref p∧H p=some (.tup [.int e.1,.int e.2])
structure LmAt(H:Hp)(d hl tl nw:Addr)(rs:List Addr)(P:Nat)(m:LM):Prop where
 od:H d=some (.dK (d5 P hl tl nw m.st))
 oh:H hl=some (.lst (rs.map V.ref))
 ot:H tl=some (.lst (m.tm.map V.int))
 on:H nw=some (.dK (dI m.nw))
 rw:∀(b:Nat) r,rs[b]?=some r→∃us,H r=some (.lst us)∧Paired (EnA H) us (m.row b)
 lr:rs.length=m.hd.length
 nd:rs.Nodup
 nh:hl∉rs
 nt:tl∉rs
 ht:hl≠tl
 dn:d≠nw
noncomputable abbrev lmF(d hl tl nw:Addr)(rs:List Addr):List Addr:=d::hl::tl::nw::rs
section
variable{H H':Hp}{d hl tl nw:Addr}{rs:List Addr}{Pg:Nat}{m:LM}
theorem LmAt.gP(h:LmAt H d hl tl nw rs Pg m):DGet H d (.str "pages") (some (.int (Pg:Int))):=DGet.k (k:=Sum.inr "pages") h.od
theorem LmAt.gH(h:LmAt H d hl tl nw rs Pg m):DGet H d (.str "held") (some (.ref hl)):=DGet.k (k:=Sum.inr "held") h.od
theorem LmAt.gT(h:LmAt H d hl tl nw rs Pg m):DGet H d (.str "times") (some (.ref tl)):=DGet.k (k:=Sum.inr "times") h.od
theorem LmAt.gN(h:LmAt H d hl tl nw rs Pg m):DGet H d (.str "newest") (some (.ref nw)):=DGet.k (k:=Sum.inr "newest") h.od
theorem LmAt.gS(h:LmAt H d hl tl nw rs Pg m):DGet H d (.str "stamp") (some (.int m.st)):=DGet.k (k:=Sum.inr "stamp") h.od
theorem q7T{H H':Hp}(s:Same H H'){us:List V}{L:List (Int×Int)}(h:Paired (EnA H) us L):Paired (EnA H') us L:=Paired.mapP h λ_ _ ⟨p,e,a⟩=>⟨p,e,s _ _ a⟩
theorem vR{F:List Addr}{H H':Hp}(k:Keep F H H'){us:List V}{L:List (Int×Int)}(h:Paired (EnA H) us L):Paired (EnA H') us L:=Paired.mapP h λ_ _ ⟨p,e,a⟩=>⟨p,e,k.tp _ _ a⟩
theorem LmAt.same(h:LmAt H d hl tl nw rs Pg m)(s:Same H H'):LmAt H' d hl tl nw rs Pg m:=
 { h with od:=s _ _ h.od,oh:=s _ _ h.oh,ot:=s _ _ h.ot,on:=s _ _ h.on,rw:=λb r e=>let⟨us,a,c⟩:=h.rw b r e;⟨us,s _ _ a,q7T s c⟩ }
end
noncomputable def spNe:Sp:=λvs H Q _=>∃B P:Nat,vs=[.int (B:Int),.int (P:Int)]∧B≤16∧∀d hl tl nw rs H',Same H H'→LmAt H' d hl tl nw rs P ⟨List.replicate B [],List.replicate B 0,[],0⟩→(∀b∈lmF d hl tl nw rs,H b=none)→Q (.ref d) H'
theorem qCK(T:Txt K mg t)(S:Fns K t):S.law_new.Ok0 P w mg base 1 spNe:=by
 refine S.law_new.F.ok0 qCH λcdv A _ s H vs Q E hr h=>?_
 ·obtain⟨B0,P0,rfl,b16,q⟩:=h
  have s9:(99999:Nat)<sizeLine:=by decide
  refine⟨_,(qE (qL (qGZ (q25 jO (pv 1) (q25 jO (yH ["_law_k"] [] rfl (zF rfl T.b_range (qA (pv 0) qC)) (λ_ _ _ _ _=>(qX (i:=0) (show List.Nodup (["_law_k"]:List Str)from by decide) rfl (Or.inl rfl))) (λ_ _ _ _ _=>uW) (λ_ _ _ _ _=>(jF qC)) (by kernel_rfl) (jM (by decide))) (q25 jO (qN q00 (jF (qA qG qC)) (pv 0)) (q25 jO q6G (q25 jO qG qGY))))) rfl rfl (by simp) (by decide)))),?_⟩
  try dsimp-beta-proj-iota-zeta-eta only[wishK,cxK]
  refine λd nd=>?_
  have s0:Same H (upd H d (.dK [])):=Same.upd nd
  have h0:(upd H d (.dK [])) d=_:=qH
  generalize upd H d (.dK [])=H0 at s0 h0 ⊢
  refine⟨_,rfl,_,rfl,_,rfl,by omega,by omega,λD H1 nD s1 hD=>?_⟩
  rw[mH]
  refine q4R (D:=D) (k:=0) (λi H2=>∃rs:List Addr,Same H0 H2∧H2 D=some (.lst (rs.map V.ref))∧rs.length=i∧(∀r∈rs,H2 r=some (.lst []))∧rs.Nodup∧D∉rs∧∀r∈rs,H0 r=none) ⟨[],s1,hD,rfl,by simp,by simp,by simp,by simp⟩ (λi H2 hi hp=>?_) (λH2 hp=>?_)
  ·obtain⟨rs,sm,hd,lr,hr',nd',nD',fr⟩:=hp
   refine⟨sz0,λc H4 n4 s4 h4=>⟨_,s4 _ _ hd,by rw[hC];omega,rs++[c],λb o e=>?_,?_,?_,λr hr2=>?_,?_,?_,?_⟩⟩
   ·rw[qD (qI e nD)]
    exact s4 _ _ (sm _ _ e)
   ·rw[qH,kU]
    rfl
   ·rw[k8,lr];rfl
   ·rcases gF.mp hr2 with z|z
    ·rw[qD (λy=>nD' (by rw[←y];exact z))]
     exact s4 _ _ (hr' r z)
    ·rw[kC.mp z,qD (λy=>by rw[y,hd]at n4;cases n4)]
     exact h4
   ·refine List.nodup_append.mpr ⟨nd',by simp,λa ha b hb e=>?_⟩
    rw[kC.mp hb]at e
    rw[←e,hr' a ha]at n4
    cases n4
   ·intro z
    rcases gF.mp z with z|z
    ·exact nD' z
    ·rw[←kC.mp z,hd]at n4
     cases n4
   ·intro r hr2
    rcases gF.mp hr2 with z|z
    ·exact fr r z
    ·rw[kC.mp z]
     exact Same.free sm n4
  obtain⟨rs,sm,hd,lr,hr',nd',nD',fr⟩:=hp
  refine⟨sz1,λz H5 n5 s5 h5=>⟨_,rfl,z,_,_,rfl,rfl,h5,by omega,by omega,λtl H6 n6 s6 h6=>?_⟩⟩
  rw[mH]at h6
  refine λnw nnw=>?_
  have s7:Same H6 (upd H6 nw (.dK [])):=Same.upd nnw
  have h7:(upd H6 nw (.dK [])) nw=_:=qH
  generalize upd H6 nw (.dK [])=H7 at s7 h7 ⊢
  have s27:=(s5.trans s6).trans s7
  have s07:=sm.trans s27
  have d7:=s07 _ _ h0
  have nwd:d≠nw:=qI (s6 _ _ (s5 _ _ (sm _ _ h0))) nnw
  have hd7:=s27 _ _ hd
  have ht7:=s7 _ _ h6
  refine⟨d7,[(Sum.inr "pages",.int (P0:Int)),(Sum.inr "held",.ref D),(Sum.inr "times",.ref tl),(Sum.inr "newest",.ref nw),(Sum.inr "stamp",.int 0)],rfl,by show 5≤15;decide,?_⟩
  have nl:∀{r:Addr} {xs:List V},H7 r=some (.lst xs)→r≠d:=fun {r xs} e z=>by rw[z,d7]at e;cases e
  have ntl:∀r∈rs,r≠tl:=λr hr2 z=>by
   have:=s5 _ _ (hr' r hr2)
   rw[z,n6]at this
   cases this
  refine q d D tl nw rs _ (λb o e=>?_) ⟨qH,?_,?_,?_,λb r e=>?_,?_,nd',nD',λz=>ntl _ z rfl,?_,nwd⟩ ?_
  ·rw[qD (qI e nd)]
   exact s07 _ _ (s0 _ _ e)
  ·rw[qD (nl hd7)];exact hd7
  ·rw[qD (nl ht7),ht7,List.map_replicate]
  ·rw[qD (Ne.symm nwd)];exact h7
  ·have hm:=mG e
   have h8:=s27 _ _ (hr' r hm)
   refine⟨[],by rw[qD (nl h8)];exact h8,?_⟩
   have er:LM.row ⟨List.replicate B0 [],List.replicate B0 0,[],0⟩ b=[]:=by
    show(List.replicate B0 ([]:List (Int×Int))).getD b []=[]
    rw[hU,gE]
    split<;>rfl
   rw[er]
   exact .nil
  ·rw[lr,mS]
  ·intro z
   rw[←z,s5 _ _ hd]at n6
   cases n6
  ·intro b hb
   have hb:b=d∨b=D∨b=tl∨b=nw∨b∈rs:=by simpa[lmF]using hb
   rcases hb with z|z|z|z|z
   ·rw[z];exact nd
   ·rw[z];exact Same.free s0 nD
   ·rw[z];exact Same.free s0 (Same.free (sm.trans s5) n6)
   ·rw[z];exact Same.free s0 (Same.free ((sm.trans s5).trans s6) nnw)
   ·exact Same.free s0 (fr b z)
noncomputable def spLv:Sp:=λvs H Q _=>∃d hl tl nw rs P m,∃b:Nat,vs=[.ref d,.int (b:Int)]∧LmAt H d hl tl nw rs P m∧b<rs.length∧(m.nw.map (·.1)).Nodup∧(∀e∈m.row b,e.1∈m.nw.map (·.1))∧(m.row b).length≤100∧∀D H',Same H H'→H D=none→H' D=some (.lst ((m.lvs b).map V.int))→Q (.ref D) H'
theorem q2Y(T:Txt K mg t)(S:Fns K t):S.law_live.Ok0 P w mg base 1 spLv:=by
 refine S.law_live.F.ok0 qBF λcdv A _ s H vs Q E hr h=>?_
 ·obtain⟨d,hl,tl,nw,rs,P0,m,b,rfl,hm,hb,nd,ky,l100,q⟩:=h
  have hu:=q1X hr
  have s9:(99999:Nat)<sizeLine:=by decide
  obtain⟨r,er,at1⟩:=q4X hb
  obtain⟨us,hus,pr⟩:=hm.rw b r er
  refine⟨_,(qE (qL (yH ["_law_state","_law_sheet","_law_stamp"] [0] rfl (jP (qY jE (jS hu (pv 0) jO (λ_ _=>rfl)) (pv 1) (λ_ _=>rfl))) (λ_ _ _ _ _=>(q9I (K:=K) (n:=2) rfl rfl (yE (qX (i:=1) (show List.Nodup (["_law_state","_law_sheet","_law_stamp"]:List Str)from by decide) rfl (Or.inl rfl)) (yE (qX (i:=2) (show List.Nodup (["_law_state","_law_sheet","_law_stamp"]:List Str)from by decide) rfl (Or.inl rfl)) q1E)) rfl rfl)) (λ_ _ _ _ _=>(uJ (qS u9 (jS hu (jS hu (pv 0) jO (λ_ _=>rfl)) (pv 1) (λ_ _=>rfl)) (pv 2) (qU _)))) (λ_ _ _ _ _=>(pv 1)) (by kernel_rfl) (q9C (q0X (by decide) (q0X (by decide) q9B)))))),?_⟩
  try dsimp-beta-proj-iota-zeta-eta only[wishK,cxK]
  refine⟨_,rfl,d,_,rfl,hm.gH,_,rfl,hl,_,_,_,rfl,rfl,SqL.of hm.oh,at1,r,rfl,⟨us,SqL.of hus⟩,λD H2 nD s2 hD=>?_⟩
  refine vN (K:=K) (xs:=us) (D:=D) (λi H3=>Same H H3∧H3 D=some (.lst (((((m.row b).take i).filter λe=>decide (e∈m.nw)).map (·.1)).map V.int))) ⟨s2,hD⟩ (λi H3 hp=>SqL.of (hp.1 _ _ hus)) (λi x H3 hx hp=>?_) (λH3 hp=>?_)
  ·obtain⟨sm,hd⟩:=hp
   obtain⟨e,he,p,rfl,hpp⟩:=Paired.at pr hx
   obtain⟨hi,ee⟩:=hG.mp he
   have m3:=hm.same sm
   obtain⟨y,hy,ey⟩:=kX.mp (ky e (mG he))
   have dg:DGet H3 nw (.int e.1) (some (.int y.2)):=by
    have:=DGet.k (k:=Sum.inl e.1) m3.on
    rw[q60 nd (m:=y.2) (by rw[←ey];exact hy)]at this
    exact this
   refine⟨p,_,rfl,SqT.of (sm _ _ hpp),rfl,_,_,rfl,_,_,rfl,rfl,?_⟩
   refine⟨_,rfl,d,_,rfl,m3.gN,_,rfl,nw,_,rfl,dg,_,rfl,rfl,_,rfl,?_⟩
   rw[yM,←mB hi,gI,kU,kU,ee]
   have eq:(y.2=e.2)↔e∈m.nw:=by
    constructor
    ·intro z
     have:y=e:=Prod.ext ey z
     rw[←this];exact hy
    ·intro z
     have:=qDM nd (n:=e.1) (p:=y.2) (p':=e.2) (by rw[←ey];exact hy) z
     exact this
   by_cases z:e∈m.nw
   ·rw[hI (eq.mpr z)]
    refine iteT ⟨_,rfl,_,hd,?_,λb o e'=>?_,?_⟩
    ·rw[hC,hC]
     have:=kY (λe=>decide (e∈m.nw)) ((m.row b).take i)
     rw[gA]at this
     omega
    ·rw[qD (qI e' nD)]
     exact sm _ _ e'
    ·rw[qH,mY,kG (hI z)]
     rfl
   ·rw[hV (λy=>z (eq.mp y))]
    refine iteF ⟨sm,?_⟩
    rw[mY,hX (λy=>z (kP y)),hd]
    simp
  ·obtain⟨sm,hd⟩:=hp
   rw[pr.len,mZ]at hd
   exact q D H3 sm nD hd
noncomputable def qLO:Sp:=λvs H Q _=>∃d hl tl nw rs P m,vs=[.ref d]∧LmAt H d hl tl nw rs P m∧rs.length≤16∧∀H',Same H H'→Q (.bl (decide (¬1<(m.emp rs.length).length∧(m.beg P rs.length).length=0))) H'
theorem qAA(T:Txt K mg t)(S:Fns K t):S.law_short.Ok0 P w mg base 1 qLO:=by
 refine S.law_short.F.ok0 q4H λcdv A _ s H vs Q E hr h=>?_
 ·obtain⟨d,hl,tl,nw,rs,P0,m,rfl,hm,l16,q⟩:=h
  have hu:=q1X hr
  have s9:(99999:Nat)<sizeLine:=by decide
  have lf:∀{p:Nat→Bool} {i:Nat},((List.range i).filter p).length≤i:=fun {p i}=>by
   have:=kY p (List.range i)
   rw[mR]at this
   exact this
  refine⟨_,(qB (qV (i:=1) q4H.nd rfl (Or.inl rfl) (jS hu (pv 0) jO (λ_ _=>rfl))) (qB (jB (qS q8H (qW j8 (by rfl) T.b_len m7 (qA (yH ["_law_row"] [] rfl (jP (pv 1)) (λ_ _ _ _ _=>(qX (i:=0) (show List.Nodup (["_law_row"]:List Str)from by decide) rfl (Or.inl rfl))) (λ_ _ _ _ _=>(uJ (qS (qDF (K:=K) rfl hr.units) (pv 0) (jF qC) (qU _)))) (λ_ _ _ _ _=>(pv 0)) (by kernel_rfl) (jM (by decide))) qC)) qG (qU _)) (qE (qL q3B)) qQ) (qE (qL (uV u9 (qW j8 (by rfl) T.b_len m7 (qA (yH ["_law_state","_law_row"] [0] rfl (jP (pv 1)) (λ_ _ _ _ _=>(qX (i:=1) (show List.Nodup (["_law_state","_law_row"]:List Str)from by decide) rfl (Or.inl rfl))) (λ_ _ _ _ _=>(uJ (q67 zZ zZ qG (qW (q0A (K:=K) rfl) (by rfl) T.b_len m7 (qA (pv 1) qC)) (jS hu (pv 0) jO (λ_ _=>rfl))))) (λ_ _ _ _ _=>(pv 1)) (by kernel_rfl) (jM (by decide))) qC)) qG (qU _)))))),?_⟩
  try dsimp-beta-proj-iota-zeta-eta only[wishK,cxK]
  refine⟨_,rfl,d,_,rfl,hm.gH,_,rfl,hl,rfl,⟨_,SqL.of hm.oh⟩,λD H2 nD s2 hD=>?_⟩
  refine vN (K:=K) (xs:=rs.map V.ref) (D:=D) (λi H3=>Same H H3∧∃us,H3 D=some (.lst us)∧us.length=(m.emp i).length) ⟨s2,[],hD,rfl⟩ (λi H3 hp=>SqL.of (hp.1 _ _ hm.oh)) (λi x H3 hx hp=>?_) (λH3 hp=>?_)
  ·obtain⟨sm,us,hd,lu⟩:=hp
   obtain⟨r,rfl,er⟩:=qGF hx
   have hi:i<rs.length:=(hG.mp er).1
   obtain⟨ws,hws,pr⟩:=hm.rw i r er
   have lw:=pr.len
   refine⟨_,rfl,sz0,λe H4 n4 s4 h4=>⟨r,ws,e,rfl,rfl,SqL.of (s4 _ _ (sm _ _ hws)),SqL.of h4,_,rfl,?_⟩⟩
   have l1:=lf (p:=λb=>decide ((m.row b).length=0)) (i:=i)
   have ex:m.emp (i+1)=m.emp i++if decide ((m.row i).length=0)=true then[i]else[]:=uX
   rw[ex]
   by_cases z:ws=[]
   ·rw[hI z]
    refine iteT ⟨_,rfl,us,s4 _ _ hd,by unfold LM.emp at lu;omega,λb o e'=>?_,us++[.ref r],qH,?_⟩
    ·rw[qD (qI e' nD)]
     exact s4 _ _ (sm _ _ e')
    ·rw[kG (hI (by rw[←lw,z];rfl)),k8,k8,lu]
     rfl
   ·rw[hV z]
    refine iteF ⟨sm.trans s4,us,s4 _ _ hd,?_⟩
    rw[hX (λy=>z (List.length_eq_zero_iff.mp (by rw[lw];exact kP y))),gB]
    exact lu
  obtain⟨sm,us,hd,lu⟩:=hp
  rw[hC]at lu
  refine⟨D,us,rfl,.inl (SqL.of hd),_,_,rfl,rfl,_,rfl,?_⟩
  have l1:=lf (p:=λb=>decide ((m.row b).length=0)) (i:=rs.length)
  refine ite2 (λzz=>?_) (λzz=>?_)
  ·have z:((us.length:Nat):Int)>1:=kP zz
   have:=q H3 sm
   rw[hV (λy=>y.1 (by omega))]at this
   exact this
  have z:¬((us.length:Nat):Int)>1:=λy=>zz (hI y)
  refine⟨_,rfl,hl,rfl,⟨_,SqL.of (sm _ _ hm.oh)⟩,λD2 H4 nD2 s4 hD2=>?_⟩
  refine vN (K:=K) (xs:=rs.map V.ref) (D:=D2) (λi H5=>Same H3 H5∧∃us,H5 D2=some (.lst us)∧us.length=(m.beg P0 i).length) ⟨s4,[],hD2,rfl⟩ (λi H5 hp=>SqL.of (hp.1 _ _ (sm _ _ hm.oh))) (λi x H5 hx hp=>?_) (λH5 hp=>?_)
  ·obtain⟨s5,us2,hd5,lu5⟩:=hp
   obtain⟨r,rfl,er⟩:=qGF hx
   obtain⟨ws,hws,pr⟩:=hm.rw i r er
   have lw:=pr.len
   have hi:i<rs.length:=(hG.mp er).1
   have m5:=hm.same (sm.trans s5)
   have l2:=lf (p:=λb=>decide (0<(m.row b).length)&&decide ((m.row b).length<P0)) (i:=i)
   have ex:m.beg P0 (i+1)=m.beg P0 i++if(decide (0<(m.row i).length)&&decide ((m.row i).length<P0))=true then[i]else[]:=uX
   rw[ex]
   refine⟨_,rfl,r,ws,rfl,.inl (SqL.of (s5 _ _ (sm _ _ hws))),_,_,rfl,rfl,_,rfl,?_⟩
   by_cases z1:(0:Int)<((ws.length:Nat):Int)
   ·rw[hI z1]
    refine iteT ⟨_,rfl,d,_,rfl,m5.gP,_,_,rfl,rfl,_,rfl,?_⟩
    by_cases z2:((ws.length:Nat):Int)<(P0:Int)
    ·rw[hI z2]
     refine iteT ⟨_,rfl,us2,hd5,by unfold LM.beg at lu5;omega,λb o e'=>?_,us2++[.ref r],qH,?_⟩
     ·rw[qD (qI e' nD2)]
      exact s5 _ _ e'
     ·rw[kG (by rw[hI (show 0<(m.row i).length by omega),hI (show(m.row i).length<P0 by omega)];rfl),k8,k8,lu5]
      rfl
    ·rw[hV z2]
     refine iteF ⟨s5,us2,hd5,?_⟩
     rw[hX (by rw[hV (show ¬(m.row i).length<P0 by omega),Bool.and_false];exact kJ),gB]
     exact lu5
   ·rw[hV z1]
    refine iteF ⟨_,rfl,iteF ⟨s5,us2,hd5,?_⟩⟩
    rw[hX (by rw[hV (show ¬0<(m.row i).length by omega)];exact kJ),gB]
    exact lu5
  obtain⟨s5,us2,hd5,lu5⟩:=hp
  rw[hC]at lu5
  refine⟨D2,us2,rfl,.inl (SqL.of hd5),rfl,?_⟩
  rw[yM]
  have:=q H5 (sm.trans s5)
  rw[show decide (((us2.length:Nat):Int)=0)=decide (¬1<(m.emp rs.length).length∧(m.beg P0 rs.length).length=0)from dF.mpr (by omega)]
  exact this
noncomputable def spWy(t:Adr):Sp:=λvs H Q _=>∃d hl tl nw rs P m,vs=[.ref d]∧LmAt H d hl tl nw rs P m∧rs.length≤16∧(m.nw.map (·.1)).Nodup∧(∀b,∀e∈m.row b,e.1∈m.nw.map (·.1))∧(∀b,(m.row b).length≤100)∧∀D H',Same H H'→H' D=some (.lst ((m.way P rs.length).map vn))→Q (.ref D) H'
theorem qBQ(T:Txt K mg t)(S:Fns K t):S.law_ways.Ok0 P w mg base 2 (spWy t):=by
 refine S.law_ways.F.ok0 q03 λcdv A _ s H vs Q E hr h=>?_
 ·obtain⟨d,hl,tl,nw,rs,P0,m,rfl,hm,l16,nd,ky,l100,q⟩:=h
  have hu:=q1X hr
  have s9:(99999:Nat)<sizeLine:=by decide
  refine⟨_,(qB (qV (i:=1) q03.nd rfl (Or.inl rfl) (jF qC)) (qB (q06 gR rfl (qH7 rfl T.b_enumerate (qA (jS hu (pv 0) jO (λ_ _=>rfl)) qC)) (q94 rfl (yE (qX (i:=2) q03.nd rfl (Or.inl rfl)) (yE (qX (i:=3) q03.nd rfl (Or.inl rfl)) q1E))) (qE (jB (PW.pt (qBV (qS u9 (qW j8 (by rfl) T.b_len m7 (qA (pv 3) qC)) (jS hu (pv 0) jO (λ_ _=>rfl)) (qU _)) (q93 (qS zZ (qW j8 (by rfl) T.b_len m7 (qA (qM (q2Y T S).mono hr rfl T.mg_law_live T.kp_law_live S.law_live.b .nil qK (qA (pv 0) (qA (pv 2) qC))) qC)) (qW j8 (by rfl) T.b_len m7 (qA (pv 3) qC)) (qU _))))) (qE (jA (q8O PySem.F.plainAttrs_list PySem.F.slot_list_append PySem.F.type_list_append vD (pv 1) (qA (pv 2) qC)))) qQ))) (qE (qL (pv 1))))),?_⟩
  try dsimp-beta-proj-iota-zeta-eta only[wishK,cxK]
  refine⟨sz0,λD H1 nD s1 hD=>?_⟩
  refine⟨_,rfl,d,_,rfl,(hm.same s1).gH,hl,rfl,⟨_,SqL.of (s1 _ _ hm.oh)⟩,?_⟩
  have lf:∀{p:Nat→Bool} {i:Nat},((List.range i).filter p).length≤i:=fun {p i}=>by
   have:=kY p (List.range i)
   rw[mR]at this
   exact this
  refine qFK (K:=K) (xs:=rs.map V.ref) (λi σ' H'=>∃y2 y3,σ'=[some (.ref d),some (.ref D),y2,y3]∧Same H H'∧H' D=some (.lst ((m.way P0 i).map vn))) ⟨_,_,rfl,s1,hD⟩ (λi σ' H' hp=>?_) (λi σ' H' x T' hx hp nT=>?_) (λσ' H' hp=>?_)
  ·obtain⟨y2,y3,rfl,sm,hd⟩:=hp
   exact SqL.of (sm _ _ hm.oh)
  ·obtain⟨y2,y3,rfl,sm,hd⟩:=hp
   obtain⟨r,rfl,er⟩:=qGF hx
   have hi:i<rs.length:=(hG.mp er).1
   obtain⟨ws,hws,pr⟩:=hm.rw i r er
   have lw:=pr.len
   have sT:Same H' (upd H' T' (.tup [.int (i:Int),.ref r])):=Same.upd nT
   have hT:(upd H' T' (.tup [.int (i:Int),.ref r])) T'=_:=qH
   generalize upd H' T' (.tup [.int (i:Int),.ref r])=H2 at sT hT ⊢
   have s2:=sm.trans sT
   have m2:=hm.same s2
   refine⟨T',_,rfl,SqT.of hT,rfl,_,_,rfl,_,_,rfl,rfl,?_⟩
   refine⟨_,rfl,r,ws,rfl,.inl (SqL.of (s2 _ _ hws)),_,rfl,d,_,rfl,m2.gP,rfl,_,rfl,?_⟩
   rw[yM]
   have l2:=lf (p:=λb=>decide ((m.row b).length=P0)&&decide ((m.lvs b).length<(m.row b).length)) (i:=i)
   have ex:m.way P0 (i+1)=m.way P0 i++if(decide ((m.row i).length=P0)&&decide ((m.lvs i).length<(m.row i).length))=true then[i]else[]:=uX
   by_cases z1:((ws.length:Nat):Int)=(P0:Int)
   ·rw[hI z1]
    refine iteT ⟨_,rfl,_,rfl,d,hl,tl,nw,rs,P0,m,i,rfl,m2,hi,nd,ky i,l100 i,λD2 H3 s3 n3 h3=>?_⟩
    refine⟨D2,_,rfl,.inl (SqL.of h3),_,rfl,r,ws,rfl,.inl (SqL.of (s3 _ _ (s2 _ _ hws))),_,_,rfl,rfl,_,rfl,?_⟩
    rw[hC]
    by_cases z2:(((m.lvs i).length:Nat):Int)<((ws.length:Nat):Int)
    ·rw[hI z2]
     have hd3:=s3 _ _ (sT _ _ hd)
     refine iteT ⟨_,rfl,.inl ⟨rfl,_,SqL.of hd3⟩,_,rfl,D,_,_,rfl,rfl,hd3,by rw[hC];unfold LM.way;omega,_,_,rfl,λb o e=>?_,?_⟩
     ·rw[qD (qI e nD)]
      exact s3 _ _ (s2 _ _ e)
     ·rw[qH,ex,kG (by rw[hI (show(m.row i).length=P0 by omega),hI (show(m.lvs i).length<(m.row i).length by omega)];rfl),kU]
      rfl
    ·rw[hV z2]
     refine iteF ⟨_,_,rfl,s2.trans s3,?_⟩
     rw[ex,hX (by rw[hV (show ¬(m.lvs i).length<(m.row i).length by omega),Bool.and_false];exact kJ),gB]
     exact s3 _ _ (sT _ _ hd)
   ·rw[hV z1]
    refine iteF ⟨_,_,rfl,s2,?_⟩
    rw[ex,hX (by rw[hV (show ¬(m.row i).length=P0 by omega)];exact kJ),gB]
    exact sT _ _ hd
  ·obtain⟨y2,y3,rfl,sm,hd⟩:=hp
   rw[hC]at hd
   exact⟨_,rfl,q D H' sm hd⟩
theorem q57{F:List Addr}{H0 H H':Hp}(s:Same H0 H)(k:Keep F H H')(f:∀b∈F,H0 b=none):Same H0 H':=λb o e=>k.k b o (λz=>by rw[f b z]at e;cases e) (s b o e)
noncomputable def spPu(t:Adr):Sp:=λvs H Q _=>∃d hl tl nw rs P m s n,vs=[.ref d,.int n]∧LmAt H d hl tl nw rs P m∧Sim m s∧s.q.P=P∧0<rm s.q.B s.q.P s.q.fi∧m.nw.length≤1000∧∀H',LmAt H' d hl tl nw rs P (m.put (spF s.q s.cl) n)→Keep (lmF d hl tl nw rs) H H'→Q .non H'
theorem q7U(T:Txt K mg t)(S:Fns K t):S.law_put.Ok0 P w mg base 1 (spPu t):=by
 refine S.law_put.F.ok0 zU λcdv A _ s H vs Q E hr h=>?_
 ·obtain⟨d,hl,tl,nw,rs,P0,m,s5,n,rfl,hm,sim,eP,hrm,l1000,q⟩:=h
  have hu:=q1X hr
  have s9:(99999:Nat)<sizeLine:=by decide
  have lrB:rs.length=s5.q.B:=by rw[hm.lr,sim.lb]
  have b16:=sim.qs.ok.b2
  have p16:=sim.qs.ok.p2
  obtain⟨hB,hl5,_⟩:=sim.spot hrm
  have lf:∀{p:Nat→Bool} {i:Nat},((List.range i).filter p).length≤i:=fun {p i}=>by
   have:=kY p (List.range i)
   rw[mR]at this
   exact this
  refine⟨_,(qB (qV (i:=2) zU.nd rfl (Or.inr rfl) (jS hu (pv 0) jO (λ_ _=>rfl))) (qB (q27 (i:=3) ["_law_state","_law_held","_law_k"] [0,2] rfl (zF rfl T.b_range (qA (qW j8 (by rfl) T.b_len m7 (qA (pv 2) qC)) qC)) (λ_ _ _ _ _=>(qX (i:=2) (show List.Nodup (["_law_state","_law_held","_law_k"]:List Str)from by decide) rfl (Or.inl rfl))) (λ_ _ _ _ _=>(uJ (q67 zZ zZ qG (qW (q0A (K:=K) rfl) (by rfl) T.b_len m7 (qA (qY (vM (K:=K) rfl) (pv 1) (pv 2) (λ_ _=>rfl)) qC)) (jS hu (pv 0) jO (λ_ _=>rfl))))) (λ_ _ _ _ _=>(pv 2)) (by kernel_rfl) (jM (by decide)) zU.nd rfl (Or.inl rfl)) (q48 (jB (qS (q9D hr.units) (pv 3) (jF qC) (qU _)) (qB (qV (i:=4) zU.nd rfl (Or.inl rfl) (qW zB (by rfl) T.b_sorted (by kernel_rfl) (qA (yH ["_law_state","_law_held","_law_k"] [0,2] rfl (zF rfl T.b_range (qA (qW j8 (by rfl) T.b_len m7 (qA (pv 2) qC)) qC)) (λ_ _ _ _ _=>(qX (i:=2) (show List.Nodup (["_law_state","_law_held","_law_k"]:List Str)from by decide) rfl (Or.inl rfl))) (λ_ _ _ _ _=>(uJ (qS (qDF (K:=K) rfl hr.units) (qY (vM (K:=K) rfl) (pv 1) (pv 2) (λ_ _=>rfl)) (jF qC) (qU _)))) (λ_ _ _ _ _=>(yP (qA (qY (vM (K:=K) rfl) (jS hu (pv 0) jO (λ_ _=>rfl)) (pv 2) (λ_ _=>rfl)) (qA (pv 2) qC)))) (by kernel_rfl) (jM (by decide))) qC))) (qE (qV (i:=3) zU.nd rfl (Or.inl rfl) (jF (qA (qY jL (qY jE (pv 4) qG (λ_ _=>rfl)) qG (λ_ _=>rfl)) qC))))) qQ) (qB (qGX hu (pv 0) jO qG qEZ (λ_ _ _=>rfl)) (qB (jA (q8O PySem.F.plainAttrs_list PySem.F.slot_list_append PySem.F.type_list_append vD (qY jE (pv 2) (qY jE (pv 3) qG (λ_ _=>rfl)) (λ_ _=>rfl)) (qA (yP (qA (pv 1) (qA (jS hu (pv 0) jO (λ_ _=>rfl)) qC))) qC q49))) (qE (qCX hu (jS hu (pv 0) jO (λ_ _=>rfl)) (pv 1) (jS hu (pv 0) jO (λ_ _=>rfl)) rfl))))))),?_⟩
  try dsimp-beta-proj-iota-zeta-eta only[wishK,cxK]
  refine⟨_,rfl,d,_,rfl,hm.gH,_,rfl,hl,_,rfl,.inl (SqL.of hm.oh),_,rfl,by omega,by rw[hC];omega,λD H1 nD s1 hD=>?_⟩
  rw[hC,mH]
  refine q4U (D:=D) (λi H2=>Same H H2∧H2 D=some (.lst ((m.beg P0 i).map vn))) ⟨s1,hD⟩ (λi H2 hi hp=>?_) (λH2 hp=>?_)
  ·obtain⟨sm,hd⟩:=hp
   obtain⟨r,er,at1⟩:=q4X hi
   obtain⟨ws,hws,pr⟩:=hm.rw i r er
   have lw:=pr.len
   have m2:=hm.same sm
   have l2:=lf (p:=λb=>decide (0<(m.row b).length)&&decide ((m.row b).length<P0)) (i:=i)
   have ex:m.beg P0 (i+1)=m.beg P0 i++if(decide (0<(m.row i).length)&&decide ((m.row i).length<P0))=true then[i]else[]:=uX
   rw[←Int.zero_add (i:Int)]at at1
   refine⟨_,rfl,_,rfl,hl,_,_,_,rfl,rfl,SqL.of m2.oh,at1,r,ws,rfl,.inl (SqL.of (sm _ _ hws)),_,_,rfl,rfl,_,rfl,?_⟩
   by_cases z1:(0:Int)<((ws.length:Nat):Int)
   ·rw[hI z1]
    refine iteT ⟨_,rfl,d,_,rfl,m2.gP,_,_,rfl,rfl,_,rfl,?_⟩
    by_cases z2:((ws.length:Nat):Int)<(P0:Int)
    ·rw[hI z2]
     refine iteT ⟨_,rfl,_,hd,by rw[hC];unfold LM.beg;omega,λb o e'=>?_,?_⟩
     ·rw[qD (qI e' nD)]
      exact sm _ _ e'
     ·rw[qH,ex,kG (by rw[hI (show 0<(m.row i).length by omega),hI (show(m.row i).length<P0 by omega)];rfl),kU,Int.zero_add]
      rfl
    ·rw[hV z2]
     refine iteF ⟨sm,?_⟩
     rw[ex,hX (by rw[hV (show ¬(m.row i).length<P0 by omega),Bool.and_false];exact kJ),gB]
     exact hd
   ·rw[hV z1]
    refine iteF ⟨_,rfl,iteF ⟨sm,?_⟩⟩
    rw[ex,hX (by rw[hV (show ¬0<(m.row i).length by omega)];exact kJ),gB]
    exact hd
  obtain⟨sm,hd⟩:=hp
  obtain⟨b,eb⟩:∃b,b=spF s5.q s5.cl:=⟨_,rfl⟩
  rw[←eb]at hB hl5 q
  refine⟨λσ' H'=>∃y4 bl us,σ'=[some (.ref d),some (.int n),some (.ref hl),some (.ref bl),y4]∧Same H H'∧H' bl=some (.lst us)∧atI us 0=some (.int (b:Int)),?_,?_⟩
  ·refine⟨_,rfl,sz0,λe0 H3 n3 s3 h3=>⟨D,_,e0,rfl,rfl,SqL.of (s3 _ _ hd),SqL.of h3,_,rfl,?_⟩⟩
   have s03:=sm.trans s3
   have m3:=hm.same s03
   by_cases z:(m.beg P0 rs.length).map vn=[]
   ·rw[hI z]
    refine iteT ?_
    have hbeg:m.beg P0 rs.length=[]:=List.map_eq_nil_iff.mp z
    have hfp:(List.range s5.q.B).find? (jX s5.q.P s5.q.fi)=none:=by
     rw[←pM,←sim.beg_eq,eP,←lrB,hbeg]
     rfl
    have spE:b=(minF s5.cl ((List.range s5.q.B).filter λb=>decide (s5.q.fi.getD b 0=0))).getD 0:=by
     rw[eb]
     unfold spF
     rw[hfp]
    refine⟨_,rfl,hl,_,rfl,.inl (SqL.of m3.oh),_,rfl,by omega,by rw[hC];omega,λD2 H4 nD2 s4 hD2=>?_⟩
    rw[hC,mH]
    refine q4U (D:=D2) (λi H5=>Same H3 H5∧∃us,H5 D2=some (.lst us)∧Paired (TupD H5) us ((m.emp i).map (keyN s5.cl))) ⟨s4,[],hD2,.nil⟩ (λi H5 hi hp=>?_) (λH5 hp=>?_)
    ·obtain⟨s5',us,hd5,pr5⟩:=hp
     obtain⟨r,er,at1⟩:=q4X hi
     obtain⟨ws,hws,pr⟩:=hm.rw i r er
     have lw:=pr.len
     have s05:=s03.trans s5'
     have m5:=hm.same s05
     have ex:m.emp (i+1)=m.emp i++if decide ((m.row i).length=0)=true then[i]else[]:=uX
     rw[←Int.zero_add (i:Int)]at at1
     refine⟨_,rfl,_,rfl,hl,_,_,_,rfl,rfl,SqL.of m5.oh,at1,sz0,λe6 H6 n6 s6 h6=>⟨r,ws,e6,rfl,rfl,SqL.of (s6 _ _ (s05 _ _ hws)),SqL.of h6,_,rfl,?_⟩⟩
     by_cases z2:ws=[]
     ·rw[hI z2]
      have m6:=m5.same s6
      have at2:atI (m.tm.map V.int) (0+(i:Int))=some (.int (s5.cl.getD i 0)):=by
       rw[Int.zero_add,sim.tm]
       refine yC ?_
       have:i<s5.cl.length:=by rw[sim.lc];omega
       rw[kN,hU,hE this]
       rfl
      refine iteT ⟨_,rfl,d,_,rfl,m6.gT,_,rfl,tl,_,_,_,rfl,rfl,SqL.of m6.ot,at2,_,rfl,sz2,λtp H7 n7 s7 h7=>?_⟩
      have s57:=s6.trans s7
      have hd7:=s57 _ _ hd5
      have lu:=pr5.len
      have l1:=lf (p:=λb=>decide ((m.row b).length=0)) (i:=i)
      rw[hC]at lu
      refine⟨us,hd7,by unfold LM.emp at lu;omega,λb o e'=>?_,us++[.ref tp],qH,?_⟩
      ·rw[qD (qI e' nD2)]
       exact s57 _ _ (s5' _ _ e')
      ·rw[ex,kG (hI (by rw[←lw,z2];rfl)),kU]
       refine L2.Paired.snoc (Paired.mapP (uL pr5 s57) λx k y=>y.upd hd7 (λ_ q=>by cases q)) (TupD.upd ⟨tp,rfl,?_⟩ hd7 (λ_ q=>by cases q))
       rw[h7,Int.zero_add]
       rfl
     ·rw[hV z2]
      refine iteF ⟨s5'.trans s6,us,s6 _ _ hd5,?_⟩
      rw[ex,hX (λy=>z2 (List.length_eq_zero_iff.mp (by rw[lw];exact kP y))),gB]
      exact uL pr5 s6
    obtain⟨s5',us,hd5,pr5⟩:=hp
    have lu:=pr5.len
    rw[hC]at lu
    have l1:=lf (p:=λb=>decide ((m.row b).length=0)) (i:=rs.length)
    refine⟨D2,us,_,2,rfl,SqL.of hd5,q9J pr5,λk hk=>?_,by decide,by unfold LM.emp at lu;omega,λqs pp pw cl H8 n8 s8 h8=>?_⟩
    ·obtain⟨x,_,rfl⟩:=kX.mp hk
     rfl
    have pq:=q6X (uL pr5 s8) λi hi=>mK.mp (pp.mem_iff.mp hi)
    have pm:=q6W (ks:=(m.emp rs.length).map (keyN s5.cl)) pr5.len.symm pp
    generalize qs.map (λi=>us.getD i V.non)=zs at h8 pq ⊢
    generalize qs.map (λi=>((m.emp rs.length).map (keyN s5.cl)).getD i [])=KS at pm pw pq
    have emE:m.emp rs.length=(List.range s5.q.B).filter λb=>decide (s5.q.fi.getD b 0=0):=by rw[lrB];exact sim.emp_eq
    have inE:b∈m.emp rs.length:=by
     obtain⟨_,_,hc⟩:=sim.spot hrm
     rw[←eb]at hc
     rw[emE]
     rcases hc with hc|⟨_,hc⟩
     ·unfold jJ at hc
      rw[yF,hfp]at hc
      cases hc
     ·exact m9.mpr ⟨mK.mpr hB,hI hc⟩
    obtain⟨g1,g2⟩:=q9O (cl:=s5.cl) (L:=m.emp rs.length) (by rw[emE];exact List.Pairwise.filter _ List.pairwise_lt_range)
    rw[←emE]at spE
    cases zm:minF s5.cl (m.emp rs.length)with
    |none=>
     rw[g1 zm]at inE
     exact absurd inE (by simp)
    |some b0=>
     rw[zm]at spE
     have spE:b=b0:=spE
     obtain⟨g3,g4⟩:=g2 b0 zm
     cases KS with
     |nil=>
      have:=pm.mem_iff.mpr (kX.mpr ⟨b,inE,rfl⟩)
      exact absurd this (by simp)
     |cons k0 KR=>
      obtain⟨c,hc,ec⟩:=kX.mp (pm.mem_iff.mp (mL (a:=k0) (l:=KR)))
      have e0:keyN s5.cl c=keyN s5.cl b0:=by
       refine q09 _ _ (g4 c hc) ?_
       rcases kI.mp (pm.mem_iff.mpr (kX.mpr ⟨b0,g3,rfl⟩))with y|y
       ·rw[y,←ec];exact q3J _
       ·rw[ec]
        exact(List.pairwise_cons.mp pw).1 _ y
      have ecb:c=b:=(q9K e0).trans spE.symm
      cases pq with
      |cons hz0 hzr=>
       obtain⟨tp,rfl,htp⟩:=hz0
       rw[←ec,ecb]at htp
       refine⟨_,rfl,cl,_,0,_,rfl,rfl,SqL.of h8,yC (j:=0) rfl,tp,_,1,_,rfl,rfl,SqT.of htp,rfl,sz1,λbl H9 n9 s9' h9=>?_⟩
       exact⟨_,bl,_,rfl,((s03.trans s5').trans s8).trans s9',h9,yC (j:=0) rfl⟩
   ·rw[hV z]
    refine iteF ⟨_,D,_,rfl,s03,s3 _ _ hd,?_⟩
    cases ez:m.beg P0 rs.length with
    |nil=>rw[ez]at z;exact absurd rfl z
    |cons c L=>
     have:(List.range s5.q.B).find? (jX s5.q.P s5.q.fi)=some c:=by
      rw[←pM,←sim.beg_eq,eP,←lrB,ez]
      rfl
     have:b=c:=by
      rw[eb]
      unfold spF
      rw[this]
     rw[this]
     exact yC (j:=0) rfl
  rintro σ' H3 ⟨y4,bl,us,rfl,s3,hbl,at0⟩
  have m3:=hm.same s3
  have hbr:b<rs.length:=by omega
  obtain⟨r,er,at1⟩:=q4X hbr
  obtain⟨ws,hws,pr⟩:=m3.rw b r er
  have lw:=pr.len
  have rn:r∈rs:=mG er
  refine⟨_,rfl,d,_,rfl,m3.gS,_,_,rfl,rfl,_,DPut.k (k:=Sum.inr "stamp") m3.od (by show 5<sizeLine;decide),?_⟩
  rw[show putK (d5 P0 hl tl nw m.st) (Sum.inr "stamp":Key) (.int (m.st+1))=d5 P0 hl tl nw (m.st+1)from rfl]
  have nd1:∀{x:Addr} {xs:List V},H3 x=some (.lst xs)→x≠d:=fun {x xs} e z=>by rw[z,m3.od]at e;cases e
  have k4:Keep (lmF d hl tl nw rs) H3 (upd H3 d (.dK (d5 P0 hl tl nw (m.st+1)))):=Keep.upd m3.od (λ_ z=>by cases z) (by simp)
  have d4:(upd H3 d (.dK (d5 P0 hl tl nw (m.st+1)))) d=_:=qH
  have oh4:(upd H3 d (.dK (d5 P0 hl tl nw (m.st+1)))) hl=_:=(qD (nd1 m3.oh)).trans m3.oh
  have ot4:(upd H3 d (.dK (d5 P0 hl tl nw (m.st+1)))) tl=_:=(qD (nd1 m3.ot)).trans m3.ot
  have on4:(upd H3 d (.dK (d5 P0 hl tl nw (m.st+1)))) nw=_:=(qD m3.dn.symm).trans m3.on
  have bl4:(upd H3 d (.dK (d5 P0 hl tl nw (m.st+1)))) bl=_:=(qD (nd1 hbl)).trans hbl
  have rw4:∀(c:Nat) r',rs[c]?=some r'→∃us,(upd H3 d (.dK (d5 P0 hl tl nw (m.st+1)))) r'=some (.lst us)∧Paired (EnA (upd H3 d (.dK (d5 P0 hl tl nw (m.st+1))))) us (m.row c):=λc r' e=>by
   obtain⟨us',h1,h2⟩:=m3.rw c r' e
   exact⟨us',(qD (nd1 h1)).trans h1,vR k4 h2⟩
  generalize upd H3 d (.dK (d5 P0 hl tl nw (m.st+1)))=H4 at k4 d4 oh4 ot4 on4 bl4 rw4 ⊢
  obtain⟨ws4,hws4,pr4⟩:=rw4 b r er
  have lw4:=pr4.len
  refine⟨_,rfl,_,rfl,bl,_,0,_,rfl,rfl,SqL.of bl4,at0,hl,_,_,_,rfl,rfl,SqL.of oh4,at1,.inl ⟨rfl,_,SqL.of hws4⟩,_,rfl,_,rfl,d,_,rfl,DGet.k (k:=Sum.inr "stamp") d4,sz2,λtp H5 n5 s5' h5=>⟨r,ws4,_,rfl,rfl,s5' _ _ hws4,by omega,?_⟩⟩
  have k5:Keep (lmF d hl tl nw rs) H4 H5:=Keep.same s5'
  have k6:Keep (lmF d hl tl nw rs) H5 (upd H5 r (.lst (ws4++[.ref tp]))):=Keep.upd (s5' _ _ hws4) (λ_ z=>by cases z) (by simp[rn])
  have nr:∀{x:Addr} {o:HO},H5 x=some o→x≠r→(upd H5 r (.lst (ws4++[.ref tp]))) x=some o:=fun {x o} e z=>(qD z).trans e
  have rd:d≠r:=λz=>by rw[z,hws4]at d4;cases d4
  have rnw:nw≠r:=λz=>by rw[z,hws4]at on4;cases on4
  have rhl:hl≠r:=λz=>hm.nh (by rw[z];exact rn)
  have rtl:tl≠r:=λz=>hm.nt (by rw[z];exact rn)
  have d6:=nr (s5' _ _ d4) rd
  have oh6:=nr (s5' _ _ oh4) rhl
  have ot6:=nr (s5' _ _ ot4) rtl
  have on6:=nr (s5' _ _ on4) rnw
  have r6:(upd H5 r (.lst (ws4++[.ref tp]))) r=_:=qH
  have tp6:=k6.tp _ _ h5
  have rw6:∀(c:Nat) r',rs[c]?=some r'→c≠b→∃us,(upd H5 r (.lst (ws4++[.ref tp]))) r'=some (.lst us)∧Paired (EnA (upd H5 r (.lst (ws4++[.ref tp])))) us (m.row c):=λc r' e ne=>by
   obtain⟨us',h1,h2⟩:=rw4 c r' e
   refine⟨us',nr (s5' _ _ h1) (λz=>ne ?_),vR k6 (q7T s5' h2)⟩
   obtain⟨c1,c2⟩:=hG.mp e
   obtain⟨c3,c4⟩:=hG.mp er
   exact(List.getElem_inj hm.nd).mp (c2.trans (z.trans c4.symm))
  have pr6:=vR k6 (q7T s5' pr4)
  generalize upd H5 r (.lst (ws4++[.ref tp]))=H6 at k6 d6 oh6 ot6 on6 r6 tp6 rw6 pr6 ⊢
  refine⟨_,rfl,d,_,rfl,DGet.k (k:=Sum.inr "stamp") d6,_,rfl,d,_,rfl,DGet.k (k:=Sum.inr "newest") d6,_,rfl,nw,_,rfl,DPut.k (k:=Sum.inl n) on6 (by rw[q55];omega),?_⟩
  rw[qD8]
  have k7:Keep (lmF d hl tl nw rs) H6 (upd H6 nw (.dK (dI (putW m.nw n (m.st+1))))):=Keep.upd on6 (λ_ z=>by cases z) (by simp)
  have nn:∀{x:Addr} {xs:List V},H6 x=some (.lst xs)→(upd H6 nw (.dK (dI (putW m.nw n (m.st+1))))) x=some (.lst xs):=fun {x xs} e=>(qD (λz=>by rw[z,on6]at e;cases e)).trans e
  have rr:∀c,(m.put b n).row c=if b=c then m.row b++[(n,m.st+1)]else m.row c:=λc=>q4F (by rw[←hm.lr];exact hbr)
  refine q _ ⟨(qD hm.dn).trans d6,nn oh6,nn ot6,qH,λc r' e=>?_,?_,hm.nd,hm.nh,hm.nt,hm.ht,hm.dn⟩ ((((Keep.same s3).trans k4).trans k5).trans (k6.trans k7))
  ·rw[rr]
   by_cases z:b=c
   ·subst z
    rw[er]at e
    obtain rfl:=kF e
    rw[kG rfl]
    exact⟨_,nn r6,L2.Paired.snoc (vR k7 pr6) ⟨tp,rfl,k7.tp _ _ tp6⟩⟩
   ·rw[hX z]
    obtain⟨us',h1,h2⟩:=rw6 c r' e (Ne.symm z)
    exact⟨us',nn h1,vR k7 h2⟩
  ·rw[hm.lr]
   show _=(m.hd.set b _).length
   rw[mV]
theorem qEP{rs:List Addr}{e:Addr}:∀{b:Nat},rs.Nodup→e∉rs→(rs.set b e).Nodup:=by
 induction rs with
 |nil=>intro b h _;exact h
 |cons r rs ih=>
  intro b h n
  obtain⟨h1,h2⟩:=mQ.mp h
  have n1:e∉rs:=λz=>n (kE _ z)
  cases b with
  |zero=>exact mQ.mpr ⟨n1,h2⟩
  |succ b=>
   refine mQ.mpr ⟨λz=>?_,ih h2 n1⟩
   rcases List.mem_or_eq_of_mem_set z with z|z
   ·exact h1 z
   ·exact n (by rw[z];simp)
theorem q7V{W:Mp}{n p:Int}:(putW W n p).length≤W.length+1:=by
 unfold putW
 split
 ·rw[hC];omega
 ·rw[k8];exact kM _
theorem LmAt.in{H:Hp}{d hl tl nw:Addr}{rs:List Addr}{Pg:Nat}{m:LM}(h:LmAt H d hl tl nw rs Pg m):∀b∈lmF d hl tl nw rs,∃o,H b=some o:=λb hb=>by
 have hb:b=d∨b=hl∨b=tl∨b=nw∨b∈rs:=by simpa[lmF]using hb
 rcases hb with rfl|rfl|rfl|rfl|hb
 ·exact⟨_,h.od⟩
 ·exact⟨_,h.oh⟩
 ·exact⟨_,h.ot⟩
 ·exact⟨_,h.on⟩
 ·obtain⟨i,hi,rfl⟩:=gK hb
  obtain⟨us,a,_⟩:=h.rw i _ (hE hi)
  exact⟨_,a⟩
noncomputable def NmB(V:Mp):Prop:=∀y∈V,0≤y.1∧y.1<64
theorem qDN{s:RS}{n:Int}{y:Int×Int}:y∈(putS s n).q.V↔y=(n,((spF s.q s.cl*s.q.P+(s.q.fi.getD (spF s.q s.cl) 0).toNat:Nat):Int))∨(y∈s.q.V∧y.1≠n):=zC
noncomputable def qLP(t:Adr):Sp:=λvs H Q _=>∃d hl tl nw rs P m s,∃b:Nat,vs=[.ref d,.int (b:Int)]∧LmAt H d hl tl nw rs P m∧Sim m s∧s.q.P=P∧b∈opB s.q∧P≤rm s.q.B s.q.P s.q.fi∧m.nw.length≤800∧NmB s.q.V∧
 ∀rs' m' H',LmAt H' d hl tl nw rs' P m'→Sim m' (wipS (movS s b) b)→rm s.q.B s.q.P (wipS (movS s b) b).q.fi+(lvS P b s.q.V).length=rm s.q.B s.q.P s.q.fi+P→m'.nw.length≤m.nw.length+16→(∀y∈(wipS (movS s b) b).q.V,∃z∈s.q.V,z.1=y.1)→(wipS (movS s b) b).q.B=s.q.B→(wipS (movS s b) b).q.P=s.q.P→Keep (lmF d hl tl nw rs) H H'→(∀r∈rs',r∈rs∨H r=none)→Q (.int ((lvS P b s.q.V).length:Nat)) H'
theorem q45(T:Txt K mg t)(S:Fns K t):S.law_cleared_out.Ok0 P w mg base 2 (qLP t):=by
 refine S.law_cleared_out.F.ok0 uR λcdv A _ s H vs Q E hr h=>?_
 ·obtain⟨d,hl,tl,nw,rs,P0,m,s5,b,rfl,hm,sim,eP,hop,hrm,l800,nmb,q⟩:=h
  have hu:=q1X hr
  have s9:(99999:Nat)<sizeLine:=by decide
  obtain⟨hB,efb,elv⟩:=q1H hop
  have lrB:rs.length=s5.q.B:=by rw[hm.lr,sim.lb]
  have p16:=sim.qs.ok.p2
  have rowb:(m.row b).length=P0:=by
   have:=sim.fi b hB
   omega
  have lL:lvS P0 b s5.q.V=m.lvs b:=by rw[←eP];exact sim.lvS hB
  have lLl:(m.lvs b).length<P0:=by
   have:=sim.qs.lv b hB
   rw[sim.cnt hB]at this
   omega
  refine⟨_,(qB (qV (i:=2) uR.nd rfl (Or.inl rfl) (qM (q2Y T S).mono hr rfl T.mg_law_live T.kp_law_live S.law_live.b .nil qK (qA (pv 0) (qA (pv 1) qC)))) (qB (q06 gR rfl (jP (pv 2)) (qX (i:=3) uR.nd rfl (Or.inl rfl)) (qE (jA (qM (q7U T S).mono hr rfl T.mg_law_put T.kp_law_put S.law_put.b .nil qK (qA (pv 0) (qA (pv 3) qC)))))) (qB (q3H (jF qC) (q4N (jS hu (pv 0) jO (λ_ _=>rfl)) (pv 1) yU)) (qB (q30 (jS hu (pv 0) jO (λ_ _=>rfl)) (pv 1) q0W qG q3I yU) (qE (qL (qW j8 (by rfl) T.b_len m7 (qA (pv 2) qC)))))))),?_⟩
  try dsimp-beta-proj-iota-zeta-eta only[wishK,cxK]
  refine⟨_,rfl,_,rfl,d,hl,tl,nw,rs,P0,m,b,rfl,hm,by omega,sim.nd,λe he=>?_,by omega,λD H1 s1 nD hD=>?_⟩
  ·obtain⟨f,hf,ef⟩:=gK he
   exact(sim.le b f e.1 e.2 (by rw[hE hf,ef])).2
  have DF:D∉lmF d hl tl nw rs:=λz=>by
   obtain⟨o,e⟩:=hm.in D z
   rw[nD]at e
   cases e
  refine⟨_,rfl,D,rfl,⟨_,SqL.of hD⟩,?_⟩
  refine vL (K:=K) (xs:=(m.lvs b).map V.int) (λi σ' H'=>∃y3 mi si,σ'=[some (.ref d),some (.int (b:Int)),some (.ref D),y3]∧si=((m.lvs b).take i).foldl putS s5∧LmAt H' d hl tl nw rs P0 mi∧Sim mi si∧si.q.B=s5.q.B∧si.q.P=P0∧rm s5.q.B s5.q.P si.q.fi+i=rm s5.q.B s5.q.P s5.q.fi∧mi.row b=m.row b∧(∀y∈si.q.V,y.2 / (P0:Int)=(b:Int)→y.1∈(m.lvs b).drop i)∧(∀y∈si.q.V,∃z∈s5.q.V,z.1=y.1)∧mi.nw.length≤m.nw.length+i∧Keep (lmF d hl tl nw rs) H1 H') ⟨_,m,s5,rfl,rfl,hm.same s1,sim,rfl,eP,rfl,rfl,λy hy hyb=>?_,λy hy=>⟨y,hy,rfl⟩,kM _,Keep.refl⟩ (λi σ' H' hi hp=>?_) (λi v σ' H' hv hp=>?_) (λσ' H' hp=>?_)
  ·show y.1∈m.lvs b
   rw[←lL,←qB7]
   have:=(q63 (P:=P0) (b:=b) (V:=s5.q.V) (by rw[←eP];exact sim.qs.ok.p1) sim.pd).mpr ⟨y,hy,hyb,rfl⟩
   exact kX.mpr ⟨_,this,rfl⟩
  ·obtain⟨y3,mi,si,rfl,_,_,_,_,_,_,_,_,_,_,kk⟩:=hp
   exact SqL.of (kk.k _ _ DF hD)
  ·obtain⟨y3,mi,si,rfl,esi,lm,si5,eB,ePi,rme,rowe,dl,nms,lnw,kk⟩:=hp
   rw[kN]at hv
   obtain⟨n,hn',rfl⟩:=mF.mp hv
   obtain⟨hi,en⟩:=hG.mp hn'
   have nV:∃z∈s5.q.V,z.1=n:=by
    have:n∈lvS P0 b s5.q.V:=by rw[lL,←en];exact mU hi
    rw[←qB7]at this
    obtain⟨k,hk,ek⟩:=kX.mp this
    obtain⟨y,hy,_,rfl⟩:=(q63 (P:=P0) (b:=b) (V:=s5.q.V) (by rw[←eP];exact sim.qs.ok.p1) sim.pd).mp hk
    exact⟨y,hy,ek⟩
   obtain⟨z,hz,ez⟩:=nV
   have nb:=nmb z hz
   rw[ez]at nb
   have hr0:0<rm si.q.B si.q.P si.q.fi:=by
    rw[eB,ePi,←eP]
    omega
   obtain⟨sp,rp⟩:=si5.put hr0 nb.1 nb.2
   obtain⟨cB,cl5,_⟩:=si5.spot hr0
   have cb:spF si.q si.cl≠b:=λy=>by
    rw[y,rowe,rowb,ePi]at cl5
    omega
   refine⟨_,rfl,_,rfl,d,hl,tl,nw,rs,P0,mi,si,n,rfl,lm,si5,ePi,hr0,by omega,λH2 lm2 k2=>?_⟩
   have el:putS si n=((m.lvs b).take (i+1)).foldl putS s5:=by
    rw[←mB hi,List.foldl_append,←esi,en]
    rfl
   refine⟨_,_,putS si n,rfl,el,lm2,sp,eB,ePi,?_,?_,λy hy hyb=>?_,λy hy=>?_,?_,kk.trans k2⟩
   ·rw[eB,ePi,←eP]at rp
    omega
   ·rw[←rowe]
    have:(mi.put (spF si.q si.cl) n).row b=_:=q4F (by rw[←lm.lr,lrB,←eB];exact cB)
    rw[this,hX cb]
   ·rcases qDN.mp hy with e|⟨e1,e2⟩
    ·exfalso
     rw[e]at hyb
     have hf:(si.q.fi.getD (spF si.q si.cl) 0).toNat<P0:=by
      rw[si5.fi _ cB,mH,←ePi]
      exact cl5
     rw[ePi]at hyb
     rw[←Int.natCast_ediv,Nat.mul_comm,Nat.mul_add_div (by omega),Nat.div_eq_of_lt hf]at hyb
     exact cb (by omega)
    ·have:=dl y e1 hyb
     rw[List.drop_eq_getElem_cons hi,en]at this
     rcases kI.mp this with z'|z'
     ·exact absurd z' e2
     ·exact z'
   ·rcases qDN.mp hy with e|⟨e1,e2⟩
    ·rw[e];exact⟨z,hz,ez⟩
    ·exact nms y e1
   ·have:(mi.put (spF si.q si.cl) n).nw.length≤mi.nw.length+1:=q7V
    omega
  ·obtain⟨y3,mi,si,rfl,esi,lm,si5,eB,ePi,rme,rowe,dl,nms,lnw,kk⟩:=hp
   rw[hC]at esi rme dl lnw
   rw[mZ]at esi
   rw[List.drop_length]at dl
   have emv:si=movS s5 b:=by
    rw[esi]
    unfold movS
    rw[sim.lvS hB]
   have nl:∀y∈si.q.V,¬y.2 / (si.q.P:Int)=(b:Int):=λy hy z=>by
    rw[ePi]at z
    exact absurd (dl y hy z) (by simp)
   obtain⟨sw,rw'⟩:=si5.wipe (b:=b) (by rw[eB];exact hB) (by rw[rowe,rowb,ePi]) nl
   refine⟨sz0,λe H5 n5 s5' h5=>?_⟩
   have lm5:=lm.same s5'
   have hbr:b<rs.length:=by omega
   refine⟨_,rfl,d,_,rfl,lm5.gH,_,rfl,hl,_,_,b,rfl,rfl,lm5.oh,q28 (by rw[hC];exact hbr),?_⟩
   rw[←List.map_set]
   have en5:e∉lmF d hl tl nw rs:=λz=>by
    obtain⟨o,e'⟩:=lm.in e z
    rw[n5]at e'
    cases e'
   have nin:∀{x:Addr},x∈lmF d hl tl nw rs→e≠x:=fun {x} hx z=>en5 (by rw[z];exact hx)
   have k6:Keep (lmF d hl tl nw rs) H5 (upd H5 hl (.lst ((rs.set b e).map V.ref))):=Keep.upd lm5.oh (λ_ z=>by cases z) (by simp)
   have nhl:∀{x:Addr} {o:HO},x≠hl→H5 x=some o→(upd H5 hl (.lst ((rs.set b e).map V.ref))) x=some o:=fun {x o} z e'=>(qD z).trans e'
   have dh:d≠hl:=λz=>by have:=lm5.od;rw[z,lm5.oh]at this;cases this
   have nwh:nw≠hl:=λz=>by have:=lm5.on;rw[z,lm5.oh]at this;cases this
   have od6:=nhl dh lm5.od
   have ot6:=nhl (Ne.symm lm.ht) lm5.ot
   have on6:=nhl nwh lm5.on
   have oh6:(upd H5 hl (.lst ((rs.set b e).map V.ref))) hl=_:=qH
   have e6:=nhl (nin (by simp)) h5
   have rw6:∀(c:Nat) r',rs[c]?=some r'→∃us,(upd H5 hl (.lst ((rs.set b e).map V.ref))) r'=some (.lst us)∧Paired (EnA (upd H5 hl (.lst ((rs.set b e).map V.ref)))) us (mi.row c):=λc r' h'=>by
    obtain⟨us,h1,h2⟩:=lm5.rw c r' h'
    exact⟨us,nhl (λz=>lm.nh (by rw[←z];exact mG h')) h1,vR k6 h2⟩
   generalize upd H5 hl (.lst ((rs.set b e).map V.ref))=H6 at k6 od6 ot6 on6 oh6 e6 rw6 ⊢
   have htl:b<mi.tm.length:=by rw[si5.tm,si5.lc,eB];exact hB
   have at2:atI (mi.tm.map V.int) (b:Int)=some (.int (mi.tm.getD b 0)):=by
    refine yC ?_
    rw[kN,hU,hE htl]
    rfl
   refine⟨_,rfl,d,_,rfl,DGet.k (k:=Sum.inr "times") od6,_,rfl,tl,_,_,_,rfl,rfl,SqL.of ot6,at2,_,_,rfl,rfl,tl,_,_,b,rfl,rfl,ot6,q28 (by rw[hC];exact htl),?_⟩
   rw[setV]
   have k7:Keep (lmF d hl tl nw rs) H6 (upd H6 tl (.lst ((mi.tm.set b (mi.tm.getD b 0+1)).map V.int))):=Keep.upd ot6 (λ_ z=>by cases z) (by simp)
   have ntl:∀{x:Addr} {o:HO},x≠tl→H6 x=some o→(upd H6 tl (.lst ((mi.tm.set b (mi.tm.getD b 0+1)).map V.int))) x=some o:=fun {x o} z e'=>(qD z).trans e'
   have dt:d≠tl:=λz=>by rw[z,ot6]at od6;cases od6
   have nwt:nw≠tl:=λz=>by rw[z,ot6]at on6;cases on6
   have kA:Keep (lmF d hl tl nw rs) H1 (upd H6 tl (.lst ((mi.tm.set b (mi.tm.getD b 0+1)).map V.int))):=((kk.trans (Keep.same s5')).trans k6).trans k7
   refine⟨_,rfl,D,_,rfl,.inl (SqL.of (kA.k _ _ DF hD)),?_⟩
   rw[hC,←lL]
   rw[emv]at sw rw' rme eB ePi nms
   have rr:∀c,(mi.wip b).row c=if b=c then[]else mi.row c:=λc=>q4F (by rw[←lm.lr];exact hbr)
   refine q (rs.set b e) (mi.wip b) _ ⟨ntl dt od6,ntl lm.ht oh6,qH,ntl nwt on6,λc r' h'=>?_,?_,qEP lm.nd (λz=>nin (x:=e) (by simp[z]) rfl),λz=>?_,λz=>?_,lm.ht,lm.dn⟩ sw ?_ ?_ nms eB (ePi.trans eP.symm) ((Keep.same s1).trans kA) λr hr'=>?_
   ·rw[rr]
    by_cases z:b=c
    ·subst z
     rw[wY hbr]at h'
     obtain rfl:=kF h'
     rw[kG rfl]
     exact⟨[],ntl (nin (by simp)) e6,.nil⟩
    ·rw[rO z]at h'
     rw[hX z]
     obtain⟨us,h1,h2⟩:=rw6 c r' h'
     exact⟨us,ntl (λy=>lm.nt (by rw[←y];exact mG h')) h1,vR k7 h2⟩
   ·rw[mV,lm.lr]
    show _=(mi.hd.set b []).length
    rw[mV]
   ·rcases List.mem_or_eq_of_mem_set z with z|z
    ·exact lm.nh z
    ·exact nin (x:=hl) (by simp) z.symm
   ·rcases List.mem_or_eq_of_mem_set z with z|z
    ·exact lm.nt z
    ·exact nin (x:=tl) (by simp) z.symm
   ·rw[lL]
    rw[eB,ePi]at rw'
    rw[eP]at rme ⊢
    omega
   ·show mi.nw.length≤_
    omega
   ·rcases List.mem_or_eq_of_mem_set hr' with z|z
    ·exact .inl z
    ·refine .inr ?_
     rw[z]
     have nH':H' e=none:=n5
     cases y:H e with
     |none=>rfl
     |some o=>
      have:=kk.k e o en5 (s1 _ _ y)
      rw[n5]at this
      cases this
noncomputable def spWe(t:Adr):Sp:=λvs H Q _=>∃x dx v,vs=[.ref x,v]∧H x=some (.ins t.C_Weighed dx [])∧Q .non (upd H x (.ins t.C_Weighed dx [("weigh",v)]))
theorem vY(T:Txt K mg t)(S:Fns K t):S.Weighed_init.Ok0 P w mg base 1 (spWe t):=by
 refine S.Weighed_init.F.ok0 q5I λcdv A _ s H vs Q E hr h=>?_
 ·obtain⟨x,dx,v,rfl,hx,q⟩:=h
  refine⟨_,(qE (jK (pv 0) (pv 1) rfl)),?_⟩
  try dsimp-beta-proj-iota-zeta-eta only[wishK,cxK]
  exact⟨_,rfl,_,rfl,x,_,dx,_,rfl,hx,T.cl_Weighed,T.na_Weighed_weigh,by simp,q⟩
noncomputable def spTu(t:Adr):Sp:=λvs H Q _=>∃x dx v,vs=[.ref x,v]∧H x=some (.ins t.C_Turned dx [])∧Q .non (upd H x (.ins t.C_Turned dx [("inner",v)]))
theorem q2Z(T:Txt K mg t)(S:Fns K t):S.Turned_init.Ok0 P w mg base 1 (spTu t):=by
 refine S.Turned_init.F.ok0 q75 λcdv A _ s H vs Q E hr h=>?_
 ·obtain⟨x,dx,v,rfl,hx,q⟩:=h
  refine⟨_,(qE (jK (pv 0) (pv 1) rfl)),?_⟩
  try dsimp-beta-proj-iota-zeta-eta only[wishK,cxK]
  exact⟨_,rfl,_,rfl,x,_,dx,_,rfl,hx,T.cl_Turned,T.na_Turned_inner,by simp,q⟩
noncomputable def kdR(k:Int):Rl:=if k=1 then .rk (λ_ _=>Tl.lv)else if k=2 then .rk (λ_ _=>Tl.bo)else if k=3 then .rk (λ_ _=>Tl.cl)else if k=4 then .rk (λ_ _ T=>0-T.b)else if k=5 then .rk (λ_ _ T=>3*T.lv+T.bo)else if k=6 then .rk (λ_ _ T=>-T.lv)else if k=7 then .rk (λ_ _ T=>-T.bo)else if k=8 then .rk (λpg nw=>rkW pg nw mnC)else if k=9 then .win 2 else .rk (λ_ _ _=>0)
theorem TbF.ne'{H:Hp}{b:Addr}(tb:TbF t H)(n:H b=none):b≠t.T_Plain_free:=λz=>by
 obtain⟨pt,hT,_⟩:=tb
 rw[z,hT]at n
 cases n
noncomputable def trl:List (Nat×Addr)→List Value
 | []=>[]
 |x::r=>rawInt (lmP x.1).line::rawInt (lmP x.1).col:: .ref x.2::trl r
theorem qGM:∀L,TriplesOk (trl L)
 | []=>trivial
 |_::r=>qGM r
theorem qDO{x:Nat×Addr}:∀{L},trl (L++[x])=trl L++[rawInt (lmP x.1).line,rawInt (lmP x.1).col,.ref x.2]
 | []=>rfl
 |y::r=>by
  show _::_::_::trl (r++[x])=_::_::_::(trl r++_)
  rw[qDO]
theorem qDP{p:Pos}:∀L,codeAmong p (trl L)=none∨∃x∈L,codeAmong p (trl L)=some (.ref x.2)
 | []=>.inl rfl
 |x::r=>by
  have e:codeAmong p (trl (x::r))=if((lmP x.1).line:Int)==(p.line:Int)&&((lmP x.1).col:Int)==(p.col:Int)then some (.ref x.2)else codeAmong p (trl r):=rfl
  rw[e]
  split
  ·exact .inr ⟨x,by simp,rfl⟩
  ·rcases qDP (p:=p) r with h|⟨y,hy,h⟩
   ·exact .inl h
   ·exact .inr ⟨y,by simp[hy],h⟩
noncomputable def TbW(t:Adr)(H:Hp):Prop:=∃ps L,H t.T_law_rule=some (.tbl ps)∧ps.toList=trl L∧∀x∈L,H x.2=some (cdO x.2 lmQ)
theorem TbW.map{H H':Hp}(h:TbW t H)(k1:∀ps,H t.T_law_rule=some (.tbl ps)→H' t.T_law_rule=some (.tbl ps))(k2:∀b p,H b=some (.ext p)→H' b=some (.ext p)):TbW t H':=by
 obtain⟨ps,L,a,b,c⟩:=h
 exact⟨ps,L,k1 _ a,b,λx hx=>k2 _ _ (c x hx)⟩
theorem TbW.same{H H':Hp}(h:TbW t H)(s:Same H H'):TbW t H':=h.map (λ_ e=>s _ _ e) (λ_ _ e=>s _ _ e)
noncomputable def RW'(t:Adr)(H H':Hp):Prop:=∀b o,b≠t.T_law_rule→H b=some o→H' b=some o
theorem RW'.ne{H:Hp}(tw:TbW t H){b:Addr}{o:HO}(e:H b=some o)(n:∀ps,o≠ .tbl ps):b≠t.T_law_rule:=λz=>by
 obtain⟨ps,L,a,_⟩:=tw
 rw[z,a]at e
 exact n _ (kF e).symm
theorem RW'.tbF{H H':Hp}(h:RW' t H H')(T:Txt K mg t)(tw:TbW t H)(tb:TbF t H):TbF t H':=by
 obtain⟨ps,a,b⟩:=tb
 refine⟨ps,h _ _ T.tne_Plain_free a,?_⟩
 rcases b with b|⟨c,b,d⟩
 ·exact .inl b
 ·exact .inr ⟨c,b,h _ _ (RW'.ne tw d (λ_ z=>by cases z)) d⟩
theorem qAB{H:Hp}(tw:TbW t H)(i:Nat):∃ps,H t.T_law_rule=some (.tbl ps)∧TriplesOk ps.toList∧((codeAmong (lmP i) ps.toList=none∧∀c H',H' c=some (cdO c lmQ)→H' t.T_law_rule=some (.tbl (ps++#[rawInt (lmP i).line,rawInt (lmP i).col,.ref c]))→RW' t H H'→TbW t H')∨∃c,codeAmong (lmP i) ps.toList=some (.ref c)∧H c=some (cdO c lmQ)):=by
 obtain⟨ps,L,hT,eL,hc⟩:=id tw
 refine⟨ps,hT,by rw[eL];exact qGM L,?_⟩
 rcases qDP (p:=lmP i) L with h|⟨x,hx,h⟩
 ·refine .inl ⟨by rw[eL];exact h,λc H' b d e=>⟨_,L++[(i,c)],d,?_,λy hy=>?_⟩⟩
  ·rw[qDO,Array.toList_append,eL]
  ·rcases gF.mp hy with hy|hy
   ·have:=hc y hy
    exact e _ _ (RW'.ne tw this (λ_ z=>by cases z)) this
   ·rw[kC.mp hy]
    exact b
 ·exact .inr ⟨x.2,by rw[eL];exact h,hc x hx⟩
noncomputable def spLr(t:Adr):Sp:=λvs H Q _=>∃k:Int,vs=[.int k]∧TbF t H∧TbW t H∧∀r rl H',H r=none→Ruo t H' r rl (kdR k)→TbF t H'→TbW t H'→RW' t H H'→Q (.ref r) H'
theorem qBR(T:Txt K mg t)(S:Fns K t)(B:BmIn base mg):FnOk P w K mg base (CX0) 5 t.f_law_rule S.fd_law_rule ["_law_kind"] (spLr t):=by
 refine S.F_law_rule.ok0 qBG λA _ s H vs Q E hr h=>?_
 ·obtain⟨k,rfl,tb,tw,q⟩:=h
  have mk:∀{C r d:Addr} {fs:List (Str×V)},H r=none→H d=none→(∀H',H' r=some (.ins C d fs)→RuX t H' r [] (kdR k))→Q (.ref r) (upd (upd H d (.own r)) r (.ins C d fs)):=fun {C r d fs} nr nd hR=>by
   have s:Same H (upd (upd H d (.own r)) r (.ins C d fs)):=λb o e=>by rw[qD (qI e nr),qD (qI e nd)];exact e
   exact q r [] _ nr ⟨hR _ qH,tb.ne' nr,by simp,λb hb=>absurd hb (by simp)⟩ (tb.same s) (tw.same s) (λb o _ e=>s b o e)
  have wei:∀{i:Nat} {f:Tl→Int} {r d g c:Addr} {pm ct:Value} {H1:Hp},kdR k=.rk (λ_ _=>f)→(∀H',LamC i H' g c→LmT H' g c f)→H g=none→H1 g=some (fnO g (lmFd i pm ct c))→H1 c=some (cdO c lmQ)→TbW t H1→RW' t H H1→H1 r=none→H1 d=none→Q (.ref r) (upd (upd H1 d (.own r)) r (.ins t.C_Weighed d [("weigh",.ref g)])):=fun {i f r d g c pm ct H1} ek lm ng e1 e2 tw1 rw1 nr nd=>by
   have s:Same H1 (upd (upd H1 d (.own r)) r (.ins t.C_Weighed d [("weigh",.ref g)])):=λb o e=>by rw[qD (qI e nr),qD (qI e nd)];exact e
   have tb1:=rw1.tbF T tw tb
   have nrH:H r=none:=by
    cases z:H r with
    |none=>rfl
    |some o=>
     by_cases y:r=t.T_law_rule
     ·obtain⟨ps,L,a,_⟩:=tw1
      rw[y,a]at nr
      cases nr
     ·rw[rw1 _ _ y z]at nr
      cases nr
   have h2:(upd (upd H1 d (.own r)) r (.ins t.C_Weighed d [("weigh",.ref g)])) r=some (.ins t.C_Weighed d [("weigh",.ref g)]):=qH
   generalize upd (upd H1 d (.own r)) r (.ins t.C_Weighed d [("weigh",.ref g)])=H2 at s h2 ⊢
   refine q r [g,c] H2 nrH ⟨?_,tb1.ne' nr,λz=>?_,λb hb=>?_⟩ (tb1.same s) (tw1.same s) (λb o nb e=>s _ _ (rw1 b o nb e))
   ·rw[ek]
    exact .inr (.inr (.inr (.inr (.inr ⟨d,g,c,f,by simp,by simp,h2,lm _ ⟨pm,ct,s _ _ e1,s _ _ e2⟩,rfl⟩))))
   ·obtain⟨ps,a,_⟩:=tb1
    have z:t.T_Plain_free=g∨t.T_Plain_free=c:=by simpa using z
    rcases z with z|z
    ·rw[←z,a]at e1
     cases e1
    ·rw[←z,a]at e2
     cases e2
   ·have hb:b=g∨b=c:=by simpa using hb
    rcases hb with rfl|rfl
    ·exact⟨_,s _ _ e1,λ_ _ _ z=>by cases z⟩
    ·exact⟨_,s _ _ e2,λ_ _ _ z=>by cases z⟩
  have tur:∀{C r d i di:Addr},(∀H',H' r=some (.ins t.C_Turned d [("inner",.ref i)])→H' i=some (.ins C di [])→RuX t H' r [i] (kdR k))→H i=none→H di=none→(upd (upd H di (.own i)) i (.ins C di [])) r=none→(upd (upd H di (.own i)) i (.ins C di [])) d=none→Q (.ref r) (upd (upd (upd (upd H di (.own i)) i (.ins C di [])) d (.own r)) r (.ins t.C_Turned d [("inner",.ref i)])):=fun {C r d i di} hR ni ndi nr nd=>by
   have s1:=q9F (C:=C) ni ndi
   have h1:(upd (upd H di (.own i)) i (.ins C di [])) i=some (.ins C di []):=qH
   generalize upd (upd H di (.own i)) i (.ins C di [])=H1 at s1 h1 nr nd ⊢
   have s3:Same H1 (upd (upd H1 d (.own r)) r (.ins t.C_Turned d [("inner",.ref i)])):=λb o e=>by rw[qD (qI e nr),qD (qI e nd)];exact e
   have s03:=s1.trans s3
   refine q r [i] _ (Same.free s1 nr) ⟨hR _ qH (s3 _ _ h1),tb.ne' (Same.free s1 nr),λz=>tb.ne' ni (kC.mp z).symm,λb hb=>by
    obtain rfl:=kC.mp hb
    exact⟨_,s3 _ _ h1,λ_ _ _ z=>by cases z;rfl⟩⟩ (tb.same s03) (tw.same s03) (λb o _ e=>s03 b o e)
  refine⟨_,(qB (jB (qS u9 (pv 0) qG (qU _)) (qE (qL (q4Q T.mk0_Fewest rfl T.mg_Fewest))) qQ) (qB (jB (qS u9 (pv 0) qG (qU _)) (qE (qL (q4Q T.mk0_Eldest rfl T.mg_Eldest))) qQ) (qB (jB (qS u9 (pv 0) qG (qU _)) (qE (qL (vI T.mk_Weighed (vY T S).mono hr rfl T.mg_Weighed S.Weighed_init.b .nil qK (qA (q62 (clos:=[]) rfl T.cd_law_rule B rfl rfl) qC)))) qQ) (qB (jB (qS u9 (pv 0) qG (qU _)) (qE (qL (vI T.mk_Weighed (vY T S).mono hr rfl T.mg_Weighed S.Weighed_init.b .nil qK (qA (q62 (clos:=[]) rfl T.cd_law_rule B rfl rfl) qC)))) qQ) (qB (jB (qS u9 (pv 0) qG (qU _)) (qE (qL (vI T.mk_Weighed (vY T S).mono hr rfl T.mg_Weighed S.Weighed_init.b .nil qK (qA (q62 (clos:=[]) rfl T.cd_law_rule B rfl rfl) qC)))) qQ) (qB (jB (qS u9 (pv 0) qG (qU _)) (qE (qL (vI T.mk_Turned (q2Z T S).mono hr rfl T.mg_Turned S.Turned_init.b .nil qK (qA (q4Q T.mk0_Fewest rfl T.mg_Fewest) qC)))) qQ) (qB (jB (qS u9 (pv 0) qG (qU _)) (qE (qL (vI T.mk_Turned (q2Z T S).mono hr rfl T.mg_Turned S.Turned_init.b .nil qK (qA (q4Q T.mk0_Eldest rfl T.mg_Eldest) qC)))) qQ) (qB (jB (qS u9 (pv 0) qG (qU _)) (qE (qL (q4Q T.mk0_Worth rfl T.mg_Worth))) qQ) (qB (jB (qS u9 (pv 0) qG (qU _)) (qE (qL (vI T.mk_Window (q7M T S).mono hr rfl T.mg_Window S.Window_init.b .nil qK (qA qG qC)))) qQ) (qE (qL (q4Q T.mk0_Rule rfl T.mg_Rule)))))))))))),?_⟩
  try dsimp-beta-proj-iota-zeta-eta only[wishK,cxK]
  refine⟨_,rfl,rfl,_,rfl,?_⟩
  rw[yM]
  refine ite2 (λzz=>?_) (λzz=>?_)
  ·have z:k=1:=kP zz
   have ek:kdR k=.rk λ_ _=>Tl.lv:=by
    unfold kdR
    rw[kG z]
   exact λr d nr nd nn=>mk nr nd λH' e=>by rw[ek];exact .inr (.inl ⟨d,e,rfl⟩)
  have z1:¬k=1:=λy=>zz (hI y)
  refine⟨_,rfl,rfl,_,rfl,?_⟩
  rw[yM]
  refine ite2 (λzz=>?_) (λzz=>?_)
  ·have z:k=2:=kP zz
   have ek:kdR k=.rk λ_ _=>Tl.bo:=by
    unfold kdR
    rw[hX z1,kG z]
   exact λr d nr nd nn=>mk nr nd λH' e=>by rw[ek];exact .inr (.inr (.inl ⟨d,e,rfl⟩))
  have z2:¬k=2:=λy=>zz (hI y)
  refine⟨_,rfl,rfl,_,rfl,?_⟩
  rw[yM]
  refine ite2 (λzz=>?_) (λzz=>?_)
  ·have z:k=3:=kP zz
   have ek:kdR k=.rk λ_ _=>Tl.cl:=by
    unfold kdR
    rw[hX z1,hX z2,kG z]
   obtain⟨ps,hT,ht,hc⟩:=qAB tw 2
   refine⟨ps,hT,ht,?_⟩
   rcases hc with⟨cn,gr⟩|⟨c,cs,hcd⟩
   ·refine .inl ⟨cn,λg c ct H1 ng e1 e2 e3 rw1=>?_⟩
    refine λr d nr nd nn=>⟨r,d,.ref g,rfl,qH,rfl,?_⟩
    rw[uI]
    exact wei (i:=2) ek (λH' h=>.inl ⟨h,rfl⟩) ng e1 e2 (gr c H1 e2 e3 rw1) rw1 nr nd
   ·refine .inr ⟨c,cs,λg ct H1 ng e1 s1=>?_⟩
    refine λr d nr nd nn=>⟨r,d,.ref g,rfl,qH,rfl,?_⟩
    rw[uI]
    exact wei (i:=2) ek (λH' h=>.inl ⟨h,rfl⟩) ng e1 (s1 _ _ hcd) (tw.same s1) (λb o _ e=>s1 b o e) nr nd
  have z3:¬k=3:=λy=>zz (hI y)
  refine⟨_,rfl,rfl,_,rfl,?_⟩
  rw[yM]
  refine ite2 (λzz=>?_) (λzz=>?_)
  ·have z:k=4:=kP zz
   have ek:kdR k=.rk λ_ _ T=>0-T.b:=by
    unfold kdR
    rw[hX z1,hX z2,hX z3,kG z]
   obtain⟨ps,hT,ht,hc⟩:=qAB tw 3
   refine⟨ps,hT,ht,?_⟩
   rcases hc with⟨cn,gr⟩|⟨c,cs,hcd⟩
   ·refine .inl ⟨cn,λg c ct H1 ng e1 e2 e3 rw1=>?_⟩
    refine λr d nr nd nn=>⟨r,d,.ref g,rfl,qH,rfl,?_⟩
    rw[uI]
    exact wei (i:=3) ek (λH' h=>.inr (.inl ⟨h,rfl⟩)) ng e1 e2 (gr c H1 e2 e3 rw1) rw1 nr nd
   ·refine .inr ⟨c,cs,λg ct H1 ng e1 s1=>?_⟩
    refine λr d nr nd nn=>⟨r,d,.ref g,rfl,qH,rfl,?_⟩
    rw[uI]
    exact wei (i:=3) ek (λH' h=>.inr (.inl ⟨h,rfl⟩)) ng e1 (s1 _ _ hcd) (tw.same s1) (λb o _ e=>s1 b o e) nr nd
  have z4:¬k=4:=λy=>zz (hI y)
  refine⟨_,rfl,rfl,_,rfl,?_⟩
  rw[yM]
  refine ite2 (λzz=>?_) (λzz=>?_)
  ·have z:k=5:=kP zz
   have ek:kdR k=.rk λ_ _ T=>3*T.lv+T.bo:=by
    unfold kdR
    rw[hX z1,hX z2,hX z3,hX z4,kG z]
   obtain⟨ps,hT,ht,hc⟩:=qAB tw 4
   refine⟨ps,hT,ht,?_⟩
   rcases hc with⟨cn,gr⟩|⟨c,cs,hcd⟩
   ·refine .inl ⟨cn,λg c ct H1 ng e1 e2 e3 rw1=>?_⟩
    refine λr d nr nd nn=>⟨r,d,.ref g,rfl,qH,rfl,?_⟩
    rw[uI]
    exact wei (i:=4) ek (λH' h=>.inr (.inr ⟨h,rfl⟩)) ng e1 e2 (gr c H1 e2 e3 rw1) rw1 nr nd
   ·refine .inr ⟨c,cs,λg ct H1 ng e1 s1=>?_⟩
    refine λr d nr nd nn=>⟨r,d,.ref g,rfl,qH,rfl,?_⟩
    rw[uI]
    exact wei (i:=4) ek (λH' h=>.inr (.inr ⟨h,rfl⟩)) ng e1 (s1 _ _ hcd) (tw.same s1) (λb o _ e=>s1 b o e) nr nd
  have z5:¬k=5:=λy=>zz (hI y)
  refine⟨_,rfl,rfl,_,rfl,?_⟩
  rw[yM]
  refine ite2 (λzz=>?_) (λzz=>?_)
  ·have z:k=6:=kP zz
   have ek:kdR k=.rk λ_ _ T=>-T.lv:=by
    unfold kdR
    rw[hX z1,hX z2,hX z3,hX z4,hX z5,kG z]
   refine λri di nri ndi nn=>?_
   refine λr d nr nd nn2=>⟨r,d,.ref ri,rfl,qH,rfl,?_⟩
   rw[uI]
   exact tur (λH' a b=>by rw[ek];exact .inr (.inr (.inr (.inl ⟨ri,d,di,by simp,a,.inl ⟨b,rfl⟩⟩)))) nri ndi nr nd
  have z6:¬k=6:=λy=>zz (hI y)
  refine⟨_,rfl,rfl,_,rfl,?_⟩
  rw[yM]
  refine ite2 (λzz=>?_) (λzz=>?_)
  ·have z:k=7:=kP zz
   have ek:kdR k=.rk λ_ _ T=>-T.bo:=by
    unfold kdR
    rw[hX z1,hX z2,hX z3,hX z4,hX z5,hX z6,kG z]
   refine λri di nri ndi nn=>?_
   refine λr d nr nd nn2=>⟨r,d,.ref ri,rfl,qH,rfl,?_⟩
   rw[uI]
   exact tur (λH' a b=>by rw[ek];exact .inr (.inr (.inr (.inl ⟨ri,d,di,by simp,a,.inr ⟨b,rfl⟩⟩)))) nri ndi nr nd
  have z7:¬k=7:=λy=>zz (hI y)
  refine⟨_,rfl,rfl,_,rfl,?_⟩
  rw[yM]
  refine ite2 (λzz=>?_) (λzz=>?_)
  ·have z:k=8:=kP zz
   have ek:kdR k=.rk λpg nw=>rkW pg nw mnC:=by
    unfold kdR
    rw[hX z1,hX z2,hX z3,hX z4,hX z5,hX z6,hX z7,kG z]
   exact λr d nr nd nn=>mk nr nd λH' e=>by rw[ek];exact .inr (.inr (.inr (.inr (.inl ⟨d,e,rfl⟩))))
  have z8:¬k=8:=λy=>zz (hI y)
  refine⟨_,rfl,rfl,_,rfl,?_⟩
  rw[yM]
  refine ite2 (λzz=>?_) (λzz=>?_)
  ·have z:k=9:=kP zz
   have ek:kdR k=.win 2:=by
    unfold kdR
    rw[hX z1,hX z2,hX z3,hX z4,hX z5,hX z6,hX z7,hX z8,kG z]
   refine λr d nr nd nn=>⟨r,d,2,rfl,qH,by decide,by decide,rfl,?_⟩
   rw[uI]
   exact mk nr nd λH' e=>by rw[ek];exact⟨by decide,d,e⟩
  have z9:¬k=9:=λy=>zz (hI y)
  exact λr d nr nd nn=>mk nr nd λH' e=>by rw[show kdR k=.rk λ_ _ _=>0 by unfold kdR;rw[hX z1,hX z2,hX z3,hX z4,hX z5,hX z6,hX z7,hX z8,hX z9]];exact .inl ⟨d,e,rfl⟩
noncomputable def rkV(kd pg nw:Int)(T:Tl):Int:=if kd=8 then rkW pg nw 60 T else[0,T.lv,T.bo,T.cl,0-T.b,3*T.lv+T.bo,0-T.lv,0-T.bo].getD kd.toNat 0
noncomputable def spRk:Sp:=λvs H Q _=>∃kd d hl tl nw rs P m s,∃b:Nat,vs=[.int kd,.ref d,.int (b:Int)]∧LmAt H d hl tl nw rs P m∧Sim m s∧s.q.P=P∧b∈opB s.q∧0≤kd∧kd<9∧∀H',Same H H'→Q (.int (rkV kd (P:Int) s.q.nx (tyS s b))) H'
theorem qBS(T:Txt K mg t)(S:Fns K t):S.law_rank.Ok0 P w mg base 2 spRk:=by
 refine S.law_rank.F.ok0 q04 λcdv A _ s H vs Q E hr h=>?_
 ·obtain⟨kd,d,hl,tl,nw,rs,P0,m,s5,b,rfl,hm,sim,eP,hb,k0,k9,q⟩:=h
  have hu:=q1X hr
  have s9:(99999:Nat)<sizeLine:=by decide
  obtain⟨e,he,eb⟩:=sim.row0 hb
  have bB:=(q1H hb).1
  have lrB:rs.length=s5.q.B:=by rw[hm.lr,sim.lb]
  have rowl:=sim.lP bB
  have p1:=sim.qs.ok.p1
  have p16:=sim.qs.ok.p2
  have b16:=sim.qs.ok.b2
  have lvb:=(q1H hb).2.2
  have el:((((m.lvs b).map V.int).length:Nat):Int)=(tyS s5 b).lv:=by
   rw[hC]
   exact sim.lv' hb
  have l0:0≤(tyS s5 b).lv:=by
   rw[←el]
   omega
  have l1:(tyS s5 b).lv<(P0:Int):=by
   rw[←eP]
   exact lvb
  obtain⟨r,er,at1⟩:=q4X (rs:=rs) (i:=b) (by omega)
  refine⟨_,(qB (qV (i:=3) q04.nd rfl (Or.inl rfl) (qW j8 (by rfl) T.b_len m7 (qA (qM (q2Y T S).mono hr rfl T.mg_law_live T.kp_law_live S.law_live.b .nil qK (qA (pv 1) (qA (pv 2) qC))) qC))) (qB (qV (i:=4) q04.nd rfl (Or.inl rfl) (qY jL (qY jE (qY jE (jS hu (pv 1) jO (λ_ _=>rfl)) (pv 2) (λ_ _=>rfl)) qG (λ_ _=>rfl)) qG (λ_ _=>rfl))) (qB (jB (qS u9 (pv 0) qG (qU _)) (qB (qV (i:=5) q04.nd rfl (Or.inl rfl) (qN q1F qG (qN yI (jS hu (pv 1) jO (λ_ _=>rfl)) (pv 3)))) (qE (qL (qN jR qG (qN yB (qN yB (qN jR (jS hu (pv 1) jO (λ_ _=>rfl)) (pv 3)) (qN jR (qN yI (jS hu (pv 1) jO (λ_ _=>rfl)) qG) (pv 4))) (pv 5)))))) qQ) (qE (qL (qY jE (jF (qA qG (qA (pv 3) (qA (pv 4) (qA (qY jE (jS hu (pv 1) jO (λ_ _=>rfl)) (pv 2) (λ_ _=>rfl)) (qA (qN jR qG (pv 2)) (qA (qN yI (qN yB qG (pv 3)) (pv 4)) (qA (qN jR qG (pv 3)) (qA (qN jR qG (pv 4)) qC))))))))) (pv 0) (λ_ _=>rfl))))))),?_⟩
  try dsimp-beta-proj-iota-zeta-eta only[wishK,cxK]
  refine⟨_,rfl,_,rfl,d,hl,tl,nw,rs,P0,m,b,rfl,hm,by omega,sim.nd,λe he=>?_,by omega,λD H1 s1 nD hD=>?_⟩
  ·obtain⟨f,hf,ef⟩:=gK he
   exact(sim.le b f e.1 e.2 (by rw[hE hf,ef])).2
  refine⟨D,_,rfl,.inl (SqL.of hD),?_⟩
  rw[el]
  have m1:=hm.same s1
  obtain⟨us,hus,pr⟩:=m1.rw b r er
  have lu:=pr.len
  have rl0:=q0B he
  have eu:us[0]?=some (us[0]'(by omega)):=hE _
  obtain⟨e',he',p,ep,hpp⟩:=Paired.at pr eu
  rw[he]at he'
  obtain rfl:=kF he'
  rw[ep]at eu
  refine⟨_,rfl,d,_,rfl,m1.gH,_,rfl,hl,_,_,_,rfl,rfl,SqL.of m1.oh,at1,r,_,_,_,rfl,rfl,SqL.of hus,yC (j:=0) eu,p,_,1,_,rfl,rfl,SqT.of hpp,rfl,?_⟩
  rw[eb]
  refine⟨_,rfl,rfl,_,rfl,?_⟩
  rw[yM]
  refine ite2 (λzz=>?_) (λzz=>?_)
  ·have z:kd=8:=kP zz
   refine⟨_,rfl,d,_,rfl,m1.gP,_,rfl,_,_,rfl,rfl,_,_,rfl,rfl,⟨by omega,by omega⟩,?_⟩
   have sh:0≤60 / ((P0:Int)+(tyS s5 b).lv)∧60 / ((P0:Int)+(tyS s5 b).lv)≤60:=⟨Int.ediv_nonneg (by decide) (by omega),Int.ediv_le_self _ (by decide)⟩
   refine⟨_,rfl,d,_,rfl,m1.gP,_,rfl,_,_,rfl,rfl,_,rfl,d,_,rfl,m1.gS,_,_,rfl,rfl,_,rfl,_,_,rfl,rfl,_,_,rfl,rfl,.inl ⟨by omega,by omega⟩,_,rfl,_,_,rfl,rfl,.inr ⟨by omega,by omega⟩,_,_,rfl,rfl,?_⟩
   have:=q H1 s1
   unfold rkV at this
   rw[kG z]at this
   unfold rkW at this
   rw[sim.sx]at this
   exact this
  ·have z:¬kd=8:=λy=>zz (hI y)
   have atT:atI (m.tm.map V.int) (b:Int)=some (.int (tyS s5 b).cl):=by
    refine yC ?_
    rw[kN,sim.tm]
    show _=some (V.int (s5.cl.getD b 0))
    rw[hU,hE (by rw[sim.lc];exact bB)]
    rfl
   refine⟨_,rfl,_,rfl,_,rfl,d,_,rfl,m1.gT,_,rfl,tl,_,_,_,rfl,rfl,SqL.of m1.ot,atT,_,rfl,_,_,rfl,rfl,_,rfl,_,_,rfl,rfl,.inl ⟨by decide,by decide⟩,_,rfl,_,_,rfl,rfl,_,rfl,_,_,rfl,rfl,_,rfl,_,_,rfl,rfl,by show 8≤sizeLine;decide,λl H2 n2 s2 h2=>?_⟩
   have:=q H2 (s1.trans s2)
   unfold rkV at this
   rw[hX z]at this
   have kk:kd=0∨kd=1∨kd=2∨kd=3∨kd=4∨kd=5∨kd=6∨kd=7:=by omega
   refine⟨_,rfl,l,_,kd,.int _,rfl,rfl,SqL.of h2,?_,this⟩
   rcases kk with rfl|rfl|rfl|rfl|rfl|rfl|rfl|rfl<;>rfl
theorem q4L{pg nw many:Int}{A B:Tl}(m:Mny pg many)(a0:0≤A.lv)(a1:A.lv≤pg)(b0:0≤B.lv)(b1:B.lv≤pg):(gain pg nw A*(pg+B.lv)>gain pg nw B*(pg+A.lv))↔rkW pg nw many A<rkW pg nw many B:=by
 obtain⟨p1,m0,md⟩:=m
 obtain⟨sa,ea⟩:=md A.lv a0 a1
 obtain⟨sb,eb⟩:=md B.lv b0 b1
 have da:many / (pg+A.lv)=sa:=by rw[ea];exact Int.mul_ediv_cancel_left _ (by omega)
 have db:many / (pg+B.lv)=sb:=by rw[eb];exact Int.mul_ediv_cancel_left _ (by omega)
 unfold rkW
 rw[da,db]
 show gain pg nw B*(pg+A.lv)<gain pg nw A*(pg+B.lv)↔0-gain pg nw A*sa<0-gain pg nw B*sb
 have pa:0<pg+A.lv:=by omega
 have pb:0<pg+B.lv:=by omega
 have e:(0-gain pg nw A*sa<0-gain pg nw B*sb)↔gain pg nw B*sb<gain pg nw A*sa:=by omega
 rw[e,←q1U (x:=gain pg nw B*(pg+A.lv)) m0,←q1U (x:=gain pg nw B*sb) (Int.mul_pos pa pb)]
 have e1:gain pg nw B*(pg+A.lv)*many=gain pg nw B*sb*((pg+A.lv)*(pg+B.lv)):=by rw[eb];ac_rfl
 have e2:gain pg nw A*(pg+B.lv)*many=gain pg nw A*sa*((pg+A.lv)*(pg+B.lv)):=by rw[ea];ac_rfl
 rw[e1,e2]
theorem qIC{pg:Int}(p1:1≤pg)(p3:pg≤3):Mny pg 60:=⟨p1,by decide,λj j0 j1=>by
 have:pg+j=1∨pg+j=2∨pg+j=3∨pg+j=4∨pg+j=5∨pg+j=6:=by omega
 rcases this with z|z|z|z|z|z<;>rw[z]<;>decide⟩
theorem q4M{kd:Int}{s:RS}{pg nw:Int}{f:Int→Int→Tl→Int}(ek:kdR kd=.rk f){A:Tl}(hA:A∈opS s)(le:∀o∈opS s,lx [f pg nw o,o.b] [f pg nw A,A.b]=false):(kdR kd).ch pg nw (opS s)=(A.b,kdR kd):=by
 rw[ek]
 show(pk (f pg nw) (opS s),Rl.rk f)=_
 rw[qGG qDG hA le]
theorem qLQ{kd:Int}{s:RS}{pg nw:Int}(k0:0≤kd)(k9:kd<9)(p1:1≤pg)(p3:pg≤3)(lv:∀o∈opS s,0≤o.lv∧o.lv≤pg){A:Tl}(hA:A∈opS s)(le:∀o∈opS s,lx [rkV kd pg nw o,o.b] [rkV kd pg nw A,A.b]=false):(kdR kd).ch pg nw (opS s)=(A.b,kdR kd):=by
 have kk:kd=0∨kd=1∨kd=2∨kd=3∨kd=4∨kd=5∨kd=6∨kd=7∨kd=8:=by omega
 rcases kk with rfl|rfl|rfl|rfl|rfl|rfl|rfl|rfl|rfl
 ·exact q4M (f:=λ_ _ _=>0) rfl hA le
 ·exact q4M (f:=λ_ _=>Tl.lv) rfl hA le
 ·exact q4M (f:=λ_ _=>Tl.bo) rfl hA le
 ·exact q4M (f:=λ_ _=>Tl.cl) rfl hA le
 ·exact q4M (f:=λ_ _ T=>0-T.b) rfl hA le
 ·exact q4M (f:=λ_ _ T=>3*T.lv+T.bo) rfl hA le
 ·refine q4M (f:=λ_ _ T=>-T.lv) rfl hA λo ho=>?_
  have:=le o ho
  have this:lx [0-o.lv,o.b] [0-A.lv,A.b]=false:=this
  rw[Int.zero_sub,Int.zero_sub]at this
  exact this
 ·refine q4M (f:=λ_ _ T=>-T.bo) rfl hA λo ho=>?_
  have:=le o ho
  have this:lx [0-o.bo,o.b] [0-A.bo,A.b]=false:=this
  rw[Int.zero_sub,Int.zero_sub]at this
  exact this
 ·refine q4M (f:=λpg nw=>rkW pg nw mnC) rfl hA λo ho=>?_
  have:=le o ho
  have this:lx [rkW pg nw 60 o,o.b] [rkW pg nw 60 A,A.b]=false:=this
  rw[lxd2]at this ⊢
  refine hV λz=>of_decide_eq_false this ?_
  obtain⟨a0,a1⟩:=lv A hA
  obtain⟨o0,o1⟩:=lv o ho
  have h1:rkW pg nw mnC o<rkW pg nw mnC A↔rkW pg nw 60 o<rkW pg nw 60 A:=(q4L (qCJ p1 (by omega)) o0 o1 a0 a1).symm.trans (q4L (qIC p1 p3) o0 o1 a0 a1)
  have h2:rkW pg nw mnC A<rkW pg nw mnC o↔rkW pg nw 60 A<rkW pg nw 60 o:=(q4L (qCJ p1 (by omega)) a0 a1 o0 o1).symm.trans (q4L (qIC p1 p3) a0 a1 o0 o1)
  omega
theorem ch_9{s:RS}{pg nw:Int}{A:Tl}(hA:A∈(agd (opS s)).take 2)(le:∀o∈(agd (opS s)).take 2,lx [rkV 1 pg nw o,o.b] [rkV 1 pg nw A,A.b]=false):(kdR 9).ch pg nw (opS s)=(A.b,kdR 9):=by
 show(pk Tl.lv (winC 2 (opS s)),Rl.win 2)=(A.b,Rl.win 2)
 rw[qHS qDG (m:=2) hA le]
theorem qGN{s:RS}{A:List Tl}(AP:A.Perm (opS s))(w:A.Pairwise λx y=>lx (keyB y) (keyB x)=false):A=agd (opS s):=by
 refine List.Perm.eq_of_pairwise (le:=λx y=>lx (keyB y) (keyB x)=false) (λa b ha hb h1 h2=>?_) w (q9N (k:=λT=>[T.bo,T.b])) (AP.trans (List.mergeSort_perm _ _).symm)
 have e:=q09 _ _ h2 h1
 have e:[a.bo,a.b]=[b.bo,b.b]:=e
 injection e with _ e
 injection e with e _
 obtain⟨x,_,rfl⟩:=q90 (AP.mem_iff.mp ha)
 obtain⟨y,_,rfl⟩:=q90 (List.mem_mergeSort.mp hb)
 have e:(x:Int)=(y:Int):=e
 rw[show x=y by omega]
noncomputable def qLR:Sp:=λvs H Q _=>∃kd d hl tl nw rs P m s,vs=[.int kd,.ref d]∧LmAt H d hl tl nw rs P m∧Sim m s∧s.q.P=P∧opB s.q≠[]∧0≤kd∧kd<10∧P≤3∧∀(b:Nat) H',b∈opB s.q→(kdR kd).ch (P:Int) s.q.nx (opS s)=((b:Int),kdR kd)→Same H H'→Q (.int (b:Int)) H'
theorem q8D(T:Txt K mg t)(S:Fns K t):S.law_chosen.Ok0 P w mg base 3 qLR:=by
 refine S.law_chosen.F.ok0 vK λcdv A _ s H vs Q E hr h=>?_
 ·obtain⟨kd,d,hl,tl,nw,rs,P0,m,s5,rfl,hm,sim,eP,ne,k0,k10,p3,q⟩:=h
  have hu:=q1X hr
  have s9:(99999:Nat)<sizeLine:=by decide
  have lrB:rs.length=s5.q.B:=by rw[hm.lr,sim.lb]
  have p1:=sim.qs.ok.p1
  have b16:=sim.qs.ok.b2
  have rowle:∀b,(m.row b).length≤100:=λb=>by
   by_cases y:b<s5.q.B
   ·have:=sim.lP y
    omega
   ·show(m.hd.getD b []).length≤100
    rw[hU,rH (by rw[sim.lb];omega)]
    exact mN _
  have ky:∀b,∀e∈m.row b,e.1∈m.nw.map (·.1):=λb e he=>by
   obtain⟨f,hf,ef⟩:=gK he
   exact(sim.le b f e.1 e.2 (by rw[hE hf,ef])).2
  have lvok:∀o∈opS s5,0≤o.lv∧o.lv≤(P0:Int):=λo ho=>by
   obtain⟨b,hb,rfl⟩:=q90 ho
   have h1:=sim.lv' hb
   have h2:(tyS s5 b).lv<(s5.q.P:Int):=(q1H hb).2.2
   rw[eP]at h2
   omega
  have eV:(opB s5.q).map vn=(opS s5).map λT=>V.int T.b:=by
   unfold opS
   rw[List.map_map]
   rfl
  have neS:opS s5≠[]:=λz=>ne (List.map_eq_nil_iff.mp z)
  have l16:(opS s5).length≤16:=by
   unfold opS opB
   rw[hC]
   have:=kY (λb=>decide (s5.q.fi.getD b 0=(s5.q.P:Int))&&decide (s5.q.lv.getD b 0<(s5.q.P:Int))) (List.range s5.q.B)
   rw[mR]at this
   omega
  refine⟨_,(qB (qV (i:=2) vK.nd rfl (Or.inl rfl) (qM (qBQ T S).mono hr rfl T.mg_law_ways T.kp_law_ways S.law_ways.b .nil qK (qA (pv 1) qC))) (q48 (jB (qS u9 (pv 0) qG (qU _)) (qB (q27 (i:=2) ["_law_born","_law_block"] [] rfl (jP (qAK qCW (qW zB (by rfl) T.b_sorted (by kernel_rfl) (qA (yH ["_law_state","_law_k"] [1] rfl (jP (pv 2)) (λ_ _ _ _ _=>(qX (i:=1) (show List.Nodup (["_law_state","_law_k"]:List Str)from by decide) rfl (Or.inl rfl))) (λ_ _ _ _ _=>uW) (λ_ _ _ _ _=>(yP (qA (qY (q4D (K:=K) rfl) (qY (vM (K:=K) rfl) (qY (vM (K:=K) rfl) (jS hu (pv 0) jO (λ_ _=>rfl)) (pv 1) (λ_ _=>rfl)) qG (λ_ _=>rfl)) qG (λ_ _=>rfl)) (qA (pv 1) qC)))) (by kernel_rfl) (jM (by decide))) qC)) qCT (qCU qG))) (λ_ _ _ _ _=>(q9I (K:=K) (n:=2) rfl rfl (yE (qX (i:=0) (show List.Nodup (["_law_born","_law_block"]:List Str)from by decide) rfl (Or.inl rfl)) (yE (qX (i:=1) (show List.Nodup (["_law_born","_law_block"]:List Str)from by decide) rfl (Or.inl rfl)) q1E)) rfl rfl)) (λ_ _ _ _ _=>uW) (λ_ _ _ _ _=>(pv 1)) (by kernel_rfl) (q9C (q0X (by decide) (q0X (by decide) q9B))) vK.nd rfl (Or.inl rfl)) (qE (qV (i:=0) vK.nd rfl (Or.inr rfl) qG))) qQ) (qE (qL (qY jL (qW (qE7 rfl hr.units) (by rfl) T.b_min (by kernel_rfl) (qA (yH ["_law_kind","_law_state","_law_k"] [0,1] rfl (jP (pv 2)) (λ_ _ _ _ _=>(qX (i:=2) (show List.Nodup (["_law_kind","_law_state","_law_k"]:List Str)from by decide) rfl (Or.inl rfl))) (λ_ _ _ _ _=>uW) (λ_ _ _ _ _=>(yP (qA (qM (qBS T S).mono hr rfl T.mg_law_rank T.kp_law_rank S.law_rank.b .nil qK (qA (pv 0) (qA (pv 1) (qA (pv 2) qC)))) (qA (pv 2) qC)))) (by kernel_rfl) (jM (by decide))) qC)) qG (λ_ _=>rfl)))))),?_⟩
  try dsimp-beta-proj-iota-zeta-eta only[wishK,cxK]
  refine⟨_,rfl,d,hl,tl,nw,rs,P0,m,rfl,hm,by omega,sim.nd,ky,rowle,λD H1 s1 h1=>?_⟩
  have ew:m.way P0 rs.length=opB s5.q:=by rw[lrB,←eP];exact sim.way_eq
  rw[ew,eV]at h1
  refine⟨λσ' H'=>∃D' Wt kd1,σ'=[some (.int kd1),some (.ref d),some (.ref D')]∧Same H H'∧H' D'=some (.lst (Wt.map λT:Tl=>V.int T.b))∧Wt≠[]∧Wt.length≤16∧(∀T∈Wt,T∈opS s5)∧0≤kd1∧kd1<9∧∀A∈Wt,(∀o∈Wt,lx [rkV kd1 (P0:Int) s5.q.nx o,o.b] [rkV kd1 (P0:Int) s5.q.nx A,A.b]=false)→(kdR kd).ch (P0:Int) s5.q.nx (opS s5)=(A.b,kdR kd),?_,?_⟩
  ·refine⟨_,rfl,rfl,_,rfl,?_⟩
   rw[yM]
   refine ite2 (λzz=>?_) (λzz=>?_)
   ·have z:kd=9:=kP zz
    subst z
    refine⟨_,rfl,D,rfl,⟨_,SqL.of h1⟩,λD2 H2 n2 s2 h2=>?_⟩
    refine zI (K:=K) (xs:=(opS s5).map λT=>V.int T.b) (D:=D2) (k:=1) (λi H3=>Same H1 H3∧∃zs,H3 D2=some (.lst zs)∧Paired (λz (o:Tl)=>∃a,z=.ref a∧H3 a=some (.tup [.int o.bo,.int o.b])) zs ((opS s5).take i)) ⟨s2,[],h2,.nil⟩ (λi H3 hp=>SqL.of (hp.1 _ _ h1)) (λi x H3 hx hp=>?_) (λH3 hp=>?_)
    ·obtain⟨sm,zs,hd,pr⟩:=hp
     rw[kN]at hx
     obtain⟨O,hO,rfl⟩:=mF.mp hx
     have hi:i<(opS s5).length:=(hG.mp hO).1
     obtain rfl:(opS s5)[i]=O:=(hG.mp hO).2
     obtain⟨b,hb,eT⟩:=q90 (mU hi)
     have bB:=(q1H hb).1
     have m3:=hm.same (s1.trans sm)
     obtain⟨r,er,at1⟩:=q4X (rs:=rs) (i:=b) (by omega)
     obtain⟨us,hus,pru⟩:=m3.rw b r er
     obtain⟨e,he,eb⟩:=sim.row0 hb
     have lu:=pru.len
     have rl0:=q0B he
     have eu:us[0]?=some (us[0]'(by omega)):=hE _
     obtain⟨e',he',p,ep,hpp⟩:=Paired.at pru eu
     rw[he]at he'
     obtain rfl:=kF he'
     rw[ep]at eu
     have eTb:((opS s5)[i]).b=(b:Int):=by rw[eT];rfl
     have eTo:((opS s5)[i]).bo=e.2:=by rw[eT];exact eb.symm
     rw[eTb]
     refine⟨_,rfl,d,_,rfl,m3.gH,_,rfl,hl,_,_,_,rfl,rfl,SqL.of m3.oh,at1,r,_,_,_,rfl,rfl,SqL.of hus,yC (j:=0) eu,p,_,1,_,rfl,rfl,SqT.of hpp,rfl,_,rfl,sz2,λpp H4 n4 s4 h4=>?_⟩
     rw[←eTb,←eTo]at h4
     have hd4:=s4 _ _ hd
     have pl:=pr.len
     rw[gA]at pl
     refine⟨zs,hd4,by omega,λb o e=>?_,zs++[.ref pp],qH,?_⟩
     ·rw[qD (qI e n2)]
      exact s4 _ _ (sm _ _ e)
     ·have kp:∀{a:Addr} {xs:List V},H4 a=some (.tup xs)→(upd H4 D2 (.lst (zs++[.ref pp]))) a=some (.tup xs):=fun {a xs} e=>by
       rw[qD (λz=>by rw[z,hd4]at e;cases e)]
       exact e
      rw[←mB hi]
      exact L2.Paired.snoc (Paired.mapP pr λ_ _ ⟨a,e,z⟩=>⟨a,e,kp (s4 _ _ z)⟩) ⟨pp,rfl,kp h4⟩
    obtain⟨sm,zs,hd,pr⟩:=hp
    rw[hC,mZ]at pr
    have zl:=pr.len
    refine⟨D2,zs,(opS s5).map keyB,2,rfl,SqL.of hd,?_,λk hk=>?_,by decide,by omega,λq1 pq w1=>?_⟩
    ·refine zG (by rw[hC];exact zl) λj z k hz hk=>?_
     obtain⟨o,ho,a,e,ha⟩:=Paired.at pr hz
     rw[kN,ho]at hk
     obtain rfl:=kF hk
     exact⟨a,e,SqT.of ha⟩
    ·obtain⟨o,_,rfl⟩:=kX.mp hk
     rfl
    have hin:∀i∈q1,i<zs.length:=λi hi=>mK.mp (pq.mem_iff.mp hi)
    have hin':∀i∈q1,i<(opS s5).length:=λi hi=>by rw[←zl];exact hin i hi
    rw[zl]at pq
    have AP:=q4T pq
    rw[q6R keyB hin',gC]at w1
    have eA:=qGN AP w1
    intro sl H4 n4 s4 h4
    have at4:Paired (λz (o:Tl)=>∃a,z=.ref a∧H4 a=some (.tup [.int o.bo,.int o.b])) (q1.map λi=>zs.getD i .non) (pick q1 (opS s5)):=q01 (Paired.mapP pr λ_ _ ⟨a,e,z⟩=>⟨a,e,s4 _ _ z⟩) hin
    rw[eA]at at4
    generalize q1.map (λi=>zs.getD i V.non)=us2 at h4 at4 ⊢
    refine⟨2,rfl,sl,us2,rfl,SqL.of h4,λse ne=>?_⟩
    rw[qFO (by omega),show Int.toNat 2=2 from rfl]
    have s5':Same H4 (upd H4 se (.lst (us2.take 2))):=Same.upd ne
    have h5:(upd H4 se (.lst (us2.take 2))) se=some (.lst (us2.take 2)):=qH
    generalize upd H4 se (.lst (us2.take 2))=H5 at s5' h5 ⊢
    have at5:Paired (λz (o:Tl)=>∃a,z=.ref a∧H5 a=some (.tup [.int o.bo,.int o.b])) (us2.take 2) ((agd (opS s5)).take 2):=Paired.takeP _ (Paired.mapP at4 λ_ _ ⟨a,e,z⟩=>⟨a,e,s5' _ _ z⟩)
    have sH5:Same H H5:=s1.trans (sm.trans (s4.trans s5'))
    have lag:(agd (opS s5)).length=(opS s5).length:=List.length_mergeSort _
    have tk:0<((agd (opS s5)).take 2).length:=by
     rw[gA,lag]
     have:=List.length_pos_iff.mpr neS
     omega
    have tk2:((agd (opS s5)).take 2).length≤2:=List.length_take_le _ _
    have tin:∀o∈(agd (opS s5)).take 2,o∈opS s5:=λo ho=>List.mem_mergeSort.mp (List.mem_of_mem_take ho)
    generalize us2.take 2=us3 at h5 at5 ⊢
    have l5:=at5.len
    refine⟨se,rfl,⟨us3,SqL.of h5⟩,λD6 H6 n6 s6 h6=>?_⟩
    refine vN (K:=K) (xs:=us3) (D:=D6) (λi H7=>Same H5 H7∧H7 D6=some (.lst ((((agd (opS s5)).take 2).take i).map λT=>V.int T.b))) ⟨s6,h6⟩ (λi H7 hp=>SqL.of (hp.1 _ _ h5)) (λi x H7 hx hp=>?_) (λH7 hp=>?_)
    ·obtain⟨sm7,hd7⟩:=hp
     obtain⟨O,hO,ho⟩:=Paired.at at5 hx
     have hi:i<((agd (opS s5)).take 2).length:=(hG.mp hO).1
     obtain rfl:((agd (opS s5)).take 2)[i]=O:=(hG.mp hO).2
     obtain⟨xa,rfl,hxa⟩:=ho
     refine⟨xa,_,rfl,SqT.of (sm7 _ _ hxa),rfl,_,_,rfl,_,_,rfl,rfl,?_⟩
     refine qFU ?_
     try dsimp only
     rw[kG rfl]
     refine⟨_,rfl,_,hd7,by rw[hC,gA];omega,λb o e=>?_,?_⟩
     ·rw[qD (qI e n6)]
      exact sm7 _ _ e
     ·rw[qH,←mB hi,kU]
      rfl
    obtain⟨sm7,hd7⟩:=hp
    rw[l5,mZ]at hd7
    exact⟨D6,(agd (opS s5)).take 2,1,rfl,sH5.trans sm7,hd7,List.length_pos_iff.mp tk,by omega,tin,by decide,by decide,λA hA le=>ch_9 hA le⟩
   ·have z:¬kd=9:=λy=>zz (hI y)
    exact⟨D,opS s5,kd,rfl,s1,h1,neS,l16,λ_ h=>h,k0,by omega,λA hA le=>qLQ k0 (by omega) (by omega) (by omega) lvok hA le⟩
  ·rintro σ' H' ⟨D',Wt,kd1,rfl,sH,hD',wne,w16,win,j0,j9,fin⟩
   refine⟨_,rfl,D',rfl,⟨_,SqL.of hD'⟩,λD6 H6 n6 s6 h6=>?_⟩
   refine zI (K:=K) (xs:=Wt.map λT=>V.int T.b) (D:=D6) (k:=2) (λi H7=>Same H' H7∧∃zs,H7 D6=some (.lst zs)∧Paired (λz (o:Tl)=>∃a,z=.ref a∧H7 a=some (.tup [.int (rkV kd1 (P0:Int) s5.q.nx o),.int o.b])) zs (Wt.take i)) ⟨s6,[],h6,.nil⟩ (λi H7 hp=>SqL.of (hp.1 _ _ hD')) (λi x H7 hx hp=>?_) (λH7 hp=>?_)
   ·obtain⟨sm7,zs7,hd7,pr7⟩:=hp
    rw[kN]at hx
    obtain⟨O,hO,rfl⟩:=mF.mp hx
    have hi:i<Wt.length:=(hG.mp hO).1
    obtain rfl:Wt[i]=O:=(hG.mp hO).2
    obtain⟨b,hb,eT⟩:=q90 (win _ (mU hi))
    have eTb:(Wt[i]).b=(b:Int):=by rw[eT];rfl
    rw[eTb]
    refine⟨_,rfl,_,rfl,_,rfl,kd1,d,hl,tl,nw,rs,P0,m,s5,b,rfl,hm.same (sH.trans sm7),sim,eP,hb,j0,j9,λH8 s8=>?_⟩
    refine⟨_,rfl,sz2,λp H9 n9 s9' h9=>?_⟩
    rw[←eTb,←eT]at h9
    have hd9:=(s8.trans s9') _ _ hd7
    have pl:=pr7.len
    rw[gA]at pl
    refine⟨zs7,hd9,by omega,λb o e=>?_,zs7++[.ref p],qH,?_⟩
    ·rw[qD (qI e n6)]
     exact(s8.trans s9') _ _ (sm7 _ _ e)
    ·have kp:∀{a:Addr} {xs:List V},H9 a=some (.tup xs)→(upd H9 D6 (.lst (zs7++[.ref p]))) a=some (.tup xs):=fun {a xs} e=>by
      rw[qD (λz=>by rw[z,hd9]at e;cases e)]
      exact e
     rw[←mB hi]
     exact L2.Paired.snoc (Paired.mapP pr7 λ_ _ ⟨a,e,z⟩=>⟨a,e,kp ((s8.trans s9') _ _ z)⟩) ⟨p,rfl,kp h9⟩
   obtain⟨sm7,zs7,hd7,pr7⟩:=hp
   rw[hC,mZ]at pr7
   have l7:=pr7.len
   have wpos:=List.length_pos_iff.mpr wne
   refine⟨D6,zs7,Wt.map λo=>[rkV kd1 (P0:Int) s5.q.nx o,o.b],rfl,SqL.of hd7,?_,by omega,λi hi mn=>?_⟩
   ·refine zG (by rw[hC];exact l7) λj z k hz hk=>?_
    obtain⟨o,ho,a,e,ha⟩:=Paired.at pr7 hz
    rw[kN,ho]at hk
    obtain rfl:=kF hk
    exact⟨a,e,SqT.of ha⟩
   ·obtain⟨o,ho,a,e,ha⟩:=Paired.at pr7 (hE hi)
    have hiB:i<Wt.length:=(hG.mp ho).1
    obtain rfl:Wt[i]=o:=(hG.mp ho).2
    have eu:zs7.getD i .non=.ref a:=by rw[hU,hE hi];exact e
    rw[eu]
    refine⟨a,_,1,_,rfl,rfl,SqT.of ha,rfl,?_⟩
    obtain⟨b,hb,eT⟩:=q90 (win _ (mU hiB))
    have eTb:(Wt[i]).b=(b:Int):=by rw[eT];rfl
    have ff:=fin Wt[i] (mU hiB) λo ho=>?_
    ·rw[eTb]at ff ⊢
     exact q b H7 hb ff (sH.trans sm7)
    ·obtain⟨j,hj,rfl⟩:=gK ho
     have z:=mn j (by omega)
     rw[hU,hU,kN,kN,hE hj,hE hiB]at z
     exact z
theorem sim0{B P:Nat}(b2:B≤16)(p1:1≤P)(p2:P≤16):Sim ⟨List.replicate B [],List.replicate B 0,[],0⟩ (ini B P):=by
 have er:∀b,LM.row ⟨List.replicate B [],List.replicate B 0,[],0⟩ b=[]:=λb=>by
  show(List.replicate B ([]:List (Int×Int))).getD b []=[]
  rw[hU,gE]
  split<;>rfl
 refine⟨qGL b2 p1 p2,λb d hb hd pb=>?_,mS,rfl,mS,λb hb=>?_,List.nodup_nil,λn p=>⟨λz=>absurd z (by simp[ini]),λ⟨b,f,st,_,_,r,_⟩=>?_⟩,λb f n st r=>?_,rfl,λb e r=>?_⟩
 ·unfold jX at pb
  rw[show(ini B P).q.fi=List.replicate B 0 from rfl,rep0]at pb
  simp at pb
 ·rw[er]
  exact rep0
 ·rw[er]at r
  cases r
 ·rw[er]at r
  cases r
 ·rw[er]at r
  cases r
theorem qK6{B P:Nat}(hB:1≤B):P≤rm B P (ini B P).q.fi:=by
 have:=q9L (L:=List.range B) (f:=clr1 P (List.replicate B 0)) (k:=P) λb _=>by
  unfold clr1
  rw[rep0]
  exact kM _
 rw[mR]at this
 have h2:=gM P hB
 rw[Nat.one_mul]at h2
 exact mD h2 this
theorem qK7{a b:List Pp}:mvN (a++b)=mvN a+mvN b:=by
 unfold mvN
 rw[kU,List.sum_append]
theorem qK8{a b:List Pp}:chN (a++b)=chN a++chN b:=by
 unfold chN
 rw[kU]
theorem LmAt.off{H H':Hp}{d hl tl nw x:Addr}{rs:List Addr}{Pg:Nat}{m:LM}(h:LmAt H d hl tl nw rs Pg m)(k:Keep [x] H H')(n:x∉lmF d hl tl nw rs):LmAt H' d hl tl nw rs Pg m:=
 { h with od:=k.k _ _ (λz=>n (by rw[←kC.mp z];simp)) h.od,oh:=k.k _ _ (λz=>n (by rw[←kC.mp z];simp)) h.oh,ot:=k.k _ _ (λz=>n (by rw[←kC.mp z];simp)) h.ot,on:=k.k _ _ (λz=>n (by rw[←kC.mp z];simp)) h.on,rw:=λb r e=>(h.rw b r e).imp λus z=>⟨k.k _ _ (λz=>n (by rw[←kC.mp z];have:=mG e;simp[this])) z.1,vR k z.2⟩ }
noncomputable def qLS(t:Adr):Sp:=λvs H Q _=>∃B P:Nat,∃l,∃ns M:List Int,∃kd:Int,vs=[.int (B:Int),.int (P:Int),.ref l,.int kd]∧H l=some (.lst (ns.map V.int))∧Rc B P ns M∧P≤3∧0≤kd∧kd<10∧∀v H',Same H H'→OcAt H' v (ocN (rnS B P (kdR kd) ns))→Q v H'
theorem qCL(T:Txt K mg t)(S:Fns K t):S.law_due.Ok0 P w mg base 4 (qLS t):=by
 refine S.law_due.F.ok0 uS λcdv A _ s H vs Q E hr h=>?_
 ·obtain⟨B0,P0,l,ns,M,kd,rfl,hl,rc,p3,k0,k10,q⟩:=h
  have s9:(99999:Nat)<sizeLine:=by decide
  have b1:=rc.b1
  have b2:=rc.b2
  have p1:=rc.p1
  have p2:=rc.p2
  have c9:=rc.c9
  have ln:=rc.ln
  have lM:=rc.lM
  refine⟨_,(qB (qV (i:=4) uS.nd rfl (Or.inl rfl) (qM (qCK T S).mono hr rfl T.mg_law_new T.kp_law_new S.law_new.b .nil qK (qA (pv 0) (qA (pv 1) qC)))) (qB (qV (i:=5) uS.nd rfl (Or.inl rfl) qG) (qB (qV (i:=6) uS.nd rfl (Or.inl rfl) (jF qC)) (qB (q06 gR rfl (jP (pv 2)) (qX (i:=7) uS.nd rfl (Or.inl rfl)) (qB (jB (jW (qM (qAA T S).mono hr rfl T.mg_law_short T.kp_law_short S.law_short.b .nil qK (qA (pv 4) qC))) (qB (qV (i:=8) uS.nd rfl (Or.inl rfl) (qM (q8D T S).mono hr rfl T.mg_law_chosen T.kp_law_chosen S.law_chosen.b .nil qK (qA (pv 3) (qA (pv 4) qC)))) (qB (qER (i:=5) uS.nd rfl (Or.inl rfl) (qM (q45 T S).mono hr rfl T.mg_law_cleared_out T.kp_law_cleared_out S.law_cleared_out.b .nil qK (qA (pv 4) (qA (pv 8) qC))) q3I) (qE (jA (q8O PySem.F.plainAttrs_list PySem.F.slot_list_append PySem.F.type_list_append vD (pv 6) (qA (pv 8) qC)))))) qQ) (qE (jA (qM (q7U T S).mono hr rfl T.mg_law_put T.kp_law_put S.law_put.b .nil qK (qA (pv 4) (qA (pv 7) qC))))))) (qE (qL (yP (qA (pv 5) (qA (pv 6) qC))))))))),?_⟩
  try dsimp-beta-proj-iota-zeta-eta only[wishK,cxK]
  refine⟨_,rfl,_,rfl,B0,P0,rfl,by omega,λd hd tl nw rs0 H1 s1 lm0 fr0=>?_⟩
  refine⟨sz0,λch H2 n2 s2 h2=>?_⟩
  refine⟨_,rfl,l,rfl,⟨_,SqL.of ((s1.trans s2) _ _ hl)⟩,?_⟩
  have nch:H ch=none:=Same.free s1 n2
  refine vL (K:=K) (xs:=ns.map V.int) (λi σ' H'=>∃y7 y8 rs m s pl,σ'=[some (.int (B0:Int)),some (.int (P0:Int)),some (.ref l),some (.int kd),some (.ref d),some (.int ((mvN pl:Nat):Int)),some (.ref ch),y7,y8]∧LmAt H' d hd tl nw rs P0 m∧Sim m s∧s.q.B=B0∧s.q.P=P0∧P0≤rm B0 P0 s.q.fi∧(∀y∈s.q.V,y.1∈ns)∧m.nw.length≤20*i∧pl.length≤i∧(runS (ini B0 P0) (kdR kd) ns).1=pl++(runS s (kdR kd) (ns.drop i)).1∧H' ch=some (.lst ((chN pl).map V.int))∧ch∉lmF d hd tl nw rs∧Same H H'∧∀b∈lmF d hd tl nw rs,H b=none) ⟨_,_,rs0,_,ini B0 P0,[],rfl,lm0.same s2,sim0 (by omega) p1 (by omega),rfl,rfl,qK6 (by omega),λy hy=>absurd hy (by simp[ini]),kM _,kM _,rfl,h2,λz=>?_,s1.trans s2,fr0⟩ (λi σ' H' hi hp=>?_) (λi v σ' H' hv hp=>?_) (λσ' H' hp=>?_)
  ·obtain⟨o,e⟩:=lm0.in ch z
   rw[e]at n2
   cases n2
  ·obtain⟨y7,y8,rs,m,s,pl,rfl,_,_,_,_,_,_,_,_,_,_,_,sH,_⟩:=hp
   exact SqL.of (sH _ _ hl)
  ·obtain⟨y7,y8,rs,m,s',pl,rfl,lm,sim,eB,eP,ge,nms,lnw,lpl,er,hch,nF,sH,fr⟩:=hp
   rw[kN]at hv
   obtain⟨n,hn',rfl⟩:=mF.mp hv
   obtain⟨hi,en⟩:=hG.mp hn'
   have nn:=mG hn'
   have nb:=rc.sh n nn
   have hi15:i<15:=by omega
   have lrB:rs.length=B0:=by rw[lm.lr,sim.lb,eB]
   have dr:ns.drop i=n::ns.drop (i+1):=by rw[List.drop_eq_getElem_cons hi,en]
   rw[dr,q91]at er
   dsimp only at er
   have nmb:NmB s'.q.V:=λy hy=>rc.sh _ (nms y hy)
   have hv':s'.q.V.length<(s'.q.B-1)*s'.q.P:=by
    have:=q6U (l:=s'.q.V.map (·.1)) (m:=M) sim.qs.ok.nd λz hz=>by
     obtain⟨y,hy,rfl⟩:=kX.mp hz
     exact rc.un _ (nms y hy)
    rw[hC]at this
    rw[eB,eP]
    omega
   have sh:=sim.short (by rw[eB,eP];exact ge)
   rw[eB,eP]at sh
   refine⟨_,rfl,d,hd,tl,nw,rs,P0,m,rfl,lm,by omega,λH2 s2=>⟨_,rfl,?_⟩⟩
   have lm2:=lm.same s2
   rw[lrB]
   by_cases z:P0<rm B0 P0 s'.q.fi
   ·rw[hV (λy=>sh.2.2 y.1 y.2 z)]
    refine iteF ?_
    have hr0:0<rm s'.q.B s'.q.P s'.q.fi:=by rw[eB,eP];omega
    obtain⟨sp,rp⟩:=sim.put hr0 nb.1 nb.2
    rw[qJV (by rw[eB,eP];exact z)]at er
    refine⟨_,rfl,_,rfl,d,hd,tl,nw,rs,P0,m,s',n,rfl,lm2,sim,eP,hr0,by omega,λH3 lm3 k3=>?_⟩
    refine⟨_,_,rs,_,putS s' n,pl,rfl,lm3,sp,eB,eP,?_,λy hy=>?_,?_,by omega,er,k3.k _ _ nF (s2 _ _ hch),nF,q57 (sH.trans s2) k3 fr,fr⟩
    ·rw[eB,eP]at rp
     omega
    ·rcases qDN.mp hy with e|⟨e1,_⟩
     ·rw[e];exact nn
     ·exact nms y e1
    ·have:(m.put (spF s'.q s'.cl) n).nw.length≤m.nw.length+1:=q7V
     omega
   ·have hrP:rm s'.q.B s'.q.P s'.q.fi=s'.q.P:=by rw[eB,eP];omega
    rw[hI ⟨λy=>z (sh.1 y),Classical.byContradiction λy=>z (sh.2.1 y)⟩]
    refine iteT ?_
    have op:=sim.opt hrP hv'
    refine⟨_,rfl,_,rfl,kd,d,hd,tl,nw,rs,P0,m,s',rfl,lm2,sim,eP,op,k0,k10,p3,λc H3 hc ech s3=>?_⟩
    rw[qJW (b:=c) (by rw[eB,eP];exact z) (by rw[eP];exact ech)]at er
    have lm3:=lm2.same s3
    refine⟨_,rfl,_,rfl,_,rfl,d,hd,tl,nw,rs,P0,m,s',c,rfl,lm3,sim,eP,hc,by rw[eB,eP];exact ge,by omega,nmb,λrs' m' H4 lm4 sim4 rm4 ln4 nm4 eB4 eP4 k4 fr4=>?_⟩
    have sH3:=(sH.trans s2).trans s3
    have sH4:=q57 sH3 k4 fr
    have nF4:ch∉lmF d hd tl nw rs':=λz=>by
     have hb:ch=d∨ch=hd∨ch=tl∨ch=nw∨ch∈rs':=by simpa[lmF]using z
     rcases hb with y|y|y|y|y
     ·exact nF (by simp[y])
     ·exact nF (by simp[y])
     ·exact nF (by simp[y])
     ·exact nF (by simp[y])
     ·rcases fr4 ch y with y|y
      ·exact nF (by simp[y])
      ·rw[s3 _ _ (s2 _ _ hch)]at y
       cases y
    have fr':∀b∈lmF d hd tl nw rs',H b=none:=λb hb=>by
     have hb:b=d∨b=hd∨b=tl∨b=nw∨b∈rs':=by simpa[lmF]using hb
     rcases hb with y|y|y|y|y
     ·exact fr b (by simp[y])
     ·exact fr b (by simp[y])
     ·exact fr b (by simp[y])
     ·exact fr b (by simp[y])
     ·rcases fr4 b y with y|y
      ·exact fr b (by simp[y])
      ·exact Same.free sH3 y
    have hch4:=k4.k _ _ nF (s3 _ _ (s2 _ _ hch))
    refine⟨_,_,rfl,rfl,?_⟩
    refine⟨_,rfl,.inl ⟨rfl,_,SqL.of hch4⟩,_,rfl,ch,_,_,rfl,rfl,hch4,by unfold chN;rw[hC,hC];omega,?_⟩
    have k5:Keep [ch] H4 (upd H4 ch (.lst ((chN pl).map V.int++[.int (c:Int)]))):=Keep.upd hch4 (λ_ z=>by cases z) (by simp)
    have hch5:(upd H4 ch (.lst ((chN pl).map V.int++[.int (c:Int)]))) ch=_:=qH
    generalize upd H4 ch (.lst ((chN pl).map V.int++[.int (c:Int)]))=H5 at k5 hch5 ⊢
    have lm5:=lm4.off k5 nF4
    have sH5:Same H H5:=λb o e=>k5.k b o (λz=>by rw[kC.mp z,nch]at e;cases e) (sH4 b o e)
    have lvl:(lvS P0 c s'.q.V).length<P0:=by
     obtain⟨x1,x2,x3⟩:=q1H hc
     have:=sim.qs.lv c x1
     rw[sim.cnt x1,←sim.lvS x1,eP]at this
     omega
    have hr4:0<rm (wipS (movS s' c) c).q.B (wipS (movS s' c) c).q.P (wipS (movS s' c) c).q.fi:=by
     rw[eB4,eP4]
     rw[eB,eP]at rm4 ⊢
     omega
    obtain⟨sp,rp⟩:=sim4.put hr4 nb.1 nb.2
    refine⟨_,rfl,_,rfl,d,hd,tl,nw,rs',P0,m',_,n,rfl,lm5,sim4,eP4.trans eP,hr4,by omega,λH6 lm6 k6=>?_⟩
    have e1:((mvN (pl++[⟨opS s',c,(lvS s'.q.P c s'.q.V).length⟩]):Nat):Int)=((mvN pl:Nat):Int)+(((lvS P0 c s'.q.V).length:Nat):Int):=by
     rw[qK7,Int.natCast_add,eP]
     rfl
    refine⟨some (.int n),some (.int (c:Int)),rs',m'.put (spF (wipS (movS s' c) c).q (wipS (movS s' c) c).cl) n,putS (wipS (movS s' c) c) n,pl++[⟨opS s',c,(lvS s'.q.P c s'.q.V).length⟩],?_,lm6,sp,eB4.trans eB,eP4.trans eP,?_,λy hy=>?_,?_,?_,?_,?_,nF4,q57 sH5 k6 fr',fr'⟩
    ·rw[e1]
     rfl
    ·rw[eB4,eP4,eB,eP]at rp
     rw[eB,eP]at rm4
     omega
    ·rcases qDN.mp hy with e|⟨e1,_⟩
     ·rw[e];exact nn
     ·obtain⟨z',hz,ez⟩:=nm4 y e1
      rw[←ez]
      exact nms z' hz
    ·have:(m'.put (spF (wipS (movS s' c) c).q (wipS (movS s' c) c).cl) n).nw.length≤m'.nw.length+1:=q7V
     omega
    ·rw[k8]
     show pl.length+1≤_
     omega
    ·rw[er,List.append_assoc]
    ·rw[k6.k _ _ nF4 hch5,qK8,kU]
     rfl
  ·obtain⟨y7,y8,rs,m,s',pl,rfl,lm,sim,eB,eP,ge,nms,lnw,lpl,er,hch,nF,sH,fr⟩:=hp
   rw[hC,List.drop_length]at er
   have er:(runS (ini B0 P0) (kdR kd) ns).1=pl++[]:=er
   rw[gB]at er
   refine⟨_,rfl,_,rfl,sz2,λp Hf nf sf hf=>q _ Hf (sH.trans sf) ?_⟩
   unfold ocN rnS
   rw[er]
   exact⟨p,ch,rfl,hf,sf _ _ hch⟩
theorem qBT:∀{ns:List Int} {s:RS} {g:Rl},(runS s g ns).1.length≤ns.length
 | [],_,_=>kM _
 |n::r,s,g=>by
  rw[q91]
  show((stp s g n).2.2++_).length≤_
  have h1:(stp s g n).2.2.length≤1:=by
   unfold stp
   split<;>simp
  have:=qBT (ns:=r) (s:=(stp s g n).1) (g:=(stp s g n).2.1)
  rw[k8,mP]
  omega
section
variable{H H':Hp}
theorem OcAt.same{v:V}{o:Nat×List Int}(h:OcAt H v o)(s:Same H H'):OcAt H' v o:=by
 obtain⟨p,c,e,a,b⟩:=h
 exact⟨p,c,e,s _ _ a,s _ _ b⟩
theorem ocEq{K:W.Frag}{v:V}{o:Nat×List Int}{p c:Addr}(h:OcAt H v o)(hp:H p=some (.tup [.int (o.1:Nat),.ref c]))(hc:H c=some (.lst (o.2.map V.int))):Eqv K H 6 v (.ref p):=by
 obtain⟨p',c',rfl,e1,e2⟩:=h
 refine .tup (SqT.of e1) (SqT.of hp) rfl λi x y hx hy=>?_
 match i with
 |0=>
  obtain rfl:=kF hx
  obtain rfl:=kF hy
  exact .flat rfl
 |1=>
  obtain rfl:=kF hx
  obtain rfl:=kF hy
  refine .lst (SqL.of e2) (SqL.of hc) rfl λj x y hx hy=>?_
  rw[hx]at hy
  obtain rfl:=kF hy
  rw[kN]at hx
  obtain⟨n,_,rfl⟩:=mF.mp hx
  exact .flat rfl
 |i+2=>cases hx
theorem RT2.kp{r b:Addr}{o:HO}{C d:Addr}{fs:List (Str×V)}(h:RT2 t r H H')(tb:TbF t H)(hr:H r=some (.ins C d fs))(e:H b=some o)(n1:∀ps,o≠ .tbl ps)(n2:∀C d fs,o≠ .ins C d fs):H' b=some o:=h b o (λz=>by
 obtain⟨pt,hT,_⟩:=tb
 rw[z,hT]at e
 exact n1 _ (kF e).symm) (λz=>by
 rw[z,hr]at e
 exact n2 _ _ _ (kF e).symm) e
end
theorem qK9(T:Txt K mg t)(S:Fns K t)(B:BmIn base mg):S.law.Ok0 P w mg base 20 (q4V K [t.T_Plain_free,t.T_law_rule]):=by
 refine S.law.F.ok0 q1T λcdv A _ s H vs Q E hr h=>?_
 ·obtain⟨sc,ns,rfl,hS,hlen,hT0,k⟩:=h
  have tb:TbF t H:=⟨#[],hT0 _ (by simp),.inl rfl⟩
  have tw:TbW t H:=⟨#[],[],hT0 _ (by simp),rfl,λx hx=>absurd hx (by simp)⟩
  have s9:(99999:Nat)<sizeLine:=by decide
  have one:1≤sizeLine:=by decide
  refine⟨_,(qB (q3H (qM (qBP T S).mono hr rfl T.mg_law_race T.kp_law_race S.law_race.b .nil qK (qA (pv 0) qC)) (qJQ rfl (yE (qX (i:=1) q1T.nd rfl (Or.inl rfl)) (yE (qX (i:=2) q1T.nd rfl (Or.inl rfl)) (yE (qX (i:=3) q1T.nd rfl (Or.inl rfl)) q1E))))) (qB (qV (i:=4) q1T.nd rfl (Or.inl rfl) (qN uU (qM (jQ T S).mono hr rfl T.mg_law_drawn T.kp_law_drawn S.law_drawn.b .nil qK (qA (pv 0) (qA qG qC))) qG)) (qB (qV (i:=5) q1T.nd rfl (Or.inl rfl) (qN uU (qM (jQ T S).mono hr rfl T.mg_law_drawn T.kp_law_drawn S.law_drawn.b .nil qK (qA (pv 0) (qA qG qC))) qG)) (qB (q06 gR rfl (jP (jF (qA (pv 4) (qA (pv 5) (qA (pv 4) qC))))) (qX (i:=6) q1T.nd rfl (Or.inl rfl)) (qB (qV (i:=7) q1T.nd rfl (Or.inl rfl) (q31 q08 (by rfl) T.b_list (by kernel_rfl) (qA (pv 3) qC))) (qB (qV (i:=8) q1T.nd rfl (Or.inl rfl) (qM (qBO T S B).mono hr rfl T.mg_moves_by T.kp_moves_by S.moves_by.b .nil qK (qA (pv 1) (qA (pv 2) (qA (pv 7) (qA (qM (qBR T S B).mono hr rfl T.mg_law_rule T.kp_law_rule S.b_law_rule .nil qK (qA (pv 6) qC)) qC)))))) (qB (jB (PW.pt (qAF (yL (jW (qW yQ (by rfl) T.b_isinstance (by kernel_rfl) (qA (pv 8) (qA (q1C rfl T.b_tuple (by kernel_rfl) rfl (v:=.ty "tuple")) qC))))) (qAF (qS qAI (qW j8 (by rfl) T.b_len m7 (qA (pv 8) qC)) qG (qU _)) (qAF (yL (jW (qW yQ (by rfl) T.b_isinstance (by kernel_rfl) (qA (qY jL (pv 8) qG (λ_ _=>rfl)) (qA (q1C rfl T.b_list (by kernel_rfl) rfl (v:=.ty "list")) qC))))) (qBU (qS (qFH hr.units) (pv 7) (pv 3) (qU _))))))) (qE (qL q3B)) qQ) (qB (jB (yL (jW (qW (q8X rfl) (by rfl) T.b_all (by kernel_rfl) (qA (yH ["_law_number"] [] rfl (jP (qN qH0 (jF (qA (qY jL (pv 8) qG (λ_ _=>rfl)) qC)) (qY jL (pv 8) qG (λ_ _=>rfl)))) (λ_ _ _ _ _=>(qX (i:=0) (show List.Nodup (["_law_number"]:List Str)from by decide) rfl (Or.inl rfl))) (λ_ _ _ _ _=>uW) (λ_ _ _ _ _=>(qM (qA3 T S).mono hr rfl T.mg_law_whole T.kp_law_whole S.law_whole.b .nil qK (qA (pv 0) qC))) (by kernel_rfl) (jM (by decide))) qC)))) (qE (qL q3B)) qQ) (qE (jB (qS (qFH hr.units) (pv 8) (qM (qCL T S).mono hr rfl T.mg_law_due T.kp_law_due S.law_due.b .nil qK (qA (pv 1) (qA (pv 2) (qA (pv 3) (qA (pv 6) qC))))) (qU _)) (qE (qL q3B)) qQ))))))) (qE (qL q3B)))))),?_⟩
  try dsimp-beta-proj-iota-zeta-eta only[wishK,cxK]
  refine⟨_,rfl,sc,ns,rfl,hS,λp0 l B0 P0 row M H1 s1 hp0 hl rc=>?_⟩
  have b1:=rc.b1
  have c9:=rc.c9
  have ln:=rc.ln
  have p2:=rc.p2
  refine⟨p0,_,rfl,SqL.of hp0,rfl,_,_,rfl,_,_,rfl,_,_,rfl,rfl,?_⟩
  refine⟨_,rfl,sc,ns,22,rfl,s1.seq hS,by decide,_,_,rfl,rfl,(by show(0:Int)<10;decide),?_⟩
  refine⟨_,rfl,sc,ns,23,rfl,s1.seq hS,by decide,_,_,rfl,rfl,(by show(0:Int)<10;decide),?_⟩
  have m1:=vT (drN ns 22) 10 (by decide)
  have m2:=vT (drN ns 23) 10 (by decide)
  try dsimp only
  generalize drN ns 22%10=k1 at m1 ⊢
  generalize drN ns 23%10=k2 at m2 ⊢
  refine⟨_,rfl,_,rfl,_,rfl,sz3,λlw H2 n2 s2 h2=>?_⟩
  refine⟨lw,rfl,⟨_,SqL.of h2⟩,?_⟩
  refine vL (K:=K) (xs:=[.int k1,.int k2,.int k1]) (λi σ' H'=>∃y6 y7 y8,σ'=[some (.ref sc),some (.int (B0:Int)),some (.int (P0:Int)),some (.ref l),some (.int k1),some (.int k2),y6,y7,y8]∧H' lw=some (.lst [.int k1,.int k2,.int k1])∧H' l=some (.lst (row.map V.int))∧TbF t H'∧TbW t H') ⟨_,_,_,rfl,h2,s2 _ _ hl,(tb.same s1).same s2,(tw.same s1).same s2⟩ (λi σ' H' hi hp=>?_) (λi v σ' H' hv hp=>?_) (λσ' H' hp=>?_)
  ·obtain⟨y6,y7,y8,rfl,e,_⟩:=hp
   exact SqL.of e
  ·obtain⟨y6,y7,y8,rfl,hlw,hlr,tb',tw'⟩:=hp
   obtain⟨kd,rfl,k0,k10⟩:∃kd:Int,v=.int kd∧0≤kd∧kd<10:=by
    match i,hv with
    |0,hv=>exact⟨k1,(kF hv).symm,m1.1,m1.2⟩
    |1,hv=>exact⟨k2,(kF hv).symm,m2.1,m2.2⟩
    |2,hv=>exact⟨k1,(kF hv).symm,m1.1,m1.2⟩
    |i+3,hv=>cases hv
   refine⟨_,rfl,l,_,rfl,.inl (SqL.of hlr),λlh H3 n3 s3 h3=>?_⟩
   have tb3:=tb'.same s3
   have tw3:=tw'.same s3
   refine⟨_,rfl,_,rfl,_,rfl,_,rfl,kd,rfl,tb3,tw3,λr rl H4 nr ro tb4 tw4 rw4=>?_⟩
   have kL:∀{b:Addr} {xs:List V},H3 b=some (.lst xs)→H4 b=some (.lst xs):=fun {b xs} e=>rw4 b _ (RW'.ne tw3 e (λ_ z=>by cases z)) e
   have hh4:=kL h3
   have hl4:=kL (s3 _ _ hlr)
   have hw4:=kL (s3 _ _ hlw)
   obtain⟨Cr,dr,fr,er⟩:=ro.ru.ins
   refine⟨B0,P0,lh,r,rl,kdR kd,row,M,rfl,hh4,rc,ro,tb4,λv5 H5 rt5 tb5 _ oc5=>?_⟩
   have kl:∀{b:Addr} {xs:List V},H4 b=some (.lst xs)→H5 b=some (.lst xs):=fun {b xs} e=>rt5.kp tb4 er e (λ_ z=>by cases z) (λ_ _ _ z=>by cases z)
   have hh5:=kl hh4
   have hl5:=kl hl4
   have hw5:=kl hw4
   have tw5:TbW t H5:=tw4.map (λps e=>rt5 _ _ T.tne_Plain_free.symm (λz=>by rw[z,er]at e;cases e) e) (λb p e=>rt5.kp tb4 er e (λ_ z=>by cases z) (λ_ _ _ z=>by cases z))
   obtain⟨p2',c2,e1,e2,e3⟩:=id oc5
   subst e1
   have lch:(ocN (rnS B0 P0 (kdR kd) row)).2.length≤20:=by
    show(chN (rnS B0 P0 (kdR kd) row)).length≤20
    unfold chN
    rw[hC]
    have:(rnS B0 P0 (kdR kd) row).length≤row.length:=qBT
    omega
   obtain⟨res,eres⟩:∃res,res=ocN (rnS B0 P0 (kdR kd) row):=⟨_,rfl⟩
   rw[←eres]at e2 e3 oc5 lch
   obtain⟨mo,cs⟩:=res
   dsimp only at e2 e3 lch
   refine⟨_,rfl,.ref p2',_,_,.type "tuple",_,rfl,rfl,.inl (.tup e2),qJC,_,rfl,iteF ?_⟩
   refine⟨_,rfl,p2',_,rfl,.inr (SqT.of e2),rfl,_,rfl,iteF ?_⟩
   refine⟨_,rfl,p2',_,1,_,rfl,rfl,SqT.of e2,rfl,.ref c2,_,_,.type "list",_,rfl,rfl,.inl (.lst e3),qFB,_,rfl,iteF ?_⟩
   refine⟨_,rfl,_,rfl,qEL (SqL.of hh5) (SqL.of hl5) qIB,_,rfl,iteF ?_⟩
   refine⟨_,rfl,p2',_,0,_,rfl,rfl,SqT.of e2,rfl,one,λl5 H6 n5 s5 h5=>⟨_,rfl,p2',_,1,_,rfl,rfl,SqT.of (s5 _ _ e2),rfl,l5,c2,_,_,rfl,rfl,h5,s5 _ _ e3,by rw[hC];show 1+ _≤sizeLine;omega,λl6 H7 n6 s6 h6=>⟨l6,rfl,⟨_,SqL.of h6⟩,λD H8 nD s7 hD=>?_⟩⟩⟩
   have h6:H7 l6=some (.lst ((((mo:Nat):Int)::cs).map V.int)):=h6
   refine zI (K:=K) (xs:=(((mo:Nat):Int)::cs).map V.int) (D:=D) (k:=0) (λi H9=>Same H7 H9∧H9 D=some (.lst ((List.replicate i true).map V.bl))) ⟨s7,hD⟩ (λi H9 hp=>SqL.of (hp.1 _ _ h6)) (λi x H9 hx hp=>?_) (λH9 hp=>?_)
   ·obtain⟨sm,hd⟩:=hp
    rw[kN]at hx
    obtain⟨n,hn',rfl⟩:=mF.mp hx
    have hi:=(hG.mp hn').1
    rw[mP]at hi
    refine⟨_,rfl,.int n,rfl,.int _,_,hd,by rw[hC,mS];omega,λb o e=>?_,?_⟩
    ·rw[qD (qI e nD)]
     exact sm _ _ e
    ·rw[qH,List.replicate_succ',kU]
     rfl
   obtain⟨sm,hd⟩:=hp
   refine⟨D,_,rfl,SqL.of hd,?_⟩
   rw[show(List.replicate ((((mo:Nat):Int)::cs).map V.int).length true).all id=true by simp]
   refine⟨_,rfl,iteF ?_⟩
   have s59:=(s5.trans s6).trans sm
   refine⟨_,rfl,_,rfl,_,rfl,_,rfl,_,rfl,B0,P0,l,row,M,kd,rfl,s59 _ _ hl5,rc,p2,k0,k10,λv10 H10 s10 oc10=>?_⟩
   rw[←eres]at oc10
   obtain⟨p10,c10,f1,f2,f3⟩:=oc10
   subst f1
   have s510:=s59.trans s10
   refine⟨ocEq (oc5.same s510) f2 f3,_,rfl,iteF ?_⟩
   exact⟨_,_,_,rfl,s510 _ _ hw5,s510 _ _ hl5,tb5.same s510,tw5.same s510⟩
  ·obtain⟨y6,y7,y8,rfl,_⟩:=hp
   exact k H'
theorem qKA{P:Program}{w:World}{K:W.Frag}{mg:Str→Option Value}{t:Adr}(T:Txt K mg t)(S:Fns K t)(B:BmIn base mg):S.law.Ok0 P w mg base 20 (q4V K [t.T_Plain_free,t.T_law_rule]):=Classical.byContradiction λn=>by
 have hs:hkB hkE:=by
  unfold hkE
  exact Classical.epsilon_spec ⟨⟨P,w,K,mg,t⟩,S,base,T,B,n⟩
 obtain⟨S',b',T',B1,n'⟩:=hs
 exact n' (qK9 T' S' B1)
end
theorem qKB{l:W.OpenLaw}{w:World}{K:W.Frag}{h:Heap}{mg:Str→Option Value}{fa z0 z1 z2 z3 z4 z5 z6 z7 z8 z9 z10 z11 z12 z13 z14 z15 z16 z17 z18 z19 z20 z21 z22 z23 z24 z25 z26 z27 z28 z29 z30 z31 z32 z33 z34 z35 z36 z37 z38 z39 z40 z41 z42 z43 z44 z45 z46 z47 z48 z49 z50 z51 z52 z53 z54 z55 z56 z57 z58 z59 z60 z61 z62 z63 z64 z65 z66 z67 z68 z69 z70 z71 z72 z73 z74 z75 z76 z77 z78 z79 z80 z81 z82 z83 z84 z85 z86 z87 z88 z89 z90 z91 z92 z93 z94 z95 z96 z97 z98 z99 z100 z101 z102 z103 z104 z105 z106 z107 z108 z109 z110 z111 z112 z113:Addr}(X:K.In h)(G:h.Ns mainGlobals mg)(hfa:mg "law"=some (.ref fa))
 {z114 z115 z126 z127 z138 z139 z150 z151:Option Addr} {z116 z128 z140 z152:Array (Option Value)} {z117 z118 z119 z120 z121 z122 z129 z130 z131 z132 z134 z141 z142 z143 z144 z145 z146 z153 z154 z155 z156 z158:Value} {z123:Option Addr} {z124:Nat} {z125:Array (Option Value)} {e0_Chip_init:Tok} {z147:Option Addr} {z148:Nat} {z149:Array (Option Value)} {e0_Terms_init:Tok} {e1_Terms_init:Tok} {tk_MOST_TOLD:Tok} {tk_ROLL:Tok} {tk_NAMES:Tok}
 (z162:W.nsIn K mainGlobals "Chip"=some (some (.ref z100)))
 (z163:Cls K z100)
 (z164:qR K z100 "blocks")
 (z165:qR K z100 "pages")
 (z166:qR K z100 "most")
 (z167:qR K z100 "limits")
 (z168:qR K z100 "borne")
 (z169:qR K z100 "clearings")
 (z170:qR K z100 "deed_counts")
 (z171:qR K z100 "broken")
 (z172:qR K z100 "deeds_left")
 (z173:qR K z100 "record")
 (z174:Meth K z100 "put" z10)
 (z175:Meth K z100 "wipe" z11)
 (z176:Meth K z100 "read" z12)
 (z177:Meth K z100 "is_dark" z13)
 (z178:Meth K z100 "cleared" z14)
 (z179:Meth K z100 "failed" z15)
 (z180:Meth K z100 "check_page" z16)
 (z181:Meth K z100 "check_block" z17)
 (z182:Meth K z100 "check_power" z18)
 (z183:Meth K z100 "check_deed" z19)
 (z184:Meth K z100 "is_spent" z20)
 (z185:Meth K z100 "do_deed" z21)
 (z186:Mk K z100 z9)
 (z187:W.nsIn K mainGlobals "Rule"=some (some (.ref z101)))
 (z188:Cls K z101)
 (z189:Meth K z101 "goes_ahead" z27)
 (z190:Meth K z101 "choose" z28)
 (z191:W.makesIn K z101=true)
 (z192:W.findIn K (.ref z101) "__init__"=some (some (.builtin "object.__init__")))
 (z193:W.keepIn K (.ref z101)=true)
 (z194:W.nsIn K mainGlobals "Fewest"=some (some (.ref z102)))
 (z195:Cls K z102)
 (z196:Meth K z102 "goes_ahead" z29)
 (z197:Meth K z102 "choose" z28)
 (z198:W.makesIn K z102=true)
 (z199:W.findIn K (.ref z102) "__init__"=some (some (.builtin "object.__init__")))
 (z200:W.keepIn K (.ref z102)=true)
 (z201:W.nsIn K mainGlobals "Eldest"=some (some (.ref z103)))
 (z202:Cls K z103)
 (z203:Meth K z103 "goes_ahead" z30)
 (z204:Meth K z103 "choose" z28)
 (z205:W.makesIn K z103=true)
 (z206:W.findIn K (.ref z103) "__init__"=some (some (.builtin "object.__init__")))
 (z207:W.keepIn K (.ref z103)=true)
 (z208:W.nsIn K mainGlobals "Worth"=some (some (.ref z104)))
 (z209:Cls K z104)
 (z210:Meth K z104 "goes_ahead" z31)
 (z211:Meth K z104 "choose" z28)
 (z212:W.makesIn K z104=true)
 (z213:W.findIn K (.ref z104) "__init__"=some (some (.builtin "object.__init__")))
 (z214:W.keepIn K (.ref z104)=true)
 (z215:W.nsIn K mainGlobals "Weighed"=some (some (.ref z105)))
 (z216:Cls K z105)
 (z217:qR K z105 "weigh")
 (z218:Meth K z105 "goes_ahead" z33)
 (z219:Meth K z105 "choose" z28)
 (z220:Mk K z105 z32)
 (z221:W.nsIn K mainGlobals "Turned"=some (some (.ref z106)))
 (z222:Cls K z106)
 (z223:qR K z106 "inner")
 (z224:Meth K z106 "goes_ahead" z35)
 (z225:Meth K z106 "choose" z28)
 (z226:Mk K z106 z34)
 (z227:W.nsIn K mainGlobals "Window"=some (some (.ref z107)))
 (z228:Cls K z107)
 (z229:qR K z107 "many")
 (z230:Meth K z107 "choose" z37)
 (z231:Meth K z107 "goes_ahead" z29)
 (z232:Mk K z107 z36)
 (z233:W.nsIn K mainGlobals "Book"=some (some (.ref z108)))
 (z234:Cls K z108)
 (z235:qR K z108 "blocks")
 (z236:qR K z108 "pages")
 (z237:qR K z108 "stamp")
 (z238:qR K z108 "where")
 (z239:qR K z108 "live")
 (z240:qR K z108 "filled")
 (z241:qR K z108 "born")
 (z242:Meth K z108 "mark" z39)
 (z243:Meth K z108 "note" z40)
 (z244:Meth K z108 "forget" z41)
 (z245:Meth K z108 "emptied" z42)
 (z246:Meth K z108 "live_pages" z43)
 (z247:Meth K z108 "held" z44)
 (z248:Mk K z108 z38)
 (z249:W.nsIn K mainGlobals "Plain"=some (some (.ref z109)))
 (z250:W.nsIn K mainGlobals "Store"=some (some (.ref z110)))
 (z251:Cls K z110)
 (z252:qR K z110 "chip")
 (z253:qR K z110 "terms")
 (z254:qR K z110 "book")
 (z255:qR K z110 "rule")
 (z256:qR K z110 "papers")
 (z257:Meth K z110 "reserve" z60)
 (z258:Meth K z110 "tally" z61)
 (z259:Meth K z110 "space" z62)
 (z260:Meth K z110 "full_ones" z63)
 (z261:Meth K z110 "with_dead_page" z64)
 (z262:Meth K z110 "options" z65)
 (z263:Meth K z110 "choice" z66)
 (z264:Meth K z110 "choice_by_rule" z67)
 (z265:Meth K z110 "moved" z68)
 (z266:Meth K z110 "value_to_move" z69)
 (z267:Meth K z110 "wiped" z70)
 (z268:Meth K z110 "clear_out" z71)
 (z269:Meth K z110 "make_room" z72)
 (z270:Meth K z110 "make_ready" z73)
 (z271:Meth K z110 "make_rooms" z74)
 (z272:Meth K z110 "good" z46)
 (z273:Meth K z110 "free" z47)
 (z274:Meth K z110 "part" z48)
 (z275:Meth K z110 "spot" z49)
 (z276:Meth K z110 "ready" z50)
 (z277:Meth K z110 "set_down" z51)
 (z278:Meth K z110 "lay" z52)
 (z279:Meth K z110 "write" z53)
 (z280:Meth K z110 "held" z54)
 (z281:Meth K z110 "check_sheet" z55)
 (z282:Meth K z110 "check_share" z56)
 (z283:Mk K z110 z59)
 (z284:W.nsIn K mainGlobals "Terms"=some (some (.ref z111)))
 (z285:Cls K z111)
 (z286:qR K z111 "blocks")
 (z287:qR K z111 "pages")
 (z288:qR K z111 "sheets")
 (z289:qR K z111 "share")
 (z290:qR K z111 "ill")
 (z291:qR K z111 "spread")
 (z292:Meth K z111 "closed" z76)
 (z293:Mk K z111 z75)
 (z294:ClM K z109 "__init__" z45)
 (z295:W.codeHdIn K z0 z1=true)
 (z296:W.codeHdIn K z2 z3=true)
 (z297:z1≠z3)
 (z298:GFn K "is_whole" z4)
 (z299:GFn K "is_within" z5)
 (z300:GFn K "is_shape" z6)
 (z301:GFn K "is_value" z7)
 (z302:GFn K "limits_of" z8)
 (z303:GFn K "is_sheet" z22)
 (z304:GFn K "mark_of" z23)
 (z305:GFn K "is_unbeaten" z24)
 (z306:GFn K "first_unbeaten" z25)
 (z307:GFn K "by_age" z26)
 (z308:GFn K "paper_of" z57)
 (z309:GFn K "pages_moved" z58)
 (z310:GFn K "is_row" z77)
 (z311:GFn K "closed_pages" z78)
 (z312:GFn K "check_race" z79)
 (z313:GFn K "check_length" z80)
 (z314:GFn K "check_unlike" z81)
 (z315:GFn K "papers_of_race" z82)
 (z316:GFn K "outcome_of" z83)
 (z317:GFn K "chosen_in" z84)
 (z318:GFn K "moves_by" z85)
 (z319:GFn K "_law_whole" z86)
 (z320:GFn K "_law_drawn" z87)
 (z321:GFn K "_law_race" z88)
 (z322:GFn K "_law_new" z89)
 (z323:GFn K "_law_put" z90)
 (z324:GFn K "_law_live" z91)
 (z325:GFn K "_law_short" z92)
 (z326:GFn K "_law_ways" z93)
 (z327:GFn K "_law_cleared_out" z94)
 (z328:GFn K "_law_rule" z95)
 (z329:GFn K "_law_rank" z96)
 (z330:GFn K "_law_chosen" z97)
 (z331:GFn K "_law_due" z98)
 (z332:W.nsIn K mainGlobals "MOST_TOLD"=some (some (.int 1000000 tk_MOST_TOLD)))
 (z333:W.nsIn K mainGlobals "ROLL"=some (some (.int 64 tk_ROLL)))
 (z334:W.nsIn K mainGlobals "NAMES"=some (some (.int 128 tk_NAMES)))
 (z335:W.nsIn K mainGlobals "all"=some none)
 (z336:W.nsIn K mainGlobals "bool"=some none)
 (z337:W.nsIn K mainGlobals "enumerate"=some none)
 (z338:W.nsIn K mainGlobals "int"=some none)
 (z339:W.nsIn K mainGlobals "isinstance"=some none)
 (z340:W.nsIn K mainGlobals "len"=some none)
 (z341:W.nsIn K mainGlobals "list"=some none)
 (z342:W.nsIn K mainGlobals "min"=some none)
 (z343:W.nsIn K mainGlobals "range"=some none)
 (z344:W.nsIn K mainGlobals "set"=some none)
 (z345:W.nsIn K mainGlobals "sorted"=some none)
 (z346:W.nsIn K mainGlobals "sum"=some none)
 (z347:W.nsIn K mainGlobals "tuple"=some none)
 (z348:FnX K "is_whole" "is_whole" q3K z4)
 (z349:FnX K "is_within" "is_within" q2A z5)
 (z350:FnX K "is_shape" "is_shape" q3L z6)
 (z351:FnX K "is_value" "is_value" q3M z7)
 (z352:FnX K "limits_of" "limits_of" q2B z8)
 (z353:K.lookup z9=some ⟨z117,z114,.func (W.fnOf "__init__" "Chip.__init__" (yK uT) (yD uT) (qF uT) (.ref z112) z118 z119 z120 z115 z121 z122),z116⟩)
 (z354:W.codeIn K z121 "Chip.__init__"=true)
 (z355:K.lookup z112=some ⟨.type "tuple",z123,.seq #[.int 1000000 e0_Chip_init,.none] z124,z125⟩)
 (z356:FnX K "put" "Chip.put" q3N z10)
 (z357:FnX K "wipe" "Chip.wipe" q2C z11)
 (z358:FnX K "read" "Chip.read" q2D z12)
 (z359:FnX K "is_dark" "Chip.is_dark" zK z13)
 (z360:FnX K "cleared" "Chip.cleared" zL z14)
 (z361:FnX K "failed" "Chip.failed" q0D z15)
 (z362:FnX K "check_page" "Chip.check_page" uY z16)
 (z363:FnX K "check_block" "Chip.check_block" uM z17)
 (z364:FnX K "check_power" "Chip.check_power" uN z18)
 (z365:FnX K "check_deed" "Chip.check_deed" uZ z19)
 (z366:FnX K "is_spent" "Chip.is_spent" vU z20)
 (z367:FnX K "do_deed" "Chip.do_deed" zM z21)
 (z368:FnX K "is_sheet" "is_sheet" q3O z22)
 (z369:FnX K "mark_of" "mark_of" q4Y z23)
 (z370:FnX K "is_unbeaten" "is_unbeaten" q0E z24)
 (z371:FnX K "first_unbeaten" "first_unbeaten" vF z25)
 (z372:FnX K "by_age" "by_age" q71 z26)
 (z373:FnX K "goes_ahead" "Rule.goes_ahead" v1 z27)
 (z374:FnX K "choose" "Rule.choose" q0F z28)
 (z375:FnX K "goes_ahead" "Fewest.goes_ahead" uA z29)
 (z376:FnX K "goes_ahead" "Eldest.goes_ahead" uB z30)
 (z377:FnX K "goes_ahead" "Worth.goes_ahead" uO z31)
 (z378:FnX K "__init__" "Weighed.__init__" zN z32)
 (z379:FnX K "goes_ahead" "Weighed.goes_ahead" yZ z33)
 (z380:FnX K "__init__" "Turned.__init__" q0G z34)
 (z381:FnX K "goes_ahead" "Turned.goes_ahead" uC z35)
 (z382:FnX K "__init__" "Window.__init__" q0H z36)
 (z383:FnX K "choose" "Window.choose" vV z37)
 (z384:FnX K "__init__" "Book.__init__" q2E z38)
 (z385:FnX K "mark" "Book.mark" q2F z39)
 (z386:FnX K "note" "Book.note" q2G z40)
 (z387:FnX K "forget" "Book.forget" q0I z41)
 (z388:FnX K "emptied" "Book.emptied" zO z42)
 (z389:FnX K "live_pages" "Book.live_pages" v3 z43)
 (z390:FnX K "held" "Book.held" q2H z44)
 (z391:FnX K "__init__" "Plain.__init__" q1I z45)
 (z392:FnX K "good" "Plain.good" q1J z46)
 (z393:K.lookup z47=some ⟨z129,z126,.func (W.fnOf "free" "Plain.free" (yK jU) (yD jU) (qF jU) .none z130 z131 z132 z127 (.ref z0) z134),z128⟩)
 (z394:W.codeIn K (.ref z0) "Plain.free"=true)
 (z395:FnX K "part" "Plain.part" q1K z48)
 (z396:FnX K "spot" "Plain.spot" q1L z49)
 (z397:FnX K "ready" "Plain.ready" q0J z50)
 (z398:FnX K "set_down" "Plain.set_down" vG z51)
 (z399:FnX K "lay" "Plain.lay" q2I z52)
 (z400:FnX K "write" "Plain.write" q0K z53)
 (z401:FnX K "held" "Plain.held" q1M z54)
 (z402:FnX K "check_sheet" "Plain.check_sheet" uD z55)
 (z403:FnX K "check_share" "Plain.check_share" uE z56)
 (z404:FnX K "paper_of" "paper_of" q3P z57)
 (z405:FnX K "pages_moved" "pages_moved" q0L z58)
 (z406:FnX K "__init__" "Store.__init__" q1N z59)
 (z407:FnX K "reserve" "Store.reserve" vW z60)
 (z408:FnX K "tally" "Store.tally" q0M z61)
 (z409:FnX K "space" "Store.space" q0N z62)
 (z410:FnX K "full_ones" "Store.full_ones" v4 z63)
 (z411:FnX K "with_dead_page" "Store.with_dead_page" yR z64)
 (z412:FnX K "options" "Store.options" vX z65)
 (z413:FnX K "choice" "Store.choice" zP z66)
 (z414:FnX K "choice_by_rule" "Store.choice_by_rule" yS z67)
 (z415:FnX K "moved" "Store.moved" q0O z68)
 (z416:FnX K "value_to_move" "Store.value_to_move" yW z69)
 (z417:FnX K "wiped" "Store.wiped" q0P z70)
 (z418:FnX K "clear_out" "Store.clear_out" v6 z71)
 (z419:FnX K "make_room" "Store.make_room" v7 z72)
 (z420:FnX K "make_ready" "Store.make_ready" uP z73)
 (z421:FnX K "make_rooms" "Store.make_rooms" uQ z74)
 (z422:K.lookup z75=some ⟨z141,z138,.func (W.fnOf "__init__" "Terms.__init__" (yK u8) (yD u8) (qF u8) (.ref z113) z142 z143 z144 z139 z145 z146),z140⟩)
 (z423:W.codeIn K z145 "Terms.__init__"=true)
 (z424:K.lookup z113=some ⟨.type "tuple",z147,.seq #[.int 0 e0_Terms_init,.int 1000000 e1_Terms_init] z148,z149⟩)
 (z425:FnX K "closed" "Terms.closed" zQ z76)
 (z426:FnX K "is_row" "is_row" q72 z77)
 (z427:FnX K "closed_pages" "closed_pages" zR z78)
 (z428:FnX K "check_race" "check_race" q1O z79)
 (z429:FnX K "check_length" "check_length" zS z80)
 (z430:FnX K "check_unlike" "check_unlike" zT z81)
 (z431:FnX K "papers_of_race" "papers_of_race" vH z82)
 (z432:FnX K "outcome_of" "outcome_of" q1P z83)
 (z433:FnX K "chosen_in" "chosen_in" q2J z84)
 (z434:FnX K "moves_by" "moves_by" q3Q z85)
 (z435:FnX K "_law_whole" "_law_whole" q2K z86)
 (z436:FnX K "_law_drawn" "_law_drawn" q2L z87)
 (z437:FnX K "_law_race" "_law_race" q3R z88)
 (z438:FnX K "_law_new" "_law_new" q4Z z89)
 (z439:FnX K "_law_put" "_law_put" q50 z90)
 (z440:FnX K "_law_live" "_law_live" q3S z91)
 (z441:FnX K "_law_short" "_law_short" q2M z92)
 (z442:FnX K "_law_ways" "_law_ways" q3T z93)
 (z443:FnX K "_law_cleared_out" "_law_cleared_out" v8 z94)
 (z444:K.lookup z95=some ⟨z153,z150,.func (W.fnOf "_law_rule" "_law_rule" (yK yN) (yD yN) (qF yN) .none z154 z155 z156 z151 (.ref z2) z158),z152⟩)
 (z445:W.codeIn K (.ref z2) "_law_rule"=true)
 (z446:FnX K "_law_rank" "_law_rank" q3U z96)
 (z447:FnX K "_law_chosen" "_law_chosen" q1Q z97)
 (z448:FnX K "_law_due" "_law_due" q51 z98)
 (z449:W.nsIn K mainGlobals "law"=some (some (.ref z99)))
 (z450:FnX K "law" "law" qGH z99):
 ∃fd:FuncData,(∀(s:Shared) (v:Value),BindsTo s fd ⟨[v],[]⟩ [("_law_script",v)])∧∀base:Heap,K.In base→base.Ns mainGlobals mg→BmIn base mg→FnOk l.prog w K mg base (CX0) 20 fa fd ["_law_script"] (q4V K [z1,z3]):=by
 have e:=hfa.symm.trans (m8 X G z449)
 cases e
 let t:Adr:=⟨z4,z5,z6,z7,z8,z9,z10,z11,z12,z13,z14,z15,z16,z17,z18,z19,z20,z21,z22,z23,z24,z25,z26,z27,z28,z29,z30,z31,z32,z33,z34,z35,z36,z37,z38,z39,z40,z41,z42,z43,z44,z45,z46,z47,z48,z49,z50,z51,z52,z53,z54,z55,z56,z57,z58,z59,z60,z61,z62,z63,z64,z65,z66,z67,z68,z69,z70,z71,z72,z73,z74,z75,z76,z77,z78,z79,z80,z81,z82,z83,z84,z85,z86,z87,z88,z89,z90,z91,z92,z93,z94,z95,z96,z97,z98,fa,z100,z101,z102,z103,z104,z105,z106,z107,z108,z109,z110,z111,tk_MOST_TOLD,tk_ROLL,tk_NAMES,z0,z1,z2,z3⟩
 have T:Txt K mg t:=⟨m8 X G z162,z163,z164,z165,z166,z167,z168,z169,z170,z171,z172,z173,z174,z175,z176,z177,z178,z179,z180,z181,z182,z183,z184,z185,z186,m8 X G z187,z188,z189,z190,⟨z191,z192,z193⟩,m8 X G z194,z195,z196,z197,⟨z198,z199,z200⟩,m8 X G z201,z202,z203,z204,⟨z205,z206,z207⟩,m8 X G z208,z209,z210,z211,⟨z212,z213,z214⟩,m8 X G z215,z216,z217,z218,z219,z220,m8 X G z221,z222,z223,z224,z225,z226,m8 X G z227,z228,z229,z230,z231,z232,m8 X G z233,z234,z235,z236,z237,z238,z239,z240,z241,z242,z243,z244,z245,z246,z247,z248,m8 X G z249,m8 X G z250,z251,z252,z253,z254,z255,z256,z257,z258,z259,z260,z261,z262,z263,z264,z265,z266,z267,z268,z269,z270,z271,z272,z273,z274,z275,z276,z277,z278,z279,z280,z281,z282,z283,m8 X G z284,z285,z286,z287,z288,z289,z290,z291,z292,z293,z294,z295,z296,z297,m8 X G z298.1,z298.2,m8 X G z299.1,z299.2,m8 X G z300.1,z300.2,m8 X G z301.1,z301.2,m8 X G z302.1,z302.2,m8 X G z303.1,z303.2,m8 X G z304.1,z304.2,m8 X G z305.1,z305.2,m8 X G z306.1,z306.2,m8 X G z307.1,m8 X G z308.1,z308.2,m8 X G z309.1,z309.2,m8 X G z310.1,z310.2,m8 X G z311.1,z311.2,m8 X G z312.1,z312.2,m8 X G z313.1,z313.2,m8 X G z314.1,z314.2,m8 X G z315.1,z315.2,m8 X G z316.1,z316.2,m8 X G z317.1,z317.2,m8 X G z318.1,z318.2,m8 X G z319.1,z319.2,m8 X G z320.1,z320.2,m8 X G z321.1,z321.2,m8 X G z322.1,z322.2,m8 X G z323.1,z323.2,m8 X G z324.1,z324.2,m8 X G z325.1,z325.2,m8 X G z326.1,z326.2,m8 X G z327.1,z327.2,m8 X G z328.1,z328.2,m8 X G z329.1,z329.2,m8 X G z330.1,z330.2,m8 X G z331.1,z331.2,m8 X G z332,m8 X G z333,m8 X G z334,g9 X G z335,g9 X G z336,g9 X G z337,g9 X G z338,g9 X G z339,g9 X G z340,g9 X G z341,g9 X G z342,g9 X G z343,g9 X G z344,g9 X G z345,g9 X G z346,g9 X G z347⟩
 let S:Fns K t:=⟨fn1 z348,
  fn1 z349,
  fn1 z350,
  fn1 z351,
  fn1 z352,
  _,
  (.ref z112),
  FunD.mk' (st:=uT) z353 z354,
  λs us kin hl=>by rw[lnx (us:=us) (n:=5) (by simpa using hl)];exact d9 rfl (kin _ _ z355) rfl rfl rfl,
  [.none],
  λs us kin hl=>by rw[lnx (us:=us) (n:=4) (by simpa using hl)];exact d9 rfl (kin _ _ z355) rfl rfl rfl,
  (.cons rfl .nil),
  [.int 1000000 e0_Chip_init,.none],
  λs us kin hl=>by rw[lnx (us:=us) (n:=3) (by simpa using hl)];exact d9 rfl (kin _ _ z355) rfl rfl rfl,
  (.cons ⟨_,rfl⟩ (.cons rfl .nil)),
  fn1 z356,
  fn1 z357,
  fn1 z358,
  fn1 z359,
  fn1 z360,
  fn1 z361,
  fn1 z362,
  fn1 z363,
  fn1 z364,
  fn1 z365,
  fn1 z366,
  fn1 z367,
  fn1 z368,
  fn1 z369,
  fn1 z370,
  fn1 z371,
  fn1 z372,
  fn1 z373,
  fn1 z374,
  fn1 z375,
  fn1 z376,
  fn1 z377,
  fn1 z378,
  fn1 z379,
  fn1 z380,
  fn1 z381,
  fn1 z382,
  fn1 z383,
  fn1 z384,
  fn1 z385,
  fn1 z386,
  fn1 z387,
  fn1 z388,
  fn1 z389,
  fn1 z390,
  fn1 z391,
  fn1 z392,
  _,
  FunT.mk' (st:=jU) z393 z394,
  jT.all λus hl=>by rw[lnx hl];rfl,
  fn1 z395,
  fn1 z396,
  fn1 z397,
  fn1 z398,
  fn1 z399,
  fn1 z400,
  fn1 z401,
  fn1 z402,
  fn1 z403,
  fn1 z404,
  fn1 z405,
  fn1 z406,
  fn1 z407,
  fn1 z408,
  fn1 z409,
  fn1 z410,
  fn1 z411,
  fn1 z412,
  fn1 z413,
  fn1 z414,
  fn1 z415,
  fn1 z416,
  fn1 z417,
  fn1 z418,
  fn1 z419,
  fn1 z420,
  fn1 z421,
  _,
  (.ref z113),
  FunD.mk' (st:=u8) z422 z423,
  λs us kin hl=>by rw[lnx (us:=us) (n:=7) (by simpa using hl)];exact d9 rfl (kin _ _ z424) rfl rfl rfl,
  [.int 1000000 e1_Terms_init],
  λs us kin hl=>by rw[lnx (us:=us) (n:=6) (by simpa using hl)];exact d9 rfl (kin _ _ z424) rfl rfl rfl,
  (.cons ⟨_,rfl⟩ .nil),
  [.int 0 e0_Terms_init,.int 1000000 e1_Terms_init],
  λs us kin hl=>by rw[lnx (us:=us) (n:=5) (by simpa using hl)];exact d9 rfl (kin _ _ z424) rfl rfl rfl,
  (.cons ⟨_,rfl⟩ (.cons ⟨_,rfl⟩ .nil)),
  fn1 z425,
  fn1 z426,
  fn1 z427,
  fn1 z428,
  fn1 z429,
  fn1 z430,
  fn1 z431,
  fn1 z432,
  fn1 z433,
  fn1 z434,
  fn1 z435,
  fn1 z436,
  fn1 z437,
  fn1 z438,
  fn1 z439,
  fn1 z440,
  fn1 z441,
  fn1 z442,
  fn1 z443,
  _,
  FunT.mk' (st:=yN) z444 z445,
  jT.all λus hl=>by rw[lnx hl];rfl,
  fn1 z446,
  fn1 z447,
  fn1 z448,
  fn1 z450⟩
 exact⟨_,FnX.bind1 (by intros;rfl) S.law.F,λbase _ _ bm=>qKA T S bm⟩
theorem walk{l:W.OpenLaw}{q:Program}{loose:List Str}{XP:(Str→Option Value)→Heap→Prop}{YP:World→Heap→Prop}{d:DefRec}{K:Params→W.Frag}(hn:l.most=some 63)(hdf:d.params.defaults=[])
 (hY:∀(w:World) (h:Heap),YP w h→(K w.params).In h∧∀T∈([653,1036]:List Addr),h.get? T=some (W.tabObj #[])) (hT:∀w:World,∀T∈([653,1036]:List Addr),(K w.params).lookup T=none∧∃c,W.codeHdIn (K w.params) c T=true)
 (F:∀(w:World) (mg:Str→Option Value) (fa:Addr) (h:Heap),(K w.params).In h→h.Ns mainGlobals mg→mg d.name=some (.ref fa)→
  ∃fd:FuncData,(∀(s:Shared) (u:Value),BindsTo s fd ⟨[u],[]⟩ [("_law_script",u)])∧∀base:Heap,(K w.params).In base→base.Ns mainGlobals mg→BmIn base mg→FnOk l.prog w (K w.params) mg base (CX0) 20 fa fd ["_law_script"] (q4V (K w.params) [653,1036])):
 W.WalkO q loose XP YP l.row.toRowW d [] (λf vs=>PySem.call f vs):=
 L2.qG2 (n:=63) (k:=20) (x:="_law_script") (CX:=λ_=>CX0) (sp:=λw=>q4V (K w.params) [653,1036]) [653,1036] hn (by decide) hdf ⟨rfl,by decide,by decide⟩ hY hT F (λ_ _ a ns hl hS hT=>⟨a,ns,rfl,hS,hl,hT,λ_=>rfl⟩) (λ_ _ _ _ _ z=>z)
end W1
namespace PySem.W.Fast
theorem tw3939157070906961322:True:=⟨⟩
theorem tw9053728855637756224:True:=⟨⟩
theorem tw13619073834080789056:True:=⟨⟩
theorem tw2699564631406771777:True:=⟨⟩
theorem tw11159199026413638433:True:=⟨⟩
theorem tw4286456966669109217:True:=⟨⟩
theorem tw9063861660202340546:True:=⟨⟩
theorem tw15351629069230213762:True:=⟨⟩
theorem tw8957964940652217955:True:=⟨⟩
theorem tw4502886415846535364:True:=⟨⟩
theorem tw18245841079032616358:True:=⟨⟩
theorem tw8326837524757207782:True:=⟨⟩
theorem tw2538845288427387814:True:=⟨⟩
theorem tw11833234022219309671:True:=⟨⟩
theorem tw17556478771025355976:True:=⟨⟩
theorem tw10754537478104249576:True:=⟨⟩
theorem tw2392483429534224648:True:=⟨⟩
theorem tw14203339893671668456:True:=⟨⟩
theorem tw9386126003910444936:True:=⟨⟩
theorem tw4568095419691808937:True:=⟨⟩
theorem tw7529911628233277097:True:=⟨⟩
theorem tw721187912585080521:True:=⟨⟩
theorem tw484936967607575273:True:=⟨⟩
theorem tw6632474924062950634:True:=⟨⟩
theorem tw2036608318178891883:True:=⟨⟩
theorem tw923915352407031915:True:=⟨⟩
theorem tw984827584266623883:True:=⟨⟩
theorem tw15636595426286330092:True:=⟨⟩
theorem tw4048692522583394924:True:=⟨⟩
theorem tw3628349006535733645:True:=⟨⟩
theorem tw16230006643941685229:True:=⟨⟩
theorem tw554808461206453518:True:=⟨⟩
theorem tw15585899167507778223:True:=⟨⟩
theorem tw17970887091291264240:True:=⟨⟩
theorem tw11326233913254136048:True:=⟨⟩
theorem tw11677572252242295120:True:=⟨⟩
theorem tw13216652542720671472:True:=⟨⟩
theorem tw7430627822267763185:True:=⟨⟩
theorem tw9475867801388330162:True:=⟨⟩
theorem tw6532002541397113362:True:=⟨⟩
theorem tw9734326573828846162:True:=⟨⟩
theorem tw17855552378387139378:True:=⟨⟩
theorem tw3985099921627749747:True:=⟨⟩
theorem tw8038542415646067347:True:=⟨⟩
theorem tw14954668446380802739:True:=⟨⟩
theorem tw2107319692900408243:True:=⟨⟩
theorem tw13623953346606413364:True:=⟨⟩
theorem tw6104131716862054773:True:=⟨⟩
theorem tw17953122236733869621:True:=⟨⟩
theorem tw10253372370707605173:True:=⟨⟩
theorem tw363705975060619029:True:=⟨⟩
theorem tw15807201482541770709:True:=⟨⟩
theorem tw916613084793029111:True:=⟨⟩
theorem tw8031309071139335671:True:=⟨⟩
theorem tw15156932302302070391:True:=⟨⟩
theorem tw9011429405508630776:True:=⟨⟩
theorem tw3780534478416579000:True:=⟨⟩
theorem tw2152472195516925720:True:=⟨⟩
theorem tw15425740040902712505:True:=⟨⟩
theorem tw17813200278020992090:True:=⟨⟩
theorem tw3473577243596331580:True:=⟨⟩
theorem tw16440357075719756636:True:=⟨⟩
theorem tw2569939725700428796:True:=⟨⟩
theorem tw16384266773755758813:True:=⟨⟩
theorem tw9627405417340939037:True:=⟨⟩
theorem tw10975134017927707454:True:=⟨⟩
theorem tw5831905504505959390:True:=⟨⟩
theorem tw9328304308562735070:True:=⟨⟩
theorem tw12329063255193798047:True:=⟨⟩
theorem tw3961564454106223705:True:=⟨⟩
theorem tw13311472861118168299:True:=⟨⟩
theorem tw17485155972092572678:True:=⟨⟩
theorem tw7990980697998147038:True:=⟨⟩
theorem tw17636095826860037772:True:=⟨⟩
theorem tw16674744810599865395:True:=⟨⟩
theorem tw15731668776681770568:True:=⟨⟩
theorem tw2909710612190964719:True:=⟨⟩
theorem tw10118538309061151229:True:=⟨⟩
theorem tw12075310839686872818:True:=⟨⟩
theorem tw1635509940665563736:True:=⟨⟩
theorem tw15855689040749135932:True:=⟨⟩
theorem tw15671944243936630156:True:=⟨⟩
theorem tw9700545567740166687:True:=⟨⟩
theorem tw10666489652413333717:True:=⟨⟩
theorem tw1863706692216347185:True:=⟨⟩
theorem tw14292492937804557348:True:=⟨⟩
theorem tw15967542810598170727:True:=⟨⟩
theorem tw14777816363632549171:True:=⟨⟩
theorem tw4810879011720827116:True:=⟨⟩
theorem tw17993191187551428257:True:=⟨⟩
theorem tw1233967142814526514:True:=⟨⟩
theorem tw14107264561978541635:True:=⟨⟩
theorem tw17645843103147586078:True:=⟨⟩
theorem tw3041471860347291213:True:=⟨⟩
theorem tw11039886681021278985:True:=⟨⟩
theorem tw402782748146123110:True:=⟨⟩
theorem tw12002367187559467676:True:=⟨⟩
theorem tw17903466243730526366:True:=⟨⟩
theorem tw5721399660411222521:True:=⟨⟩
theorem tw2451161738718894518:True:=⟨⟩
theorem tw4141027230894925912:True:=⟨⟩
theorem tw853626818896722029:True:=⟨⟩
theorem tw8345436245787344631:True:=⟨⟩
theorem tw160243142793927355:True:=⟨⟩
theorem tw18131236797874193703:True:=⟨⟩
theorem tw13625101671397022486:True:=⟨⟩
theorem tw270532754158751720:True:=⟨⟩
theorem tw7381697908889979901:True:=⟨⟩
theorem tw990953455387953560:True:=⟨⟩
theorem tw13266796462213865415:True:=⟨⟩
theorem tw14121933510381715765:True:=⟨⟩
theorem tw3998877360159334005:True:=⟨⟩
theorem tw10497714091236591958:True:=⟨⟩
theorem tw159628367115660933:True:=⟨⟩
theorem tw8327810409244865308:True:=⟨⟩
theorem tw13135142217501162250:True:=⟨⟩
theorem tw16369971200075765997:True:=⟨⟩
theorem tw16194615443594071039:True:=⟨⟩
theorem tw6880983354269714149:True:=⟨⟩
theorem tw8256253051209357947:True:=⟨⟩
theorem tw8394149437969755269:True:=⟨⟩
theorem tw3044496663594856116:True:=⟨⟩
theorem tw5019689302578183002:True:=⟨⟩
theorem tw2852346265446640591:True:=⟨⟩
theorem tw15704916403696002902:True:=⟨⟩
theorem tw11435731214257293333:True:=⟨⟩
theorem tw11918465755893554013:True:=⟨⟩
theorem tw5566922472089243247:True:=⟨⟩
theorem tw8527433630902502102:True:=⟨⟩
theorem tw6345854923880434418:True:=⟨⟩
theorem tw5611554192795159346:True:=⟨⟩
theorem tw14781940580403977487:True:=⟨⟩
theorem tw4138377973884783185:True:=⟨⟩
theorem tw14392481636749456918:True:=⟨⟩
theorem tw17161768732293879534:True:=⟨⟩
theorem tw3318443695904509367:True:=⟨⟩
theorem tw15641391707927820572:True:=⟨⟩
theorem tw8709812165200608013:True:=⟨⟩
theorem tw5564149587727158333:True:=⟨⟩
theorem tw12339784690004843612:True:=⟨⟩
theorem tw16781031285896944326:True:=⟨⟩
theorem tw10864329623952039376:True:=⟨⟩
theorem tw12231239150573855180:True:=⟨⟩
theorem tw1963945823957386115:True:=⟨⟩
theorem tw5352690934699353547:True:=⟨⟩
theorem tw14583230948763954715:True:=⟨⟩
theorem tw14826458656115220049:True:=⟨⟩
theorem tw12852428275752609418:True:=⟨⟩
theorem tw7458428130206599964:True:=⟨⟩
theorem tw6771374585276982893:True:=⟨⟩
theorem tw14210114310542264516:True:=⟨⟩
theorem tw14394819974464465016:True:=⟨⟩
theorem tw12117517073802583001:True:=⟨⟩
theorem tw8888013682120392004:True:=⟨⟩
theorem tw3996204674375388800:True:=⟨⟩
theorem tw7381261992012499073:True:=⟨⟩
theorem tw7141573528348802489:True:=⟨⟩
theorem tw6811029681822055280:True:=⟨⟩
theorem tw15670447837326455453:True:=⟨⟩
theorem tw14283310606190497161:True:=⟨⟩
theorem tw17338347597677885111:True:=⟨⟩
theorem tw6533046682334824139:True:=⟨⟩
theorem tw14416530871879746318:True:=⟨⟩
theorem tw5711151785288274687:True:=⟨⟩
theorem tw11909092987453516094:True:=⟨⟩
theorem tw4526505896388418560:True:=⟨⟩
theorem tw12165571917878876809:True:=⟨⟩
theorem tw1754966399104770674:True:=⟨⟩
theorem tw3870996282458782794:True:=⟨⟩
theorem tw3811668159187166829:True:=⟨⟩
theorem tw9635842413940695642:True:=⟨⟩
theorem tw14746250497786624474:True:=⟨⟩
theorem tw8598562666892591583:True:=⟨⟩
theorem tw1141714484966495619:True:=⟨⟩
theorem tw16631872924086372107:True:=⟨⟩
theorem tw13075171742627612776:True:=⟨⟩
theorem tw14448209039740815544:True:=⟨⟩
theorem tw7880232157431560081:True:=⟨⟩
theorem tw17669897985407063935:True:=⟨⟩
theorem tw11644733687623949471:True:=⟨⟩
theorem tw8271564122309060383:True:=⟨⟩
theorem tw2418863568994862777:True:=⟨⟩
theorem tw5917716723327224036:True:=⟨⟩
theorem tw4647904450635974367:True:=⟨⟩
theorem tw16577521764756386934:True:=⟨⟩
theorem tw15935192166609360812:True:=⟨⟩
theorem tw16824250118038484051:True:=⟨⟩
theorem tw11603616724864823512:True:=⟨⟩
theorem tw1977216952206256506:True:=⟨⟩
theorem tw6177111587223059433:True:=⟨⟩
theorem tw9508523523447039718:True:=⟨⟩
theorem tw8993421610901957036:True:=⟨⟩
theorem tw290707751059638151:True:=⟨⟩
theorem tw17219337375550399265:True:=⟨⟩
theorem tw8092803605865572107:True:=⟨⟩
theorem tw5140472294654112014:True:=⟨⟩
theorem tw12101847508008790780:True:=⟨⟩
theorem tw6386891821035460990:True:=⟨⟩
theorem tw6822797504277001666:True:=⟨⟩
theorem tw9673860753588989132:True:=⟨⟩
theorem tw16743020394805483137:True:=⟨⟩
theorem tw6228507578224441987:True:=⟨⟩
theorem tw13574640103647652619:True:=⟨⟩
theorem tw4712159349804835556:True:=⟨⟩
theorem tw3286668801596777602:True:=⟨⟩
theorem tw17889034565715870018:True:=⟨⟩
theorem tw2943136749003108195:True:=⟨⟩
theorem tw5822954234761397137:True:=⟨⟩
theorem tw13335730640087576850:True:=⟨⟩
theorem tw17479938776799810225:True:=⟨⟩
theorem tw17618031996346720353:True:=⟨⟩
theorem tw12461106571832593898:True:=⟨⟩
theorem tw1555633966539831583:True:=⟨⟩
theorem tw2408990931315308964:True:=⟨⟩
theorem tw12061932816239300081:True:=⟨⟩
theorem tw1370537083643577269:True:=⟨⟩
theorem tw14023148744529569765:True:=⟨⟩
theorem tw9802822604892002283:True:=⟨⟩
theorem tw49662658895132940:True:=⟨⟩
theorem tw4809529160624626558:True:=⟨⟩
theorem tw11900126107172711461:True:=⟨⟩
theorem tw3708241258405176594:True:=⟨⟩
theorem tw11938113992973332668:True:=⟨⟩
theorem tw6197728396613444196:True:=⟨⟩
theorem tw9513241574412501898:True:=⟨⟩
theorem tw3366773590518456075:True:=⟨⟩
theorem tw17523415246393433373:True:=⟨⟩
theorem tw15654639299461454419:True:=⟨⟩
theorem tw13122935325915842748:True:=⟨⟩
theorem tw14965016224757220823:True:=⟨⟩
theorem tw2222812080062397632:True:=⟨⟩
theorem tw13703251799125414262:True:=⟨⟩
theorem tw14807550950843119783:True:=⟨⟩
theorem tw9778448197373855504:True:=⟨⟩
theorem tw6122606553102909415:True:=⟨⟩
theorem tw1602032188982663244:True:=⟨⟩
theorem tw10314003297450629936:True:=⟨⟩
theorem tw16729208456200943895:True:=⟨⟩
theorem tw3091806996500257016:True:=⟨⟩
theorem tw5671368666835621070:True:=⟨⟩
theorem tw5975686831881206157:True:=⟨⟩
theorem tw1860116624040786157:True:=⟨⟩
theorem tw558275957969222624:True:=⟨⟩
theorem tw16349746954309786842:True:=⟨⟩
theorem tw16657637402039216975:True:=⟨⟩
theorem tw13427384844180264073:True:=⟨⟩
theorem tw3560045502250102461:True:=⟨⟩
theorem tw1812052303360050295:True:=⟨⟩
theorem tw1759000022004313443:True:=⟨⟩
theorem tw13595362420880532732:True:=⟨⟩
theorem tw4053765433371180047:True:=⟨⟩
theorem tw3298197050659860192:True:=⟨⟩
theorem tw210659428977194183:True:=⟨⟩
theorem tw11155689259083882857:True:=⟨⟩
theorem tw8204161602827518922:True:=⟨⟩
theorem tw8500285432955140289:True:=⟨⟩
theorem tw10109821137640603672:True:=⟨⟩
theorem tw3509718809098260742:True:=⟨⟩
theorem tw12602746832408737660:True:=⟨⟩
theorem tw15505503862182779092:True:=⟨⟩
theorem tw7863827195852589249:True:=⟨⟩
theorem tw7774612731932477604:True:=⟨⟩
theorem tw10816001576293108510:True:=⟨⟩
theorem tw11374906610143431286:True:=⟨⟩
theorem tw14142361233973679558:True:=⟨⟩
theorem tw6131511695043388690:True:=⟨⟩
theorem tw6705835546158228567:True:=⟨⟩
theorem tw13397569493290765618:True:=⟨⟩
theorem tw10323923012145624137:True:=⟨⟩
theorem tw15545760803080762925:True:=⟨⟩
theorem tw6650392902012817624:True:=⟨⟩
theorem tw5977220302868378708:True:=⟨⟩
theorem tw8775196241291016033:True:=⟨⟩
theorem tw4270273909659170345:True:=⟨⟩
theorem tw3972034623188226381:True:=⟨⟩
theorem tw15671251579103154313:True:=⟨⟩
theorem tw13298563050573764832:True:=⟨⟩
theorem tw931544566056370976:True:=⟨⟩
theorem tw6447158427148916904:True:=⟨⟩
theorem tw10330653115816444346:True:=⟨⟩
theorem tw9330098042033733615:True:=⟨⟩
theorem tw9971706286919314966:True:=⟨⟩
theorem tw501233302076562322:True:=⟨⟩
theorem tw10655192695759297520:True:=⟨⟩
theorem tw15757350613156124267:True:=⟨⟩
theorem tw1473074016610441621:True:=⟨⟩
theorem tw14657186991008304344:True:=⟨⟩
theorem tw4155796980585182221:True:=⟨⟩
theorem tw16541026330326598712:True:=⟨⟩
theorem tw11126954824291250789:True:=⟨⟩
theorem tw13618938806892989578:True:=⟨⟩
theorem tw15650565145558198406:True:=⟨⟩
theorem tw14372659367189469845:True:=⟨⟩
theorem tw8897902072576307136:True:=⟨⟩
theorem tw323696475450381753:True:=⟨⟩
theorem tw2919382690907074635:True:=⟨⟩
theorem tw17220919965148680406:True:=⟨⟩
theorem tw12273934674926607713:True:=⟨⟩
theorem tw2231731815747642621:True:=⟨⟩
theorem tw9876310449771645217:True:=⟨⟩
theorem tw2839458143296324617:True:=⟨⟩
theorem tw7003248159942753543:True:=⟨⟩
theorem tw17432780266440278571:True:=⟨⟩
theorem tw5933277475890471927:True:=⟨⟩
theorem tw3131257537676903493:True:=⟨⟩
theorem tw1344252750106876055:True:=⟨⟩
theorem tw15063122565193948126:True:=⟨⟩
theorem tw4709326762695802392:True:=⟨⟩
theorem tw8421461307485084532:True:=⟨⟩
theorem tw18019358831943750360:True:=⟨⟩
theorem tw15661481275142335660:True:=⟨⟩
theorem tw1752097966201657907:True:=⟨⟩
theorem tw9176044186658554048:True:=⟨⟩
theorem tw15365143820238180952:True:=⟨⟩
theorem tw11990451922128718464:True:=⟨⟩
theorem tw514303254215496634:True:=⟨⟩
theorem tw6238209378763647694:True:=⟨⟩
theorem tw3871275415110695260:True:=⟨⟩
theorem tw9573581215979901391:True:=⟨⟩
theorem tw11726699047962335298:True:=⟨⟩
theorem tw11955502271379861337:True:=⟨⟩
theorem tw16814158575242532847:True:=⟨⟩
theorem tw9230871498124867765:True:=⟨⟩
theorem tw14943311753620703683:True:=⟨⟩
theorem tw9123439108336737865:True:=⟨⟩
theorem tw4402922721162028712:True:=⟨⟩
theorem tw16159783177242185686:True:=⟨⟩
theorem tw1336400183276851914:True:=⟨⟩
theorem tw15592878616807513907:True:=⟨⟩
theorem tw10711549413783675661:True:=⟨⟩
theorem tw3898741944283376229:True:=⟨⟩
theorem tw13960084942136849938:True:=⟨⟩
theorem tw4281054762346796052:True:=⟨⟩
theorem tw12537366962516171375:True:=⟨⟩
theorem tw174526826297607123:True:=⟨⟩
theorem tw14083288887678170181:True:=⟨⟩
theorem tw2705796771395883376:True:=⟨⟩
theorem tw8359743234439298880:True:=⟨⟩
theorem tw15089957175177549113:True:=⟨⟩
theorem tw8428811781294608801:True:=⟨⟩
theorem tw14086576248451647544:True:=⟨⟩
theorem tw1986860874135670972:True:=⟨⟩
theorem tw8261534630895775914:True:=⟨⟩
theorem tw14793370682304906708:True:=⟨⟩
theorem tw8566416070779959293:True:=⟨⟩
theorem tw16839939849351534313:True:=⟨⟩
theorem tw9072515749200789659:True:=⟨⟩
theorem tw14502036142226423697:True:=⟨⟩
theorem tw5357403695221503765:True:=⟨⟩
theorem tw5871621562625032986:True:=⟨⟩
theorem tw14577251830376334364:True:=⟨⟩
theorem tw1189258678345466060:True:=⟨⟩
theorem tw2694448807972408454:True:=⟨⟩
theorem tw6621718811634389977:True:=⟨⟩
theorem tw14610908131127223532:True:=⟨⟩
theorem tw12704661292875747069:True:=⟨⟩
theorem tw2799706906809731269:True:=⟨⟩
theorem tw18304902279898305979:True:=⟨⟩
theorem tw13829963345106273061:True:=⟨⟩
theorem tw13692320353574387290:True:=⟨⟩
theorem tw11243089085399571778:True:=⟨⟩
theorem tw8285535183535057709:True:=⟨⟩
theorem tw6242398252929319250:True:=⟨⟩
theorem tw961094959106457994:True:=⟨⟩
theorem tw7296998318340342545:True:=⟨⟩
theorem tw18120823061203769294:True:=⟨⟩
theorem tw6203844618771246859:True:=⟨⟩
theorem tw11907094215529862431:True:=⟨⟩
theorem tw2805011602142244061:True:=⟨⟩
theorem tw17077566408283229767:True:=⟨⟩
theorem tw18446113207856812423:True:=⟨⟩
theorem tw62232506865968370:True:=⟨⟩
theorem tw882090255385342907:True:=⟨⟩
theorem tw4769827635984484810:True:=⟨⟩
theorem tw9161616107965234225:True:=⟨⟩
theorem tw13373415031678846244:True:=⟨⟩
theorem tw1218819738814254696:True:=⟨⟩
theorem tw4855937147935835075:True:=⟨⟩
theorem tw15884910967434519898:True:=⟨⟩
theorem tw15575266754698378186:True:=⟨⟩
theorem tw12675255827352207684:True:=⟨⟩
theorem tw4800024361182113880:True:=⟨⟩
theorem tw9621634248169171368:True:=⟨⟩
theorem tw5288989642582936352:True:=⟨⟩
theorem tw4757166951307802008:True:=⟨⟩
theorem tw2837147167052972928:True:=⟨⟩
theorem tw9363379648985418060:True:=⟨⟩
theorem tw18213819798545998974:True:=⟨⟩
theorem tw9351491919396552842:True:=⟨⟩
theorem tw7691071991320712993:True:=⟨⟩
theorem tw5263253505223449921:True:=⟨⟩
theorem tw5260575675698394156:True:=⟨⟩
theorem tw15130659276396841310:True:=⟨⟩
theorem tw11709654146626775609:True:=⟨⟩
theorem tw6750187261213195376:True:=⟨⟩
theorem tw6528676530732882349:True:=⟨⟩
theorem tw13911405726585342678:True:=⟨⟩
theorem tw10628016821271902529:True:=⟨⟩
theorem tw5377887835607519198:True:=⟨⟩
theorem tw15934689150698758743:True:=⟨⟩
theorem tw16978566519921510687:True:=⟨⟩
theorem tw12158767632795445817:True:=⟨⟩
theorem tw1107941369343686999:True:=⟨⟩
theorem tw6086990028203116231:True:=⟨⟩
theorem tw18258339832790286963:True:=⟨⟩
theorem tw7682698035600908089:True:=⟨⟩
theorem tw5974158103515692387:True:=⟨⟩
theorem tw14568680131492005070:True:=⟨⟩
theorem tw12182607006353714504:True:=⟨⟩
theorem tw11475742646499727740:True:=⟨⟩
theorem tw1399664951335855239:True:=⟨⟩
theorem tw17462351142342888188:True:=⟨⟩
theorem tw12196282410353590372:True:=⟨⟩
theorem tw14672135028844920137:True:=⟨⟩
theorem tw4332972597946692302:True:=⟨⟩
theorem tw30946667499994862:True:=⟨⟩
theorem tw13551488426467804939:True:=⟨⟩
theorem tw10671482873634856262:True:=⟨⟩
theorem tw3715867425311937659:True:=⟨⟩
theorem tw15426165407481150657:True:=⟨⟩
theorem tw7636877453152736621:True:=⟨⟩
theorem tw13541378933507895443:True:=⟨⟩
theorem tw8098494698271394285:True:=⟨⟩
theorem tw3328375859663411091:True:=⟨⟩
theorem tw15887116084049572454:True:=⟨⟩
theorem tw3784027244768002577:True:=⟨⟩
theorem tw2874677990361203338:True:=⟨⟩
theorem tw12001400390287983538:True:=⟨⟩
theorem tw11211487378531372177:True:=⟨⟩
theorem tw6363335761545556666:True:=⟨⟩
theorem tw7164098536161884935:True:=⟨⟩
theorem tw2429456996642677189:True:=⟨⟩
theorem tw16051190410633197365:True:=⟨⟩
theorem tw13727674683650005861:True:=⟨⟩
theorem tw7570650875252708065:True:=⟨⟩
theorem tw5451558033811112213:True:=⟨⟩
theorem tw16402754571380646997:True:=⟨⟩
theorem tw13637893627082318725:True:=⟨⟩
theorem tw7611765981189660968:True:=⟨⟩
theorem tw4457110211285757515:True:=⟨⟩
theorem tw1707684507100613421:True:=⟨⟩
theorem tw16266179290739917623:True:=⟨⟩
theorem tw10436498932287348594:True:=⟨⟩
theorem tw5236984615674366685:True:=⟨⟩
theorem tw10897506155718252861:True:=⟨⟩
theorem tw7076561932032917624:True:=⟨⟩
theorem tw12924997712674243292:True:=⟨⟩
theorem tw13761022191885585081:True:=⟨⟩
theorem tw8347787705023559762:True:=⟨⟩
theorem tw12311831523915971211:True:=⟨⟩
theorem tw12190471445092575147:True:=⟨⟩
theorem tw15284761179725444621:True:=⟨⟩
theorem tw181458145511593958:True:=⟨⟩
theorem tw4855113324941623510:True:=⟨⟩
theorem tw13800344677704269147:True:=⟨⟩
theorem tw2190062547815114342:True:=⟨⟩
theorem tw12143672513612665291:True:=⟨⟩
theorem tw11903278197008879036:True:=⟨⟩
theorem tw8401422903568570573:True:=⟨⟩
theorem tw6358268201309790487:True:=⟨⟩
theorem tw7114747896126585402:True:=⟨⟩
theorem tw241887268135928147:True:=⟨⟩
theorem tw17500632205970463581:True:=⟨⟩
theorem tw11131866562409542652:True:=⟨⟩
theorem tw9795564422202250020:True:=⟨⟩
theorem tw5647826160048461754:True:=⟨⟩
theorem tw3394829611752143173:True:=⟨⟩
theorem tw17819263483198020780:True:=⟨⟩
theorem tw17388182711276970923:True:=⟨⟩
theorem tw14696502575794361686:True:=⟨⟩
theorem tw2252945454651819775:True:=⟨⟩
theorem tw1815254071086620805:True:=⟨⟩
theorem tw13316322931434037330:True:=⟨⟩
theorem tw6421103408922191829:True:=⟨⟩
theorem tw4490827378010833924:True:=⟨⟩
theorem tw3374841629162594705:True:=⟨⟩
theorem tw2091337995153274437:True:=⟨⟩
theorem tw16333069372718334608:True:=⟨⟩
theorem tw6539052302142926548:True:=⟨⟩
theorem tw5626840505453992648:True:=⟨⟩
theorem tw4787753262177049619:True:=⟨⟩
theorem tw202217271114242710:True:=⟨⟩
theorem tw14137006429986020406:True:=⟨⟩
theorem tw8576661161845720802:True:=⟨⟩
theorem tw7132622166162949489:True:=⟨⟩
theorem tw9352943303970219490:True:=⟨⟩
theorem tw7388537002677979171:True:=⟨⟩
theorem tw5628688710545842325:True:=⟨⟩
theorem tw10469078385986693037:True:=⟨⟩
theorem tw16718337314864563175:True:=⟨⟩
theorem tw9634924094374676464:True:=⟨⟩
theorem tw9256764142416539929:True:=⟨⟩
theorem tw7533381279739871253:True:=⟨⟩
theorem tw1640556560374542982:True:=⟨⟩
theorem tw16168841645871811398:True:=⟨⟩
theorem tw15442812321934279394:True:=⟨⟩
theorem tw13443799397084389381:True:=⟨⟩
theorem tw18283117995080365211:True:=⟨⟩
theorem tw9786065398306591999:True:=⟨⟩
theorem tw7792752682113085469:True:=⟨⟩
theorem tw4564046993761740646:True:=⟨⟩
theorem tw10854681721956775670:True:=⟨⟩
theorem tw3876149684002076914:True:=⟨⟩
theorem tw341887481447037402:True:=⟨⟩
theorem tw8393918551409431805:True:=⟨⟩
theorem tw12925083037904371804:True:=⟨⟩
theorem tw8302641996484512475:True:=⟨⟩
theorem tw9845657907023483408:True:=⟨⟩
theorem tw1427338618823068043:True:=⟨⟩
theorem tw3390911182358417298:True:=⟨⟩
theorem tw6940646398285710817:True:=⟨⟩
theorem tw10301755456733797944:True:=⟨⟩
theorem tw7250025451218887774:True:=⟨⟩
theorem tw16184068758383166668:True:=⟨⟩
theorem tw14916480599412122805:True:=⟨⟩
theorem tw863903522211217626:True:=⟨⟩
theorem tw16655443955350158005:True:=⟨⟩
theorem tw14476659066740597053:True:=⟨⟩
theorem tw6045599647354831278:True:=⟨⟩
theorem tw16591865512922012157:True:=⟨⟩
theorem tw1375130316188058620:True:=⟨⟩
theorem tw9695739698766681595:True:=⟨⟩
theorem tw4091573653174339424:True:=⟨⟩
theorem tw6369458439635353795:True:=⟨⟩
theorem tw1381961060431992165:True:=⟨⟩
theorem tw13257639998566441095:True:=⟨⟩
theorem tw3777376987621245564:True:=⟨⟩
theorem tw10992011487452039987:True:=⟨⟩
theorem tw3528884339534515442:True:=⟨⟩
theorem tw13358308025746296397:True:=⟨⟩
theorem tw1293429403494686357:True:=⟨⟩
theorem tw16934372555859334088:True:=⟨⟩
theorem tw8927757192966627551:True:=⟨⟩
theorem tw16237205831004535554:True:=⟨⟩
theorem tw15775913585436978656:True:=⟨⟩
theorem tw984256540604676852:True:=⟨⟩
theorem tw7005271283669926337:True:=⟨⟩
theorem tw6031813380896137451:True:=⟨⟩
theorem tw414152219480079885:True:=⟨⟩
theorem tw12266375945459444888:True:=⟨⟩
theorem tw2768544000917505581:True:=⟨⟩
theorem tw845752752903326113:True:=⟨⟩
theorem tw14255724324813824834:True:=⟨⟩
theorem tw12128676356890562685:True:=⟨⟩
theorem tw10635939360154447605:True:=⟨⟩
theorem tw6198532719006266062:True:=⟨⟩
theorem tw2913307162157165670:True:=⟨⟩
theorem tw18056877257119442551:True:=⟨⟩
theorem tw16534284473344158320:True:=⟨⟩
theorem tw9386723283453149163:True:=⟨⟩
theorem tw3796172635911506134:True:=⟨⟩
theorem tw3554165812356499255:True:=⟨⟩
theorem tw6435982345105299192:True:=⟨⟩
theorem tw3987145882367617701:True:=⟨⟩
theorem tw17234816282664608426:True:=⟨⟩
theorem tw15855304951132533940:True:=⟨⟩
theorem tw5105416265041229411:True:=⟨⟩
theorem tw3113028147743001402:True:=⟨⟩
theorem tw13180053703474170359:True:=⟨⟩
theorem tw10891134220637567570:True:=⟨⟩
theorem tw9293524099905494491:True:=⟨⟩
theorem tw1798205885354033971:True:=⟨⟩
theorem tw13169583812482607037:True:=⟨⟩
theorem tw14873302546408702809:True:=⟨⟩
theorem tw9297076403707374597:True:=⟨⟩
theorem tw2248777290426373865:True:=⟨⟩
theorem tw11811872196153533768:True:=⟨⟩
theorem tw15558215643297291455:True:=⟨⟩
theorem tw12966558804408383786:True:=⟨⟩
theorem tw12754319353838915293:True:=⟨⟩
theorem tw16668258301644329704:True:=⟨⟩
theorem tw13268504894846715561:True:=⟨⟩
theorem tw12400258246430252139:True:=⟨⟩
theorem tw10507410090149564635:True:=⟨⟩
theorem tw8870607267135535597:True:=⟨⟩
theorem tw17542440717122108990:True:=⟨⟩
theorem tw6024870253763103876:True:=⟨⟩
theorem tw2471732644338412181:True:=⟨⟩
theorem tw13442860910310842864:True:=⟨⟩
theorem tw7895120618447900813:True:=⟨⟩
theorem tw3773417676885844496:True:=⟨⟩
theorem tw17453151583939854962:True:=⟨⟩
theorem tw15523398534253449160:True:=⟨⟩
theorem tw8597677799399701368:True:=⟨⟩
theorem tw8313069408448296491:True:=⟨⟩
theorem tw3322810214162336030:True:=⟨⟩
theorem tw17690609789273520858:True:=⟨⟩
theorem tw14087626988174874044:True:=⟨⟩
theorem tw12377006070716164744:True:=⟨⟩
theorem tw11891706821157899122:True:=⟨⟩
theorem tw8544784296256206511:True:=⟨⟩
theorem tw7139955361107327955:True:=⟨⟩
theorem tw6989094888398984669:True:=⟨⟩
theorem tw612240242090561931:True:=⟨⟩
theorem tw18177709294044307603:True:=⟨⟩
theorem tw17551648550713973003:True:=⟨⟩
theorem tw16996049075690002269:True:=⟨⟩
theorem tw15479059932534166855:True:=⟨⟩
theorem tw15348041288382348547:True:=⟨⟩
theorem tw1487069501221419375:True:=⟨⟩
theorem tw14605565349843254079:True:=⟨⟩
theorem tw14443556436095892672:True:=⟨⟩
theorem tw14294080030935296416:True:=⟨⟩
theorem tw13941980566724914304:True:=⟨⟩
theorem tw13151973867882421288:True:=⟨⟩
theorem tw11697547508259624821:True:=⟨⟩
theorem tw11043455025216820217:True:=⟨⟩
theorem tw10589232735348281596:True:=⟨⟩
theorem tw10544305975182863501:True:=⟨⟩
theorem tw11493665302502019243:True:=⟨⟩
theorem tw15242372786918989261:True:=⟨⟩
theorem tw11568124994053381459:True:=⟨⟩
theorem tw8413889005081272873:True:=⟨⟩
theorem tw9842371361878646227:True:=⟨⟩
theorem tw9807871612875958665:True:=⟨⟩
theorem tw9725713204695295580:True:=⟨⟩
theorem tw8929235270210635812:True:=⟨⟩
theorem tw7922299754248808022:True:=⟨⟩
theorem tw6907723987551969479:True:=⟨⟩
theorem tw6195016884865634745:True:=⟨⟩
theorem tw6065293289920474567:True:=⟨⟩
theorem tw4655172675569649767:True:=⟨⟩
theorem tw4634364490334514637:True:=⟨⟩
theorem tw3817124378214592215:True:=⟨⟩
theorem tw3441175969343986541:True:=⟨⟩
theorem tw3253001966225847531:True:=⟨⟩
theorem tw3204764531839182145:True:=⟨⟩
theorem tw2579449268150622092:True:=⟨⟩
theorem tw2138524535154870782:True:=⟨⟩
theorem tw1960487669496596826:True:=⟨⟩
theorem tw1884589675612268260:True:=⟨⟩
theorem tw1820580006876537264:True:=⟨⟩
theorem tw17906165158350176331:True:=⟨⟩
theorem tw17342502690332296943:True:=⟨⟩
theorem tw17050967802802185140:True:=⟨⟩
theorem tw16736822672577751251:True:=⟨⟩
theorem tw15287853466454802576:True:=⟨⟩
theorem tw15051851588731275633:True:=⟨⟩
theorem tw14725749421370185836:True:=⟨⟩
theorem tw14127933760435626938:True:=⟨⟩
theorem tw13808700575884288438:True:=⟨⟩
theorem tw13447175414492476570:True:=⟨⟩
theorem tw12429813298648466302:True:=⟨⟩
theorem tw12071838387457807311:True:=⟨⟩
theorem tw1199596964890245193:True:=⟨⟩
theorem tw11760943980239706607:True:=⟨⟩
theorem tw11576677486463564796:True:=⟨⟩
theorem tw10742629341165558313:True:=⟨⟩
theorem tw10077259780121814141:True:=⟨⟩
theorem tw10869875718561850869:True:=⟨⟩
theorem tw3177239409627385982:True:=⟨⟩
theorem tw3462617665187972945:True:=⟨⟩
theorem tw9055635680699015573:True:=⟨⟩
theorem tw17967782133169797651:True:=⟨⟩
theorem tw17353697344037021179:True:=⟨⟩
theorem tw17165736319299152126:True:=⟨⟩
theorem tw13963703249935797471:True:=⟨⟩
theorem tw1242725330441812991:True:=⟨⟩
theorem tw14504805826499101823:True:=⟨⟩
theorem tw5440607795738771454:True:=⟨⟩
theorem tw4828450320859627695:True:=⟨⟩
theorem tw4724735717086011434:True:=⟨⟩
theorem tw14062523475626119539:True:=⟨⟩
theorem tw12520597935435067740:True:=⟨⟩
theorem tw10489845682907840047:True:=⟨⟩
theorem tw11867567068576825272:True:=⟨⟩
theorem tw3739769912435046199:True:=⟨⟩
theorem tw16752216045902850844:True:=⟨⟩
theorem tw16151255570944298019:True:=⟨⟩
theorem tw14891802579723813446:True:=⟨⟩
theorem tw10355684821281606498:True:=⟨⟩
theorem tw1893332106338282195:True:=⟨⟩
theorem tw15664565528399345948:True:=⟨⟩
theorem tw13276573721457271924:True:=⟨⟩
theorem tw10888171345953488668:True:=⟨⟩
theorem tw8026604618081100362:True:=⟨⟩
theorem tw3282106011964267362:True:=⟨⟩
theorem tw1932596429158558769:True:=⟨⟩
theorem tw17696362069041356941:True:=⟨⟩
theorem tw17588148888541760440:True:=⟨⟩
theorem tw12611758102746184475:True:=⟨⟩
theorem tw1218282107238678920:True:=⟨⟩
theorem tw10259267936891873001:True:=⟨⟩
theorem tw10219020717484653164:True:=⟨⟩
theorem tw15717306712458577040:True:=⟨⟩
theorem tw14674436776552441222:True:=⟨⟩
theorem tw14596219833750560703:True:=⟨⟩
theorem tw9424726781133754043:True:=⟨⟩
theorem tw11098332206498066298:True:=⟨⟩
theorem tw9303815803435622245:True:=⟨⟩
theorem tw9130793157495355233:True:=⟨⟩
theorem tw7303619472560320627:True:=⟨⟩
theorem tw6629497702476861097:True:=⟨⟩
theorem tw5936708175990497506:True:=⟨⟩
theorem tw5571760742943088488:True:=⟨⟩
theorem tw4944884430613296209:True:=⟨⟩
theorem tw3448967792235035196:True:=⟨⟩
theorem tw2208395428767266428:True:=⟨⟩
theorem tw1990845116397966443:True:=⟨⟩
theorem tw17493062368890221930:True:=⟨⟩
theorem tw16972071413968978476:True:=⟨⟩
theorem tw16822281648600481247:True:=⟨⟩
theorem tw16666145265967747824:True:=⟨⟩
theorem tw16463212714610882799:True:=⟨⟩
theorem tw16408157823375253851:True:=⟨⟩
theorem tw15536723957620227727:True:=⟨⟩
theorem tw15091156440951598076:True:=⟨⟩
theorem tw14285466330950672428:True:=⟨⟩
theorem tw11792548105421028909:True:=⟨⟩
theorem tw11771662827392743550:True:=⟨⟩
theorem tw114388137367368850:True:=⟨⟩
theorem tw11331327672593502575:True:=⟨⟩
theorem tw10475945546784138571:True:=⟨⟩
theorem tw15356230543873504299:True:=⟨⟩
theorem tw4948409253215480786:True:=⟨⟩
theorem tw1580901051966783874:True:=⟨⟩
theorem tw15166315348030128341:True:=⟨⟩
theorem tw14745110690219899391:True:=⟨⟩
theorem tw11784399729912934049:True:=⟨⟩
theorem tw331449657925607703:True:=⟨⟩
theorem tw2598586227128479991:True:=⟨⟩
theorem tw14244389999431601764:True:=⟨⟩
theorem tw15430654483827911789:True:=⟨⟩
theorem tw5954116076520685241:True:=⟨⟩
theorem tw11606846315573140470:True:=⟨⟩
theorem tw3319407773920419539:True:=⟨⟩
theorem tw17169382635561816951:True:=⟨⟩
theorem tw99599597399814991:True:=⟨⟩
theorem tw8916183497270159899:True:=⟨⟩
theorem tw7856016210081297223:True:=⟨⟩
theorem tw6670354472588297789:True:=⟨⟩
theorem tw6469532722093988441:True:=⟨⟩
theorem tw6423699386074039188:True:=⟨⟩
theorem tw6266123178015609186:True:=⟨⟩
theorem tw5135208856911746638:True:=⟨⟩
theorem tw4263197777325236559:True:=⟨⟩
theorem tw1981585481344575434:True:=⟨⟩
theorem tw18233094174811663582:True:=⟨⟩
theorem tw16202716922248158659:True:=⟨⟩
theorem tw16198100082212056088:True:=⟨⟩
theorem tw15038962170527243649:True:=⟨⟩
theorem tw13119357655827372759:True:=⟨⟩
theorem tw12646944850661852767:True:=⟨⟩
theorem tw12489852639125465075:True:=⟨⟩
theorem tw5207404520972564581:True:=⟨⟩
theorem tw9434901770330155364:True:=⟨⟩
theorem tw8597154931503873553:True:=⟨⟩
theorem tw7770585055696042374:True:=⟨⟩
theorem tw7539979764978251252:True:=⟨⟩
theorem tw7019968893131683368:True:=⟨⟩
theorem tw5363549332756189193:True:=⟨⟩
theorem tw4175719569927958188:True:=⟨⟩
theorem tw16659097256214189342:True:=⟨⟩
theorem tw16357333195628028916:True:=⟨⟩
theorem tw16148417280243764826:True:=⟨⟩
theorem tw15887436201658097510:True:=⟨⟩
theorem tw15585802499243246590:True:=⟨⟩
theorem tw14345770405956245546:True:=⟨⟩
theorem tw13649918298273908563:True:=⟨⟩
theorem tw12848484835868173927:True:=⟨⟩
theorem tw12817389481245984731:True:=⟨⟩
theorem tw1129922766132800594:True:=⟨⟩
theorem tw10614902291099650006:True:=⟨⟩
theorem tw10346523140412698814:True:=⟨⟩
theorem tw9100506933224491960:True:=⟨⟩
theorem tw13552851646459619338:True:=⟨⟩
theorem tw6950393535291099363:True:=⟨⟩
theorem tw3963535723755494534:True:=⟨⟩
theorem tw15913900059374687310:True:=⟨⟩
theorem tw16336637166944880618:True:=⟨⟩
theorem tw6299825889909622687:True:=⟨⟩
theorem tw17259584341584193953:True:=⟨⟩
theorem tw3659783601347449531:True:=⟨⟩
theorem tw2706172878746079149:True:=⟨⟩
theorem tw1822738649953668913:True:=⟨⟩
theorem tw12620905704263902231:True:=⟨⟩
theorem tw8075652487975675007:True:=⟨⟩
theorem tw6247380474667512152:True:=⟨⟩
theorem tw3923901353944509098:True:=⟨⟩
theorem tw1188453547348524114:True:=⟨⟩
theorem tw15637639437654430757:True:=⟨⟩
theorem tw6290559421809336564:True:=⟨⟩
theorem tw3869680639261530322:True:=⟨⟩
theorem tw9394089113100016460:True:=⟨⟩
theorem tw7783272746229359724:True:=⟨⟩
theorem tw7697099265669774723:True:=⟨⟩
theorem tw7622774396908926393:True:=⟨⟩
theorem tw7584069369657232910:True:=⟨⟩
theorem tw6051669889799088346:True:=⟨⟩
theorem tw4934438620330417986:True:=⟨⟩
theorem tw4798195475213345998:True:=⟨⟩
theorem tw449020994373172116:True:=⟨⟩
theorem tw4183870265126101541:True:=⟨⟩
theorem tw398518220380115590:True:=⟨⟩
theorem tw3979175905242676287:True:=⟨⟩
theorem tw3946225591619925882:True:=⟨⟩
theorem tw2763203453544202665:True:=⟨⟩
theorem tw2695247333424974542:True:=⟨⟩
theorem tw265126063684911030:True:=⟨⟩
theorem tw2623085452295333063:True:=⟨⟩
theorem tw248236999461269093:True:=⟨⟩
theorem tw230425425799645199:True:=⟨⟩
theorem tw192284418924356749:True:=⟨⟩
theorem tw17350196158741393100:True:=⟨⟩
theorem tw16805618909534107952:True:=⟨⟩
theorem tw16661891862552021139:True:=⟨⟩
theorem tw16468198584770155893:True:=⟨⟩
theorem tw15681725707162567416:True:=⟨⟩
theorem tw15520486116502382697:True:=⟨⟩
theorem tw13204835306982505879:True:=⟨⟩
theorem tw13002406368943161334:True:=⟨⟩
theorem tw12887207207227522886:True:=⟨⟩
theorem tw1281082102864172754:True:=⟨⟩
theorem tw11869191945102267771:True:=⟨⟩
theorem tw10649950280542012870:True:=⟨⟩
theorem tw9994487866550497898:True:=⟨⟩
theorem tw4110438203493698984:True:=⟨⟩
theorem tw2102129438094472926:True:=⟨⟩
theorem tw148779413045393853:True:=⟨⟩
theorem tw13899738264215325304:True:=⟨⟩
theorem tw11728536792454331808:True:=⟨⟩
theorem tw10955376079486235365:True:=⟨⟩
theorem tw9915502797798935335:True:=⟨⟩
theorem tw9707051427306693417:True:=⟨⟩
theorem tw9226091240175782574:True:=⟨⟩
theorem tw9177694670952422699:True:=⟨⟩
theorem tw8318767071087480309:True:=⟨⟩
theorem tw6983156171356642334:True:=⟨⟩
theorem tw6520589213177505992:True:=⟨⟩
theorem tw579042428971919837:True:=⟨⟩
theorem tw4936168838174514800:True:=⟨⟩
theorem tw323314188429960498:True:=⟨⟩
theorem tw3029105783664909179:True:=⟨⟩
theorem tw1912188203873660811:True:=⟨⟩
theorem tw18439009822536984641:True:=⟨⟩
theorem tw17034210624340048402:True:=⟨⟩
theorem tw16340138447014686232:True:=⟨⟩
theorem tw15815463507338055697:True:=⟨⟩
theorem tw15454200113032141201:True:=⟨⟩
theorem tw1369205047420767956:True:=⟨⟩
theorem tw13389902416626910423:True:=⟨⟩
theorem tw11826178392010539279:True:=⟨⟩
theorem tw1146440049798103468:True:=⟨⟩
theorem tw11172263654520839293:True:=⟨⟩
theorem tw10198430442382351286:True:=⟨⟩
theorem tw7122482794647277288:True:=⟨⟩
theorem tw5073073469871415649:True:=⟨⟩
theorem tw3226969003081006860:True:=⟨⟩
theorem tw3009566991803874080:True:=⟨⟩
theorem tw18320741650888394622:True:=⟨⟩
theorem tw16705853920663292741:True:=⟨⟩
theorem tw16436056132731102867:True:=⟨⟩
theorem tw15931161262284936736:True:=⟨⟩
theorem tw15051486698716349931:True:=⟨⟩
theorem tw12625096982387065700:True:=⟨⟩
theorem tw12443259880628557754:True:=⟨⟩
theorem tw1503344172435303621:True:=⟨⟩
theorem tw5632461714475171464:True:=⟨⟩
theorem tw9221836165760253164:True:=⟨⟩
theorem tw14886768793756712849:True:=⟨⟩
theorem tw14646840431321685528:True:=⟨⟩
theorem tw10344510624360321754:True:=⟨⟩
end PySem.W.Fast
open PySem PySem.W PyProof.Rows
set_option maxRecDepth 100000 in
theorem PySem.Challenge.cw_wornpages_k71_moves_by_rules_holds : PySem.Challenge.rw_wornpages_k71_moves_by_rules.Holds := by
 w_on;o_law;k_head;(case hw=>w_witness2)
 k_fill
 refine W1.walk (l:=PySem.Challenge.rw_wornpages_k71_moves_by_rules) rfl rfl (λw h Y=>⟨W.km_in_of Y,λT hT=>W.km_tabs_of Y T (by simp at hT ⊢;exact hT.symm)⟩) (?T) ?F
 case T=>
  intro w T hT
  have hT:T=653∨T=1036:=by simpa using hT
  rcases hT with rfl|rfl
  ·exact⟨by kernel_rfl,655,by kernel_rfl⟩
  ·exact⟨by kernel_rfl,1040,by kernel_rfl⟩
 case F=>
  intro w mg fa h KX G hmg
  refine' W1.qKB (z1:=653) (z0:=655) (z3:=1036) (z2:=1040) KX G hmg ?_ ?_ ?_ ?_ ?_ ?_ ?_ ?_ ?_ ?_ ?_ ?_ ?_ ?_ ?_ ?_ ?_ ?_ ?_ ?_ ?_ ?_ ?_ ?_ ?_ ?_ ?_ ?_ ?_ ?_ ?_ ?_ ?_ ?_ ?_ ?_ ?_ ?_ ?_ ?_ ?_ ?_ ?_ ?_ ?_ ?_ ?_ ?_ ?_ ?_ ?_ ?_ ?_ ?_ ?_ ?_ ?_ ?_ ?_ ?_ ?_ ?_ ?_ ?_ ?_ ?_ ?_ ?_ ?_ ?_ ?_ ?_ ?_ ?_ ?_ ?_ ?_ ?_ ?_ ?_ ?_ ?_ ?_ ?_ ?_ ?_ ?_ ?_ ?_ ?_ ?_ ?_ ?_ ?_ ?_ ?_ ?_ ?_ ?_ ?_ ?_ ?_ ?_ ?_ ?_ ?_ ?_ ?_ ?_ ?_ ?_ ?_ ?_ ?_ ?_ ?_ ?_ ?_ ?_ ?_ ?_ ?_ ?_ ?_ ?_ ?_ ?_ ?_ ?_ ?_ ?_ ?_ ?_ ?_ ?_ ?_ ?_ ?_ ?_ ?_ ?_ ?_ ?_ ?_ ?_ ?_ ?_ ?_ ?_ ?_ ?_ ?_ ?_ ?_ ?_ ?_ ?_ ?_ ?_ ?_ ?_ ?_ ?_ ?_ ?_ ?_ ?_ ?_ ?_ ?_ ?_ ?_ ?_ ?_ ?_ ?_ ?_ ?_ ?_ ?_ ?_ ?_ ?_ ?_ ?_ ?_ ?_ ?_ ?_ ?_ ?_ ?_ ?_ ?_ ?_ ?_ ?_ ?_ ?_ ?_ ?_ ?_ ?_ ?_ ?_ ?_ ?_ ?_ ?_ ?_ ?_ ?_ ?_ ?_ ?_ ?_ ?_ ?_ ?_ ?_ ?_ ?_ ?_ ?_ ?_ ?_ ?_ ?_ ?_ ?_ ?_ ?_ ?_ ?_ ?_ ?_ ?_ ?_ ?_ ?_ ?_ ?_ ?_ ?_ ?_ ?_ ?_ ?_ ?_ ?_ ?_ ?_ ?_ ?_ ?_ ?_ ?_ ?_ ?_ ?_ ?_ ?_ ?_ ?_ ?_ ?_ ?_ ?_ ?_ ?_ ?_ ?_ ?_ ?_ ?_ ?_ ?_ ?_ ?_ ?_ ?_ ?_ ?_ ?_ ?_ ?_ ?_ ?_ ?_
  any_goals first|k_is|(refine' L2.FnX.of ?fa ?fb;(case fa=>k_is);(case fb=>k_is))|((first|apply And.intro|apply L2.Meth.mk|apply L2.Mk.mk|apply L2.Cls.mk|apply L2.XAt.mk|apply L2.BIni.mk|apply L2.ClM.mk|apply L2.XRd.mk)<;>first|k_is|kernel_rfl)|(show W.findIn _ _ _=_;k_is)
  all_goals first|k_exc|kts_exm|kit_is|kernel_rfl|decide
