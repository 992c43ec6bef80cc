import PyProof.Rows.All
import Wide.All
import OpenK.AllK
import Wide.FinOn
import Lean
import PyProof.EqAt
import PyProof.EqKinds
import PyProof.TupleCall
import PyProof.StationsW
import PyProof.NsDelKeeps
import PyProof.PassesOwn
import PyProof.ZipIter
import PyProof.NeKinds
import PyProof.CompFree
import KE.KDictList
import PyProof.ConsumeWalk
import PyProof.WalkInts
import PyProof.WalksMore
import PyProof.SumAny
import PyProof.Rows.MinMaxN
import PyProof.Rows.SortWalk
import PyProof.ListRange
import KE.KTupSum
import PyProof.EnumFor
import PyProof.EnumMake
import PyProof.EnumStmt
import OpenK.KMake
import PyProof.FitsBits
import PyProof.CompUse
import KE.KSortTup
import PyProof.MinMaxWalk
import PyProof.SeqI3
import KE.KLam
import KE.KNestM
import PySem.Challenge.RW_wornpages_k26_order
set_option Elab.async false
set_option linter.all false
set_option maxRecDepth 100000
namespace L2
open PySem PySem.Spec PyProof.Rows

abbrev Key := Sum Int Str
def keyIs : Key → Value → Bool
  | .inl k, v => Value.isInt k v
  | .inr x, v => Value.isStrOf x v
def keyH (w : World) : Key → Int
  | .inl k => hashInt k
  | .inr x => hashStr w x
theorem keyIs_shape : ∀ {k : Key} {v : Value}, keyIs k v = true → (∃ i t, k = Sum.inl i ∧ v = Value.int i t) ∨ (∃ x t, k = Sum.inr x ∧ v = Value.str x t)
  | .inl i, v, h => by
    obtain ⟨t, e⟩ := Value.isInt_shape (k := i) (v := v) h
    exact .inl ⟨i, t, rfl, e⟩
  | .inr x, v, h => by
    obtain ⟨t, e⟩ := Value.isStrOf_shape (x := x) (v := v) h
    exact .inr ⟨x, t, rfl, e⟩
theorem key_ll (a b : Int) : decide ((Sum.inl a : Key) = Sum.inl b) = (a == b) := by
  by_cases e : a = b
  · subst e; simp
  · have h : ¬ (Sum.inl a : Key) = Sum.inl b := fun q => e (Sum.inl.inj q)
    rw [decide_eq_false h]
    exact (beq_eq_false_iff_ne.mpr e).symm
theorem key_rr (a b : Str) : decide ((Sum.inr a : Key) = Sum.inr b) = decide (a = b) := by
  by_cases e : a = b
  · subst e; simp
  · have h : ¬ (Sum.inr a : Key) = Sum.inr b := fun q => e (Sum.inr.inj q)
    rw [decide_eq_false h, decide_eq_false e]
theorem key_lr (a : Int) (b : Str) : decide ((Sum.inl a : Key) = Sum.inr b) = false := decide_eq_false (fun q => nomatch q)
theorem key_rl (a : Str) (b : Int) : decide ((Sum.inr a : Key) = Sum.inl b) = false := decide_eq_false (fun q => nomatch q)

def mixKind (prog : Program) (w : World) : PySem.KeyKind prog w Key where
  is := keyIs
  hash := keyH w
  inj := fun v a b ha hb => by
    rcases keyIs_shape ha with ⟨i, t, rfl, rfl⟩ | ⟨x, t, rfl, rfl⟩
    · rcases keyIs_shape hb with ⟨j, u, rfl, e⟩ | ⟨y, u, rfl, e⟩
      · injection e with e1 _; rw [e1]
      · exact nomatch e
    · rcases keyIs_shape hb with ⟨j, u, rfl, e⟩ | ⟨y, u, rfl, e⟩
      · exact nomatch e
      · injection e with e1 _; rw [e1]
  byValue := fun k v h => by
    rcases keyIs_shape h with ⟨i, t, rfl, rfl⟩ | ⟨x, t, rfl, rfl⟩ <;> rfl
  pyHash := fun hv h => by
    rcases keyIs_shape hv with ⟨i, t, rfl, rfl⟩ | ⟨x, t, rfl, rfl⟩
    · exact wpAny_pyHash_int h
    · exact wpAny_pyHash_str h
  eqBool := fun hu hv h => by
    rcases keyIs_shape hu with ⟨i, t, rfl, rfl⟩ | ⟨x, t, rfl, rfl⟩
    · rcases keyIs_shape hv with ⟨j, u, rfl, rfl⟩ | ⟨y, u, rfl, rfl⟩
      · rw [key_ll] at h; exact wpAny_eqBool_int h
      · rw [key_lr] at h; exact SeqAt.EqAt.int_str i t y u _ _ _ _ h
    · rcases keyIs_shape hv with ⟨j, u, rfl, rfl⟩ | ⟨y, u, rfl, rfl⟩
      · rw [key_rl] at h; exact SeqAt.EqAt.str_int x t j u _ _ _ _ h
      · rw [key_rr] at h; exact wpAny_eqBool_str h
  «strs» := fun k x t v h => by
    rcases keyIs_shape h with ⟨i, u, rfl, e⟩ | ⟨y, u, rfl, e⟩
    · exact nomatch e
    · injection e with e1 _
      subst e1
      cases v <;> rfl

end L2

namespace L2
open PySem PySem.Spec PyProof.Rows

inductive V where
  | non | bl (b : Bool) | int (i : Int) | str (x : Str) | byt (b : Array UInt8) | flt (b : UInt64) | ref (a : Addr) | ty (n : String)
  deriving DecidableEq

def RelV : V → Value → Prop
  | .non, u => u = Value.none
  | .bl b, u => u = Value.bool b
  | .int i, u => ∃ t, u = Value.int i t
  | .str x, u => ∃ t, u = Value.str x t
  | .byt b, u => ∃ t, u = Value.bytes b t
  | .flt b, u => ∃ t, u = Value.float b t
  | .ref a, u => u = Value.ref a
  | .ty n, u => u = Value.type n

abbrev Vals : List V → List Value → Prop := Paired RelV
theorem Vals.length {xs : List V} {us : List Value} (r : Vals xs us) : xs.length = us.length := Paired.length r
theorem Vals.get : ∀ {xs : List V} {us : List Value} {i : Nat} {x : V}, Vals xs us → xs[i]? = some x → ∃ u, us[i]? = some u ∧ RelV x u
  | _, _, _, _, .nil, e => by simp at e
  | _, _, 0, _, .cons r _, e => by simp at e; subst e; exact ⟨_, rfl, r⟩
  | _, _, i + 1, x, .cons _ t, e => by
    obtain ⟨u, h1, h2⟩ := Vals.get (i := i) (x := x) t (by simpa using e)
    exact ⟨u, by simpa using h1, h2⟩
theorem Vals.set {x : V} {u : Value} (r : RelV x u) : ∀ {xs : List V} {us : List Value} (i : Nat), Vals xs us → Vals (xs.set i x) (us.set i u)
  | _, _, _, .nil => .nil
  | _, _, 0, .cons _ t => .cons r t
  | _, _, i + 1, .cons q t => .cons q (Vals.set r i t)
theorem Vals.append : ∀ {xs ys : List V} {us ws : List Value}, Vals xs us → Vals ys ws → Vals (xs ++ ys) (us ++ ws)
  | _, _, _, _, .nil, s => s
  | _, _, _, _, .cons r t, s => .cons r (Vals.append t s)
theorem Vals.take : ∀ {xs : List V} {us : List Value} (n : Nat), Vals xs us → Vals (xs.take n) (us.take n)
  | _, _, 0, _ => .nil
  | _, _, _ + 1, .nil => .nil
  | _, _, n + 1, .cons r t => .cons r (Vals.take n t)
theorem Vals.drop : ∀ {xs : List V} {us : List Value} (n : Nat), Vals xs us → Vals (xs.drop n) (us.drop n)
  | _, _, 0, r => r
  | _, _, _ + 1, .nil => .nil
  | _, _, n + 1, .cons _ t => Vals.drop n t
theorem Vals.none_of : ∀ {xs : List V} {us : List Value} {i : Nat}, Vals xs us → xs[i]? = none → us[i]? = none := fun {xs us i} r e => by
  have h1 := r.length
  have h2 : xs.length ≤ i := List.getElem?_eq_none_iff.mp e
  exact List.getElem?_eq_none_iff.mpr (by omega)

def RelO : Option V → Option Value → Prop
  | some v, some u => RelV v u
  | none, none => True
  | _, _ => False
def KV {κ : Type} : List (κ × V) → List (κ × Value) → Prop := Paired fun (p : κ × V) (q : κ × Value) => p.1 = q.1 ∧ RelV p.2 q.2

def kV : Key → V
  | .inl i => .int i
  | .inr x => .str x

inductive HO where
  /-- a list -/
  | lst (xs : List V)
  /-- a tuple (never changes) -/
  | tup (xs : List V)
  /-- a dict whose keys are ints and texts; one whose keys are tuples of ints and texts (the empty one is both) -/
  | dK (kvs : List (Key × V)) | dT (kvs : List (List Key × V))
  /-- a set of ints: its members, its size -/
  | set (S : Int → Bool) (n : Nat)
  /-- an instance of the class at C, its dict at dx, its attributes -/
  | ins (C dx : Addr) (fs : List (Str × V))
  /-- the dict of the instance at x -/
  | own (x : Addr)
  /-- the dict of an exception -/
  | xd (fs : List (Str × V))
  /-- a bound method, f of x -/
  | met (f x : Addr)
  /-- a range object lo, lo + 1, .. below hi -/
  | rng (lo hi : Int)
  /-- a thing that is known to the object (the script; a dict while a loop walks it): read, never written while it is so -/
  | frz (o : Obj) (u : HO)
  /-- a code object's table -/
  | tbl (ps : Array Value)
  /-- any other thing, by what is true of its one object (a def of one's own: SetO a S n := HO.ext fun h => ..) -/
  | ext (φ : Heap → Prop)

abbrev Hp := Addr → Option HO
def upd (H : Hp) (a : Addr) (o : HO) : Hp := fun b => if b = a then some o else H b
theorem upd_same {H : Hp} {a : Addr} {o : HO} : upd H a o a = some o := by unfold upd; rw [if_pos rfl]
theorem upd_ne {H : Hp} {a b : Addr} {o : HO} (h : b ≠ a) : upd H a o b = H b := by unfold upd; rw [if_neg h]
theorem upd_upd {H : Hp} {a : Addr} {o u : HO} : upd (upd H a o) a u = upd H a u := by
  funext b; unfold upd; split <;> rfl
theorem ne_of {H : Hp} {a b : Addr} {o u : HO} (h : H a = some o) (h' : H b = some u) (d : o ≠ u) : a ≠ b := by
  intro e; subst e; rw [h] at h'; exact d (Option.some.inj h')
theorem ne_of_none {H : Hp} {a b : Addr} {o : HO} (h : H a = some o) (h' : H b = none) : a ≠ b := by
  intro e; subst e; rw [h] at h'; cases h'

section
variable (P : Program) (w : World)
def ObjOk (H : Hp) (h : Heap) (a : Addr) : HO → Prop
  | .lst xs => xs.length ≤ sizeLine ∧ ∃ (its : List Value) (n : Nat), Vals xs its ∧ h.get? a = some { cls := .type "list", data := .seq its.toArray n }
  | .tup xs => xs.length ≤ sizeLine ∧ ∃ its : List Value, Vals xs its ∧ IsTup h a its.toArray
  | .dK kvs => kvs.length ≤ sizeLine ∧ (a == sysModules) = false ∧ ∃ vs, KV kvs vs ∧ h.DictOf (mixKind P w) a vs
  | .dT kvs => kvs.length ≤ sizeLine ∧ (a == sysModules) = false ∧ ∃ xs : List (List Key × Addr × Value),
      Paired (fun (p : List Key × V) (q : List Key × Addr × Value) => p.1 = q.1 ∧ H q.2.1 = some (.tup (p.1.map kV)) ∧ RelV p.2 q.2.2) kvs xs ∧
      ∃ o es ep, h.get? a = some o ∧ o.ExactDict ∧ o.data = .dict es ep ∧ es.toList = xs.map (entryOfKey (tupleKind (mixKind P w))) ∧ (xs.map (·.1)).Nodup
  | .set S n => h.SetOf (intKind P w) a S n
  | .ins C dx fs => H dx = some (.own a) ∧ fs.length ≤ 1000 ∧ dx ≠ a ∧ h.get? a = some (PySem.W.instObj C dx) ∧
      ∃ mA, h.Ns1 dx mA ∧ (∀ f, RelO (fs.lookup f) (mA f)) ∧ PySem.Within mA (fs.map (·.1))
  | .own _ => ∃ o, h.get? a = some o
  | .xd fs => ∃ mA, h.Ns1 a mA ∧ ∀ f, RelO (fs.lookup f) (mA f)
  | .rng lo hi => ∃ t u v, h.get? a = some { cls := .type "range", data := .fields #[.int lo t, .int hi u, .int 1 v] }
  | .frz o u => h.get? a = some o ∧ ObjOk H h a u
  | .tbl ps => h.get? a = some { cls := .none, data := .fields ps }
  | .met f x => h.get? a = some (PySem.W.methodObj (.ref f) (.ref x))
  | .ext φ => φ h ∧ (∃ o, h.get? a = some o) ∧ ∀ h1 h2 : Heap, φ h1 → (∀ o, h1.get? a = some o → h2.get? a = some o) → φ h2
def HOk (H : Hp) (h : Heap) : Prop := ∀ a o, H a = some o → ObjOk P w H h a o
end

section
variable {P : Program} {w : World} {H H' : Hp} {h h' : Heap} {a : Addr} {o : HO}
theorem ObjOk.lt (x : ObjOk P w H h a o) : a < h.objs.size := by
  cases o with
  | lst xs => obtain ⟨_, _, _, _, e⟩ := x; exact Heap.lt_size e
  | tup xs => obtain ⟨_, _, _, p⟩ := x; exact p.lt
  | dK kvs => obtain ⟨_, _, _, _, o, _, _, e, _⟩ := x; exact Heap.lt_size e
  | dT kvs => obtain ⟨_, _, _, _, o, _, _, e, _⟩ := x; exact Heap.lt_size e
  | set S n => obtain ⟨o, _, _, _, e, _⟩ := x; exact Heap.lt_size e
  | ins C dx fs => obtain ⟨_, _, _, e, _⟩ := x; exact Heap.lt_size e
  | own y => obtain ⟨_, e⟩ := x; exact Heap.lt_size e
  | xd fs => obtain ⟨_, ⟨_, _, _, e, _⟩, _⟩ := x; exact Heap.lt_size e
  | rng lo hi => obtain ⟨_, _, _, e⟩ := x; exact Heap.lt_size e
  | frz ob u => obtain ⟨e, _⟩ := x; exact Heap.lt_size e
  | tbl ps => exact Heap.lt_size (show h.get? a = some _ from x)
  | met f y => exact Heap.lt_size (show h.get? a = some _ from x)
  | ext φ => obtain ⟨_, ⟨_, e⟩, _⟩ := x; exact Heap.lt_size e
theorem Paired.mapP {α β : Type} {F G : α → β → Prop} : ∀ {l₁ : List α} {l₂ : List β}, Paired F l₁ l₂ → (∀ a b, F a b → G a b) → Paired G l₁ l₂
  | _, _, .nil, _ => .nil
  | _, _, .cons r t, f => .cons (f _ _ r) (Paired.mapP t f)
theorem ObjOk.stay (x : ObjOk P w H h a o) (k : ∀ b u, (b = a ∨ H b = some (.own a)) → h.get? b = some u → h'.get? b = some u)
    (ho : ∀ b, H b = some (.own a) → H' b = some (.own a)) (ht : ∀ b xs, H b = some (.tup xs) → H' b = some (.tup xs)) : ObjOk P w H' h' a o := by
  induction o with
  | lst xs => obtain ⟨z, its, n, r, e⟩ := x; exact ⟨z, its, n, r, k _ _ (.inl rfl) e⟩
  | tup xs => obtain ⟨z, its, r, ob, e, c⟩ := x; exact ⟨z, its, r, ob, k _ _ (.inl rfl) e, c⟩
  | dK kvs => obtain ⟨z, y, vs, r, ob, es, ep, e, c⟩ := x; exact ⟨z, y, vs, r, ob, es, ep, k _ _ (.inl rfl) e, c⟩
  | dT kvs =>
    obtain ⟨z, y, xs, r, ob, es, ep, e, c⟩ := x
    exact ⟨z, y, xs, Paired.mapP r fun p q z => ⟨z.1, ht _ _ z.2.1, z.2.2⟩, ob, es, ep, k _ _ (.inl rfl) e, c⟩
  | set S n => obtain ⟨ob, es, ep, t, e, c⟩ := x; exact ⟨ob, es, ep, t, k _ _ (.inl rfl) e, c⟩
  | ins C dx fs =>
    obtain ⟨d, z, ne, e, mA, ⟨od, es, ep, e2, c⟩, r⟩ := x
    exact ⟨ho _ d, z, ne, k _ _ (.inl rfl) e, mA, ⟨od, es, ep, k _ _ (.inr d) e2, c⟩, r⟩
  | own y => obtain ⟨ob, e⟩ := x; exact ⟨ob, k _ _ (.inl rfl) e⟩
  | xd fs => obtain ⟨mA, ⟨od, es, ep, e, c⟩, r⟩ := x; exact ⟨mA, ⟨od, es, ep, k _ _ (.inl rfl) e, c⟩, r⟩
  | rng lo hi => obtain ⟨t, u, v, e⟩ := x; exact ⟨t, u, v, k _ _ (.inl rfl) e⟩
  | frz ob u ih => obtain ⟨e, q⟩ := x; exact ⟨k _ _ (.inl rfl) e, ih q⟩
  | tbl ps =>
    have e : h.get? a = some { cls := .none, data := .fields ps } := x
    show h'.get? a = some { cls := .none, data := .fields ps }
    exact k a _ (.inl rfl) e
  | met f y =>
    have e : h.get? a = some (PySem.W.methodObj (.ref f) (.ref y)) := x
    show h'.get? a = some (PySem.W.methodObj (.ref f) (.ref y))
    exact k a _ (.inl rfl) e
  | ext φ => obtain ⟨p, ⟨o, e⟩, st⟩ := x; exact ⟨st _ _ p fun o q => k _ _ (.inl rfl) q, ⟨o, k _ _ (.inl rfl) e⟩, st⟩
theorem HOk.lt (x : HOk P w H h) (e : H a = some o) : a < h.objs.size := (x a o e).lt
theorem HOk.fresh (x : HOk P w H h) (e : h.objs.size ≤ a) : H a = none := by
  cases q : H a with
  | none => rfl
  | some u => exact absurd (Nat.lt_of_lt_of_le (x.lt q) e) (Nat.lt_irrefl _)
theorem HOk.kept (x : HOk P w H h) (k : ∀ b u, h.get? b = some u → h'.get? b = some u) : HOk P w H h' := fun a o e =>
  (x a o e).stay (fun b u _ q => k b u q) (fun _ q => q) fun _ _ q => q
theorem HOk.laid (x : HOk P w H h) (k : ∀ b u, h.get? b = some u → h'.get? b = some u) (hp : h.objs.size ≤ a) (new : ObjOk P w (upd H a o) h' a o) : HOk P w (upd H a o) h' := fun b u e => by
  have hn := x.fresh hp
  by_cases hb : b = a
  · subst hb; rw [upd_same] at e; cases e; exact new
  · rw [upd_ne hb] at e
    exact (x b u e).stay (fun c v _ q => k c v q) (fun c q => by rw [upd_ne (ne_of_none q hn)]; exact q) fun c xs q => by rw [upd_ne (ne_of_none q hn)]; exact q
end

def Rd (H : Hp) (a : Addr) (u : HO) : Prop := H a = some u ∨ ∃ o, H a = some (.frz o u)
theorem Rd.of {H : Hp} {a : Addr} {u : HO} (h : H a = some u) : Rd H a u := .inl h
theorem Rd.ok {P : Program} {w : World} {H : Hp} {h : Heap} {a : Addr} {u : HO} (r : Rd H a u) (x : HOk P w H h) : ObjOk P w H h a u := by
  rcases r with r | ⟨o, r⟩
  · exact x a u r
  · obtain ⟨_, q⟩ := x a _ r
    exact q
def Mut : Option HO → Prop
  | some (.lst _) => True
  | some (.dK _) => True
  | some (.dT _) => True
  | some (.set _ _) => True
  | some (.ins _ _ _) => True
  | some (.ext _) => True
  | _ => False
section
variable {P : Program} {w : World} {H : Hp} {h h' : Heap} {x e : Addr} {o' : HO}
theorem HOk.write (ok : HOk P w H h) (mu : Mut (H x)) (he : e = x ∨ H e = some (.own x)) (k : ∀ b u, b ≠ e → h.get? b = some u → h'.get? b = some u) (heo : ∃ u, h'.get? e = some u)
    (new : ObjOk P w (upd H x o') h' x o') : HOk P w (upd H x o') h' := fun b u q => by
  have nown : ∀ c y, H c = some (.own y) → c ≠ x := fun c y r z => by subst z; rw [r] at mu; exact mu
  have ntup : ∀ c xs, H c = some (.tup xs) → c ≠ x := fun c xs r z => by subst z; rw [r] at mu; exact mu
  by_cases hb : b = x
  · subst hb; rw [upd_same] at q; cases q; exact new
  · rw [upd_ne hb] at q
    by_cases hbe : b = e
    · have q' : H b = some (.own x) := by
        rcases he with z | z
        · exact absurd (hbe.trans z) hb
        · rw [hbe]; exact z
      rw [q] at q'; cases q'
      obtain ⟨v, hv⟩ := heo
      exact ⟨v, by rw [hbe]; exact hv⟩
    · refine (ok b u q).stay (fun c v hc r => k c v ?_ r) (fun c r => by rw [upd_ne (nown c b r)]; exact r) fun c xs r => by rw [upd_ne (ntup c xs r)]; exact r
      rcases hc with rfl | hc
      · exact hbe
      · rintro rfl
        rcases he with z | z
        · exact nown c b hc z
        · rw [hc] at z; cases z; exact hb rfl
end

structure Un (fs ex : List Addr) (H H' : Hp) (h h' : Heap) : Prop where
  keep : ∀ b o, h.get? b = some o → H b = none → b ∉ fs → b ∉ ex → h'.get? b = some o
  slot : ∀ b o, h.get? b = some o → H b = none → b ∈ fs → b ∉ ex → ∃ sl, h'.get? b = some { o with slots := sl }
  free : ∀ b o, h.get? b = some o → H b = none → b ∉ ex → H' b = none
  there : ∀ b o, h.get? b = some o → b ∉ ex → ∃ o', h'.get? b = some o'
  tups : ∀ b xs, H b = some (.tup xs) → H' b = some (.tup xs)
  frzs : ∀ b o u, H b = some (.frz o u) → H' b = some (.frz o u)
  tbls : ∀ b ps, H b = some (.tbl ps) → ∃ more, H' b = some (.tbl (ps ++ more))
section
variable {fs fs' ex ex' : List Addr} {H H1 H2 : Hp} {h h1 h2 h' : Heap} {a x e : Addr} {o : HO}
theorem Un.any (u : Un fs ex H H1 h h1) {b : Addr} {ob : Obj} (q : h.get? b = some ob) (n : H b = none) (hx : b ∉ ex) : ∃ sl, h1.get? b = some { ob with slots := sl } := by
  by_cases hb : b ∈ fs
  · exact u.slot b ob q n hb hx
  · exact ⟨ob.slots, u.keep b ob q n hb hx⟩
theorem Un.trans (a : Un fs ex H H1 h h1) (b : Un fs ex H1 H2 h1 h2) : Un fs ex H H2 h h2 where
  keep := fun c ob q n hc hx => b.keep c ob (a.keep c ob q n hc hx) (a.free c ob q n hx) hc hx
  slot := fun c ob q n hc hx => by
    obtain ⟨sl, e1⟩ := a.slot c ob q n hc hx
    obtain ⟨sl', e2⟩ := b.slot c _ e1 (a.free c ob q n hx) hc hx
    exact ⟨sl', e2⟩
  free := fun c ob q n hx => by
    obtain ⟨o', e1⟩ := a.there c ob q hx
    exact b.free c o' e1 (a.free c ob q n hx) hx
  there := fun c ob q hx => by
    obtain ⟨o', e1⟩ := a.there c ob q hx
    exact b.there c o' e1 hx
  tups := fun c xs q => b.tups c xs (a.tups c xs q)
  frzs := fun c ob xs q => b.frzs c ob xs (a.frzs c ob xs q)
  tbls := fun c ps q => by
    obtain ⟨m1, e1⟩ := a.tbls c ps q
    obtain ⟨m2, e2⟩ := b.tbls c _ e1
    exact ⟨m1 ++ m2, by rw [e2, Array.append_assoc]⟩
theorem Un.kept (k : ∀ b u, h.get? b = some u → h'.get? b = some u) : Un fs ex H H h h' :=
  ⟨fun b ob q _ _ _ => k b ob q, fun b ob q _ _ _ => ⟨ob.slots, k b ob q⟩, fun _ _ _ n _ => n, fun b ob q _ => ⟨ob, k b ob q⟩, fun _ _ q => q, fun _ _ _ q => q, fun _ ps q => ⟨#[], by rw [q]; simp⟩⟩
theorem Un.refl : Un fs ex H H h h := Un.kept fun _ _ q => q
theorem Un.laid (k : ∀ b u, h.get? b = some u → h'.get? b = some u) (hp : h.objs.size ≤ a) (hn : H a = none) : Un fs ex H (upd H a o) h h' where
  keep := fun b u q _ _ _ => k b u q
  slot := fun b u q _ _ _ => ⟨u.slots, k b u q⟩
  free := fun b u q n _ => by rw [upd_ne (Nat.ne_of_lt (Nat.lt_of_lt_of_le (Heap.lt_size q) hp))]; exact n
  there := fun b u q _ => ⟨u, k b u q⟩
  tups := fun b xs q => by rw [upd_ne (ne_of_none q hn)]; exact q
  frzs := fun b u xs q => by rw [upd_ne (ne_of_none q hn)]; exact q
  tbls := fun b ps q => ⟨#[], by rw [upd_ne (ne_of_none q hn), q]; simp⟩
theorem Un.write (mu : Mut (H x)) (he : e = x ∨ H e = some (.own x)) (k : ∀ b u, b ≠ e → h.get? b = some u → h'.get? b = some u) (heo : ∃ u, h'.get? e = some u) : Un fs ex H (upd H x o) h h' := by
  have hx : ∀ b, H b = none → b ≠ x := fun b n z => by subst z; rw [n] at mu; exact mu
  have hb : ∀ b, H b = none → b ≠ e := fun b n z => by
    subst z
    rcases he with r | r
    · exact hx b n r
    · rw [n] at r; cases r
  have hm : ∀ b u, H b = some u → ¬ Mut (some u) → b ≠ x := fun b u q nm z => by subst z; rw [q] at mu; exact nm mu
  refine ⟨fun b u q n _ _ => k b u (hb b n) q, fun b u q n _ _ => ⟨u.slots, k b u (hb b n) q⟩, fun b u q n _ => by rw [upd_ne (hx b n)]; exact n, fun b u q _ => ?_,
    fun b xs q => by rw [upd_ne (hm b _ q fun z => z)]; exact q, fun b u xs q => by rw [upd_ne (hm b _ q fun z => z)]; exact q, fun b ps q => ⟨#[], by rw [upd_ne (hm b _ q fun z => z), q]; simp⟩⟩
  by_cases hbe : b = e
  · subst hbe; exact heo
  · exact ⟨u, k b u hbe q⟩
theorem Un.mono (u : Un fs ex H H1 h h1) (hs : ∀ b ∈ fs, b ∈ fs') (hx : ∀ b ∈ ex, b ∈ ex') : Un fs' ex' H H1 h h1 :=
  ⟨fun b ob q n hb he => u.keep b ob q n (fun z => hb (hs b z)) fun z => he (hx b z), fun _ _ q n _ he => u.any q n fun z => he (hx _ z), fun b ob q n he => u.free b ob q n fun z => he (hx b z), fun b ob q he => u.there b ob q fun z => he (hx b z), u.tups, u.frzs, u.tbls⟩
end

def trk (h : Heap) (H : Hp) : List Addr := (List.range h.objs.size).filter fun a => (H a).isSome
def hidT (h : Heap) (H : Hp) : Heap := PySem.W.hideAll h (trk h H)
theorem hidT_size (h : Heap) (H : Hp) : (hidT h H).objs.size = h.objs.size := PySem.W.hideAll_size _ _
theorem hidT_get {h : Heap} {H : Hp} {b : Addr} {o : Obj} (e : h.get? b = some o) (n : H b = none) : (hidT h H).get? b = some o :=
  PySem.W.hideAll_get _ e fun hm => by
    have q : (H b).isSome = true := (List.mem_filter.mp hm).2
    rw [n] at q; simp at q
theorem of_hidT {h : Heap} {H : Hp} {b : Addr} {o : Obj} (e : (hidT h H).get? b = some o) : h.get? b = some o ∧ H b = none := by
  have e' : h.get? b = some o := PySem.W.of_hideAll (trk h H) e
  refine ⟨e', ?_⟩
  cases q : H b with
  | none => rfl
  | some x =>
    have hm : b ∈ trk h H := List.mem_filter.mpr ⟨List.mem_range.mpr (Heap.lt_size e'), by simp [q]⟩
    have z : (hidT h H).get? b = none := PySem.W.hideAll_none (trk h H) hm
    rw [z] at e; cases e

def allNews (g h : Heap) (L : Addr) : List (Addr × Obj) := (List.range h.objs.size).filterMap fun a => if a = L ∨ (g.get? a).isSome = true then none else (h.get? a).map fun o => (a, o)
def rest (g h : Heap) (L d : Addr) : List (Addr × Obj) := (allNews g h L).filter fun p => decide (p.1 ≠ d)
end L2

namespace L2
open PySem PySem.Spec PyProof.Rows

structure Mod (K : PySem.W.Frag) (mg : Str → Option Value) (base : Heap) : Prop where
  kin : K.In base
  glob : base.Ns mainGlobals mg
  blt : ∃ mb, base.Ns builtinsNs mb ∧ ∀ x : Str, x ≠ "__name__" → mb x = bootBuiltins x
  nolimit : base.NoLimit

structure Cx where
  prog : Program
  w : World
  K : PySem.W.Frag
  mg : Str → Option Value
  base : Heap
  A : Around
  N : List Str
  s₀ : Shared
  H₀ : Hp
  env : Env
  outer : List Env
  stack : List Env
  ex : List Addr
  fn : Str → Bool
  calm : Bool
  pn : List (Addr × Obj)
  xe : Value → Shared → Prop
def frs (l : List Env) : List Addr := l.filterMap (·.frame)
abbrev Cx.fs (X : Cx) : List Addr := frs X.outer

def Vis (sc : Scope) (x : Str) : Prop := sc.names.lookup x = some .local ∨ sc.names.lookup x = some .cell ∨ sc.names.lookup x = some .free
def Loc (sc : Scope) (x : Str) : Prop := sc.names.lookup x = some .local ∨ sc.names.lookup x = some .cell
def Look (env : Env) (h : Heap) (m : Str → Option Value) (x : Str) (u : Value) : Prop :=
  (env.kindOf x = some .local ∧ m x = some u) ∨ ((env.kindOf x = some .cell ∨ env.kindOf x = some .free) ∧ ∃ c, env.cells.lookup x = some c ∧ h.IsCell c (some u))

structure Cx.Ok (X : Cx) : Prop where
  mod : Mod X.K X.mg X.base
  kind : X.env.scope.kind = .function
  glob : X.env.globals = mainGlobals
  blt : X.env.builtins = builtinsNs
  above : X.s₀.heap.objs.size ≤ X.env.locals
  inj : ∀ x y c, X.env.cells.lookup x = some c → X.env.cells.lookup y = some c → x = y
  has : ∀ x, (X.env.kindOf x = some .cell ∨ X.env.kindOf x = some .free) → ∃ c, X.env.cells.lookup x = some c
  cab : ∀ x c, X.fn x = true → X.env.cells.lookup x = some c → X.s₀.heap.objs.size ≤ c
  hd : X.calm = true → X.A.handled = none
  frames : X.A.frames = some X.stack
  stk : X.stack = X.outer ∨ (X.stack = X.env :: X.outer ∧ X.env.frame = some X.env.locals)
  exf : ∀ b ∈ X.ex, b ≠ X.env.locals ∧ ∀ x c, X.env.cells.lookup x = some c → c ≠ b
  bs : ∀ b o, X.base.get? b = some o → X.s₀.heap.get? b = some o ∧ X.H₀ b = none
  bsz : X.base.objs.size ≤ X.s₀.heap.objs.size
  noex : ∀ b o, X.base.get? b = some o → b ∉ X.ex
  exfs : ∀ b ∈ X.ex, b ∉ X.fs
  funs : X.s₀.heap.FunFrames X.base X.outer
  frf : ∀ b ∈ X.fs, X.H₀ b = none

structure Inv (X : Cx) (pins : List (Addr × Obj)) (σ : List (Option V)) (H : Hp) (s : Shared) : Prop where
  ok : X.Ok
  os : s.os = X.s₀.os
  bare : AllBare s.gens
  base : Un X.fs X.ex X.H₀ H X.s₀.heap s.heap
  loc : ∃ m, s.heap.Ns X.env.locals m ∧ ∀ (i : Nat) (x : Str) (v : V), X.N[i]? = some x → σ[i]? = some (some v) → Vis X.env.scope x → ∃ u, RelV v u ∧ Look X.env s.heap m x u
  cell : ∀ x c, X.env.cells.lookup x = some c → ∃ v, s.heap.IsCell c v
  free : H X.env.locals = none
  freeC : ∀ x c, X.env.cells.lookup x = some c → H c = none
  pin : ∀ p ∈ X.pn ++ pins, s.heap.get? p.1 = some p.2 ∧ H p.1 = none ∧ p.1 ≠ X.env.locals ∧ p.1 ∉ X.fs ∧ ∀ v, p.2.data ≠ .cell v
  hok : HOk X.prog X.w H s.heap
  len : σ.length = X.N.length

section
variable {X : Cx} {pins : List (Addr × Obj)} {σ : List (Option V)} {H H' : Hp} {s : Shared} {h' : Heap}

theorem Cx.Ok.nofr (ok : X.Ok) {b : Addr} {o : Obj} (e : X.base.get? b = some o) : b ∉ X.fs := fun hb => by
  have := (ok.funs.mem hb).1
  rw [e] at this; cases this
theorem Inv.bs (I : Inv X pins σ H s) : ∀ b o, X.base.get? b = some o → s.heap.get? b = some o ∧ H b = none := fun b o e =>
  ⟨I.base.keep b o (I.ok.bs b o e).1 (I.ok.bs b o e).2 (I.ok.nofr e) (I.ok.noex b o e), I.base.free b o (I.ok.bs b o e).1 (I.ok.bs b o e).2 (I.ok.noex b o e)⟩
theorem Inv.bk (I : Inv X pins σ H s) : ∀ b o, X.base.get? b = some o → s.heap.get? b = some o := fun b o e => (I.bs b o e).1
theorem Inv.mod (I : Inv X pins σ H s) : Mod X.K X.mg X.base := I.ok.mod
theorem Inv.kIn (I : Inv X pins σ H s) : X.K.In s.heap := I.ok.mod.kin.keeps I.bk
theorem Inv.nolimit (I : Inv X pins σ H s) : s.heap.NoLimit := I.ok.mod.nolimit.keeps I.bk
theorem Inv.fr (I : Inv X pins σ H s) : ∃ m, Fr X.base X.env.locals s.heap m :=
  let ⟨m, hn, _⟩ := I.loc
  ⟨m, hn, I.bk, Nat.le_trans I.ok.bsz I.ok.above⟩
theorem Inv.lt (I : Inv X pins σ H s) : X.env.locals < s.heap.objs.size := let ⟨_, hn, _⟩ := I.loc; hn.lt
theorem Inv.sz (I : Inv X pins σ H s) : X.s₀.heap.objs.size ≤ s.heap.objs.size := Nat.le_trans I.ok.above (Nat.le_of_lt I.lt)
theorem Inv.nofs (I : Inv X pins σ H s) {a : Addr} (h : s.heap.objs.size ≤ a) : a ∉ X.fs := fun hb => by
  obtain ⟨_, o, ho, _⟩ := I.ok.funs.mem hb
  exact absurd (Nat.lt_of_lt_of_le (Heap.lt_size ho) (Nat.le_trans I.sz h)) (Nat.lt_irrefl _)
theorem Inv.cne (I : Inv X pins σ H s) : ∀ x c, X.env.cells.lookup x = some c → c ≠ X.env.locals := fun x c e z => by
  obtain ⟨v, o, ho, hd⟩ := I.cell x c e
  obtain ⟨m, ⟨o', es, ep, ho', hd', _⟩, _⟩ := I.loc
  rw [z, ho'] at ho; cases ho; rw [hd'] at hd; cases hd
theorem Inv.funs (I : Inv X pins σ H s) : s.heap.FunFrames X.base X.outer := by
  have all : ∀ (l : List Env), (∀ b ∈ frs l, b ∈ X.fs) → X.s₀.heap.FunFrames X.base l → s.heap.FunFrames X.base l := by
    intro l
    induction l with
    | nil => intro _ _; trivial
    | cons env r ih =>
      intro hs hl
      obtain ⟨hk, ⟨L, o, hf, hn, ho, hd⟩, hr⟩ := hl
      have hL : L ∈ X.fs := hs L (by unfold frs; rw [List.filterMap_cons, hf]; exact List.mem_cons_self)
      obtain ⟨sl, e⟩ := I.base.slot L o ho (I.ok.frf L hL) hL fun z => I.ok.exfs L z hL
      exact ⟨hk, ⟨L, _, hf, hn, e, hd⟩, ih (fun b hb => hs b (by unfold frs; rw [List.filterMap_cons, hf]; exact List.mem_cons_of_mem _ hb)) hr⟩
  exact all X.outer (fun _ hb => hb) I.ok.funs

theorem Inv.stack (I : Inv X pins σ H s) : s.heap.FunFrames X.base X.stack := by
  rcases I.ok.stk with e | ⟨e, hf⟩
  · rw [e]; exact I.funs
  · rw [e]
    obtain ⟨m, hn, _⟩ := I.loc
    refine .cons (by rw [I.ok.kind]; decide) hf hn ?_ I.funs
    exact Heap.get?_none_of_le (Nat.le_trans I.ok.bsz I.ok.above)
theorem Inv.stkSub (I : Inv X pins σ H s) : ∀ b ∈ frs X.stack, b ∈ X.env.locals :: X.fs := fun b hb => by
  rcases I.ok.stk with e | ⟨e, hf⟩
  · rw [e] at hb; exact List.mem_cons_of_mem _ hb
  · rw [e] at hb
    unfold frs at hb
    rw [List.filterMap_cons, hf] at hb
    exact hb
theorem Inv.stkFree (I : Inv X pins σ H s) : ∀ b ∈ frs X.stack, H b = none := fun b hb => by
  rcases List.mem_cons.mp (I.stkSub b hb) with e | hb
  · rw [e]; exact I.free
  · obtain ⟨_, o, ho, _⟩ := I.ok.funs.mem hb
    exact I.base.free b o ho (I.ok.frf b hb) fun z => I.ok.exfs b z hb

theorem Inv.step {g' : Array GenState} {t' : Nat} {d' : Drawn} {ch : List Addr} (I : Inv X pins σ H s)
    (hch : ∀ b ∈ ch, (b ∈ X.ex ∨ X.s₀.heap.objs.size ≤ b) ∧ b ≠ X.env.locals ∧ (∀ x c, X.env.cells.lookup x = some c → c ≠ b) ∧ ∀ p ∈ X.pn ++ pins, p.1 ≠ b)
    (keep : ∀ b o, b ≠ X.env.locals → b ∉ X.fs → b ∉ ch → s.heap.get? b = some o → H b = none → h'.get? b = some o)
    (slot : ∀ b o, b ≠ X.env.locals → b ∈ X.fs → b ∉ ch → s.heap.get? b = some o → H b = none → ∃ sl, h'.get? b = some { o with slots := sl }) (free : ∀ b o, b ∉ ch → s.heap.get? b = some o → H b = none → H' b = none)
    (there : ∀ b o, b ∉ ch → s.heap.get? b = some o → ∃ o', h'.get? b = some o')
    (tups : ∀ b xs, H b = some (.tup xs) → H' b = some (.tup xs)) (frzs : ∀ b o u, H b = some (.frz o u) → H' b = some (.frz o u)) (tbls : ∀ b ps, H b = some (.tbl ps) → ∃ more, H' b = some (.tbl (ps ++ more)))
    (ns : ∀ m, s.heap.Ns X.env.locals m → h'.Ns X.env.locals m) (hok : HOk X.prog X.w H' h') (hg : AllBare g') :
    Inv X pins σ H' { s with heap := h', gens := g', drawn := d', toks := t' } := by
  have neL : ∀ b o, X.s₀.heap.get? b = some o → b ≠ X.env.locals := fun b o e => Nat.ne_of_lt (Nat.lt_of_lt_of_le (Heap.lt_size e) I.ok.above)
  have neC : ∀ b o, X.s₀.heap.get? b = some o → b ∉ X.ex → b ∉ ch := fun b o e hx hb => by
    rcases (hch b hb).1 with z | z
    · exact hx z
    · exact absurd (Nat.lt_of_lt_of_le (Heap.lt_size e) z) (Nat.lt_irrefl _)
  have cellK : ∀ x c, X.env.cells.lookup x = some c → ∀ v, s.heap.IsCell c v → h'.IsCell c v := fun x c e v ⟨o, ho, hd⟩ => by
    have nch : c ∉ ch := fun z => (hch c z).2.2.1 x c e rfl
    by_cases hc : c ∈ X.fs
    · obtain ⟨sl, q⟩ := slot c o (I.cne x c e) hc nch ho (I.freeC x c e)
      exact ⟨_, q, hd⟩
    · exact ⟨o, keep c o (I.cne x c e) hc nch ho (I.freeC x c e), hd⟩
  refine ⟨I.ok, I.os, hg, ⟨fun b o e n hb hx => ?_, fun b o e n hb hx => ?_, fun b o e n hx => ?_, fun b o e hx => ?_, fun b xs e => tups b xs (I.base.tups b xs e), fun b o xs e => frzs b o xs (I.base.frzs b o xs e), fun b ps e => ?_⟩, ?_, fun x c e => ?_, ?_, fun x c e => ?_, fun p hp => ?_, hok, I.len⟩
  · exact keep b o (neL b o e) hb (neC b o e hx) (I.base.keep b o e n hb hx) (I.base.free b o e n hx)
  · obtain ⟨sl, e1⟩ := I.base.slot b o e n hb hx
    obtain ⟨sl', e2⟩ := slot b _ (neL b o e) hb (neC b o e hx) e1 (I.base.free b o e n hx)
    exact ⟨sl', e2⟩
  · obtain ⟨o', e1⟩ := I.base.there b o e hx
    exact free b o' (neC b o e hx) e1 (I.base.free b o e n hx)
  · obtain ⟨o', e1⟩ := I.base.there b o e hx
    exact there b o' (neC b o e hx) e1
  · obtain ⟨m1, e1⟩ := I.base.tbls b ps e
    obtain ⟨m2, e2⟩ := tbls b _ e1
    exact ⟨m1 ++ m2, by rw [e2, Array.append_assoc]⟩
  · obtain ⟨m, hn, hl⟩ := I.loc
    refine ⟨m, ns m hn, fun i x v e1 e2 e3 => ?_⟩
    obtain ⟨u, r, l⟩ := hl i x v e1 e2 e3
    refine ⟨u, r, ?_⟩
    rcases l with l | ⟨k, c, e, z⟩
    · exact .inl l
    · exact .inr ⟨k, c, e, cellK x c e _ z⟩
  · obtain ⟨v, z⟩ := I.cell x c e
    exact ⟨v, cellK x c e v z⟩
  · obtain ⟨m, ⟨o, _, _, ho, _⟩, _⟩ := I.loc
    exact free _ o (fun z => (hch _ z).2.1 rfl) ho I.free
  · obtain ⟨v, o, ho, hd⟩ := I.cell x c e
    exact free c o (fun z => (hch c z).2.2.1 x c e rfl) ho (I.freeC x c e)
  · obtain ⟨e, n, ne, nf, d⟩ := I.pin p hp
    have nch : p.1 ∉ ch := fun z => (hch p.1 z).2.2.2 p hp rfl
    exact ⟨keep p.1 p.2 ne nf nch e n, free p.1 p.2 nch e n, ne, nf, d⟩
theorem Inv.un {t' : Nat} (I : Inv X pins σ H s) (u : Un X.fs [] H H' s.heap h') (hok : HOk X.prog X.w H' h') : Inv X pins σ H' { s with heap := h', toks := t' } := by
  obtain ⟨m, ⟨o, es, ep, ho, r⟩, _⟩ := id I.loc
  obtain ⟨sl, hL⟩ := u.any ho I.free (by simp)
  exact I.step (g' := s.gens) (d' := s.drawn) (ch := []) (fun _ z => nomatch z) (fun b o _ hb _ e n => u.keep b o e n hb (by simp)) (fun b o _ hb _ e n => u.slot b o e n hb (by simp)) (fun b o _ e n => u.free b o e n (by simp)) (fun b o _ e => u.there b o e (by simp)) u.tups u.frzs u.tbls (fun m' hm => by
    obtain ⟨o', es', ep', ho', r'⟩ := hm
    rw [ho] at ho'; cases ho'
    exact ⟨_, es', ep', hL, r'⟩) hok I.bare
theorem Inv.call {g' : Array GenState} {t' : Nat} {d' : Drawn} {ch : List Addr} (I : Inv X pins σ H s) (u : Un (frs X.stack) ch H H' s.heap h') (hok : HOk X.prog X.w H' h') (hg : AllBare g')
    (hch : ∀ b ∈ ch, (b ∈ X.ex ∨ X.s₀.heap.objs.size ≤ b) ∧ b ≠ X.env.locals ∧ (∀ x c, X.env.cells.lookup x = some c → c ≠ b) ∧ ∀ p ∈ X.pn ++ pins, p.1 ≠ b) :
    Inv X pins σ H' { s with heap := h', gens := g', drawn := d', toks := t' } := by
  obtain ⟨m, ⟨o, es, ep, ho, r⟩, _⟩ := id I.loc
  obtain ⟨sl, hL⟩ := u.any ho I.free fun z => (hch _ z).2.1 rfl
  exact I.step (ch := ch) hch (fun b o hL hb hc e n => u.keep b o e n (fun z => (List.mem_cons.mp (I.stkSub b z)).elim hL hb) hc) (fun b o _ _ hc e n => u.any e n hc) (fun b o hc e n => u.free b o e n hc) (fun b o hc e => u.there b o e hc) u.tups u.frzs u.tbls (fun m' hm => by
    obtain ⟨o', es', ep', ho', r'⟩ := hm
    rw [ho] at ho'; cases ho'
    exact ⟨_, es', ep', hL, r'⟩) hok hg
theorem Inv.turned {t' : Nat} {it : Addr} (I : Inv X pins σ H s) (k : ∀ b o, b ≠ it → s.heap.get? b = some o → h'.get? b = some o) (hn : H it = none) (hL : it ≠ X.env.locals)
    (h1 : it ∈ X.ex ∨ X.s₀.heap.objs.size ≤ it) (h2 : ∀ x c, X.env.cells.lookup x = some c → c ≠ it) (h3 : ∀ p ∈ X.pn ++ pins, p.1 ≠ it) : Inv X pins σ H { s with heap := h', toks := t' } := by
  have nit : ∀ b u, H b = some u → b ≠ it := fun b u e z => by rw [z, hn] at e; cases e
  refine I.step (g' := s.gens) (d' := s.drawn) (ch := [it]) (fun b hb => ?_) (fun b o _ _ hc e _ => k b o (fun z => hc (by simp [z])) e) (fun b o _ _ hc e _ => ⟨o.slots, k b o (fun z => hc (by simp [z])) e⟩) (fun _ _ _ _ n => n)
    (fun b o hc e => ⟨o, k b o (fun z => hc (by simp [z])) e⟩) (fun _ _ e => e) (fun _ _ _ e => e) (fun b ps e => ⟨#[], by rw [e]; simp⟩) (fun m hm => ?_) (fun b u e => ?_) I.bare
  · have e : b = it := by simpa using hb
    subst e
    exact ⟨h1, hL, h2, h3⟩
  · obtain ⟨o, es, ep, ho, r⟩ := hm
    exact ⟨o, es, ep, k _ o (Ne.symm hL) ho, r⟩
  · refine (I.hok b u e).stay (fun c v hc q => k c v ?_ q) (fun _ q => q) fun _ _ q => q
    rcases hc with z | z
    · rw [z]; exact nit b u e
    · exact nit c _ z
theorem Inv.tok (I : Inv X pins σ H s) (t : Nat) : Inv X pins σ H { s with toks := t } := I.un (h' := s.heap) (t' := t) Un.refl I.hok
theorem Inv.kept {t' : Nat} (I : Inv X pins σ H s) (k : ∀ b u, s.heap.get? b = some u → h'.get? b = some u) : Inv X pins σ H { s with heap := h', toks := t' } := I.un (Un.kept k) (I.hok.kept k)
theorem Inv.laid {a : Addr} {o : HO} {t' : Nat} (I : Inv X pins σ H s) (k : ∀ b u, s.heap.get? b = some u → h'.get? b = some u) (hp : s.heap.objs.size ≤ a) (new : ObjOk X.prog X.w (upd H a o) h' a o) :
    Inv X pins σ (upd H a o) { s with heap := h', toks := t' } := I.un (Un.laid k hp (I.hok.fresh hp)) (I.hok.laid k hp new)
theorem Inv.write {x e : Addr} {o : HO} {t' : Nat} (I : Inv X pins σ H s) (mu : Mut (H x)) (he : e = x ∨ H e = some (.own x)) (k : ∀ b u, b ≠ e → s.heap.get? b = some u → h'.get? b = some u) (heo : ∃ u, h'.get? e = some u)
    (new : ObjOk X.prog X.w (upd H x o) h' x o) : Inv X pins σ (upd H x o) { s with heap := h', toks := t' } := I.un (Un.write mu he k heo) (I.hok.write mu he k heo new)
theorem Inv.weak {σ' : List (Option V)} (I : Inv X pins σ H s) (hl : σ'.length = σ.length) (w : ∀ (i : Nat) v, σ'[i]? = some (some v) → σ[i]? = some (some v)) : Inv X pins σ' H s :=
  ⟨I.ok, I.os, I.bare, I.base, let ⟨m, hn, hl'⟩ := I.loc; ⟨m, hn, fun i x v e1 e2 e3 => hl' i x v e1 (w i v e2) e3⟩, I.cell, I.free, I.freeC, I.pin, I.hok, hl.trans I.len⟩
theorem Inv.pins_of {pins' : List (Addr × Obj)} (I : Inv X pins σ H s) (h : ∀ p ∈ pins', s.heap.get? p.1 = some p.2 ∧ H p.1 = none ∧ p.1 ≠ X.env.locals ∧ p.1 ∉ X.fs ∧ ∀ v, p.2.data ≠ .cell v) : Inv X pins' σ H s :=
  ⟨I.ok, I.os, I.bare, I.base, I.loc, I.cell, I.free, I.freeC, fun p hp => (List.mem_append.mp hp).elim (fun z => I.pin p (List.mem_append_left _ z)) (h p), I.hok, I.len⟩

theorem nodup_ix {N : List Str} (hN : N.Nodup) {i j : Nat} {x : Str} (a : N[i]? = some x) (b : N[j]? = some x) : i = j := by
  obtain ⟨h1, e1⟩ := List.getElem?_eq_some_iff.mp a
  obtain ⟨h2, e2⟩ := List.getElem?_eq_some_iff.mp b
  exact (List.getElem_inj hN).mp (e1.trans e2.symm)

theorem store_ok2 {M : Model} {A : Around} {E : Value → Shared → Prop} {i : Nat} {x : Str} {v : V} {u : Value} {Q : Unit → Shared → Prop} (I : Inv X pins σ H s) (hN : X.N.Nodup) (hi : X.N[i]? = some x) (hx : Loc X.env.scope x) (r : RelV v u)
    (h : ∀ s', Inv X pins (σ.set i (some v)) H s' → (∃ a, Heap.SameBut a s.heap s'.heap ∧ (a = X.env.locals ∨ X.env.cells.lookup x = some a)) → Q () s') (hf : X.fn x = true ∨ X.env.scope.names.lookup x = some .local := by first | exact .inl rfl | exact .inr rfl | assumption) : wpAny M A (storeName X.env x u) Q E s := by
  obtain ⟨m, hn, hl⟩ := id I.loc
  have hcls : (X.env.scope.kind == .class || (X.env.scope.kind == .module && X.env.locals != X.env.globals)) = false := by rw [I.ok.kind]; rfl
  have hiσ : i < σ.length := by rw [I.len]; exact (List.getElem?_eq_some_iff.mp hi).1
  have cne := I.cne
  have tracked : ∀ {a : Addr} {h' : Heap}, (∃ o, s.heap.get? a = some o ∧ H a = none) → Heap.SameBut a s.heap h' → HOk X.prog X.w H h' := fun {a h'} ha hs b ob e => by
    obtain ⟨_, _, hfree⟩ := ha
    refine (I.hok b ob e).stay (fun c w' hc q => (hs.2 c ?_).trans q) (fun _ q => q) fun _ _ q => q
    rintro rfl
    rcases hc with rfl | hc
    · rw [hfree] at e; cases e
    · rw [hfree] at hc; cases hc
  rcases hx with hk | hk
  · refine wpAny_storeName_local hk hn (fun h' hn' hs => ?_) hcls
    obtain ⟨oL, _, _, hoL, _⟩ := id hn
    refine h _ ⟨I.ok, I.os, I.bare, ⟨fun b o e n hb hx => ?_, fun b o e n hb hx => ?_, I.base.free, fun b o e hx => ?_, I.base.tups, I.base.frzs, I.base.tbls⟩, ⟨_, hn', fun j y v' e1 e2 e3 => ?_⟩, fun y c e => ?_, I.free, I.freeC, fun p hp => ?_, tracked ⟨oL, hoL, I.free⟩ hs, by simpa using I.len⟩ ⟨_, hs, .inl rfl⟩
    · exact (hs.2 b (Nat.ne_of_lt (Nat.lt_of_lt_of_le (Heap.lt_size e) I.ok.above))).trans (I.base.keep b o e n hb hx)
    · obtain ⟨sl, e1⟩ := I.base.slot b o e n hb hx
      exact ⟨sl, (hs.2 b (Nat.ne_of_lt (Nat.lt_of_lt_of_le (Heap.lt_size e) I.ok.above))).trans e1⟩
    · obtain ⟨o', e1⟩ := I.base.there b o e hx
      exact ⟨o', (hs.2 b (Nat.ne_of_lt (Nat.lt_of_lt_of_le (Heap.lt_size e) I.ok.above))).trans e1⟩
    · by_cases hj : j = i
      · subst hj
        rw [hi] at e1; cases e1
        rw [List.getElem?_set_self hiσ] at e2
        cases e2
        exact ⟨u, r, .inl ⟨hk, by simp⟩⟩
      · rw [List.getElem?_set_ne (Ne.symm hj)] at e2
        obtain ⟨u', r', q⟩ := hl j y v' e1 e2 e3
        refine ⟨u', r', ?_⟩
        rcases q with ⟨k, e⟩ | ⟨k, c, e, z⟩
        · refine .inl ⟨k, ?_⟩
          have : y ≠ x := fun e => hj (nodup_ix hN e1 (e ▸ hi))
          simp [this, e]
        · exact .inr ⟨k, c, e, z.sameBut hs (cne y c e)⟩
    · obtain ⟨w', z⟩ := I.cell y c e
      exact ⟨w', z.sameBut hs (cne y c e)⟩
    · obtain ⟨e, n, ne, nf, d⟩ := I.pin p hp
      exact ⟨(hs.2 p.1 ne).trans e, n, ne, nf, d⟩
  · have hfn : X.fn x = true := by
      rcases hf with z | z
      · exact z
      · rw [z] at hk; cases hk
    obtain ⟨c, hc⟩ := I.ok.has x (.inl hk)
    obtain ⟨w', z⟩ := I.cell x c hc
    refine wpAny_storeName_cell I.ok.kind hk hc z (fun h' hc' hs => ?_)
    obtain ⟨oc, hoc, hocd⟩ := id z
    refine h { s with heap := h' } ⟨I.ok, I.os, I.bare, ⟨fun b o e n hb hx => ?_, fun b o e n hb hx => ?_, I.base.free, fun b o e hx => ?_, I.base.tups, I.base.frzs, I.base.tbls⟩, ⟨m, hn.sameBut hs (Ne.symm (cne x c hc)), fun j y v' e1 e2 e3 => ?_⟩, fun y c' e => ?_, I.free, I.freeC, fun p hp => ?_, tracked ⟨oc, hoc, I.freeC x c hc⟩ hs, by simpa using I.len⟩ ⟨c, hs, .inr hc⟩
    · exact (hs.2 b (Nat.ne_of_lt (Nat.lt_of_lt_of_le (Heap.lt_size e) (I.ok.cab x c hfn hc)))).trans (I.base.keep b o e n hb hx)
    · obtain ⟨sl, e1⟩ := I.base.slot b o e n hb hx
      exact ⟨sl, (hs.2 b (Nat.ne_of_lt (Nat.lt_of_lt_of_le (Heap.lt_size e) (I.ok.cab x c hfn hc)))).trans e1⟩
    · obtain ⟨o', e1⟩ := I.base.there b o e hx
      exact ⟨o', (hs.2 b (Nat.ne_of_lt (Nat.lt_of_lt_of_le (Heap.lt_size e) (I.ok.cab x c hfn hc)))).trans e1⟩
    · by_cases hj : j = i
      · subst hj
        rw [hi] at e1; cases e1
        rw [List.getElem?_set_self hiσ] at e2
        cases e2
        exact ⟨u, r, .inr ⟨.inl hk, c, hc, hc'⟩⟩
      · rw [List.getElem?_set_ne (Ne.symm hj)] at e2
        obtain ⟨u', r', q⟩ := hl j y v' e1 e2 e3
        refine ⟨u', r', ?_⟩
        rcases q with q | ⟨k, c', e, z'⟩
        · exact .inl q
        · refine .inr ⟨k, c', e, z'.sameBut hs ?_⟩
          rintro rfl
          exact hj (nodup_ix hN e1 (I.ok.inj _ _ _ e hc ▸ hi))
    · by_cases hcc : c' = c
      · subst hcc; exact ⟨_, hc'⟩
      · obtain ⟨w2, z2⟩ := I.cell y c' e
        exact ⟨w2, z2.sameBut hs hcc⟩
    · obtain ⟨e, n, ne, nf, d⟩ := I.pin p hp
      refine ⟨(hs.2 p.1 ?_).trans e, n, ne, nf, d⟩
      intro q
      rw [q, hoc] at e
      have q' : oc = p.2 := Option.some.inj e
      exact d w' (by rw [← q']; exact hocd)
theorem store_ok {M : Model} {A : Around} {E : Value → Shared → Prop} {i : Nat} {x : Str} {v : V} {u : Value} {Q : Unit → Shared → Prop} (I : Inv X pins σ H s) (hN : X.N.Nodup) (hi : X.N[i]? = some x) (hx : Loc X.env.scope x) (r : RelV v u)
    (h : ∀ s', Inv X pins (σ.set i (some v)) H s' → Q () s') (hf : X.fn x = true ∨ X.env.scope.names.lookup x = some .local := by first | exact .inl rfl | exact .inr rfl | assumption) : wpAny M A (storeName X.env x u) Q E s :=
  store_ok2 I hN hi hx r (fun s' I' _ => h s' I') hf
theorem Inv.call' {s' : Shared} {ch : List Addr} (I : Inv X pins σ H s) (ho : s'.os = s.os) (u : Un (frs X.stack) ch H H' s.heap s'.heap) (hok : HOk X.prog X.w H' s'.heap) (hg : AllBare s'.gens)
    (hch : ∀ b ∈ ch, (b ∈ X.ex ∨ X.s₀.heap.objs.size ≤ b) ∧ b ≠ X.env.locals ∧ (∀ x c, X.env.cells.lookup x = some c → c ≠ b) ∧ ∀ p ∈ X.pn ++ pins, p.1 ≠ b) : Inv X pins σ H' s' := by
  obtain ⟨h', g', d', t', o'⟩ := s'
  have e : o' = s.os := ho
  subst e
  exact I.call (g' := g') (t' := t') (d' := d') u hok hg hch
end

abbrev XK := Value → Option Addr → Hp → Prop
abbrev St := List (Option V)
abbrev VK := V → Hp → Prop
abbrev TE := St → Hp → VK → Prop
abbrev TT := St → Hp → (Bool → Hp → Prop) → Prop
abbrev TA := St → Hp → (List V → Hp → Prop) → Prop
structure Ends where
  nx : St → Hp → Prop
  rt : VK
  bk : St → Hp → Prop := fun _ _ => False
  ct : St → Hp → Prop := fun _ _ => False
abbrev TS := Ends → St → Hp → Prop

def EP (X : Cx) (pins : List (Addr × Obj)) (σ : St) (Q : VK) (u : Value) (s' : Shared) : Prop := ∃ v H', Inv X pins σ H' s' ∧ RelV v u ∧ Q v H'
def TP (X : Cx) (pins : List (Addr × Obj)) (σ : St) (Q : Bool → Hp → Prop) (b : Bool) (s' : Shared) : Prop := ∃ H', Inv X pins σ H' s' ∧ Q b H'
def AP (X : Cx) (pins : List (Addr × Obj)) (σ : St) (Q : List V → Hp → Prop) (us : List Value) (s' : Shared) : Prop := ∃ vs H', Inv X pins σ H' s' ∧ Vals vs us ∧ Q vs H'
def SP (X : Cx) (pins : List (Addr × Obj)) (D : Ends) (f : Flow) (s' : Shared) : Prop :=
  match f with
  | .next => ∃ σ' H', Inv X pins σ' H' s' ∧ D.nx σ' H'
  | .brk => ∃ σ' H', Inv X pins σ' H' s' ∧ D.bk σ' H'
  | .cont => ∃ σ' H', Inv X pins σ' H' s' ∧ D.ct σ' H'
  | .ret u => ∃ v σ' H', Inv X pins σ' H' s' ∧ RelV v u ∧ D.rt v H'

def PE (X : Cx) (e : Expr) (t : TE) : Prop :=
  ∀ (pins : List (Addr × Obj)) (s : Shared) (σ : St) (H : Hp) (Q : VK), Inv X pins σ H s → t σ H Q → wpAny (model X.prog X.w) X.A (eval e X.env) (EP X pins σ Q) X.xe s
def PT (X : Cx) (e : Expr) (t : TT) : Prop :=
  ∀ (pins : List (Addr × Obj)) (s : Shared) (σ : St) (H : Hp) (Q : Bool → Hp → Prop), Inv X pins σ H s → t σ H Q → wpAny (model X.prog X.w) X.A (isTrue e X.env (eval e X.env)) (TP X pins σ Q) X.xe s
def PW (X : Cx) (e : Expr) (t : TT) : Prop :=
  ∀ (whole : Sem Value) (pins : List (Addr × Obj)) (s : Shared) (σ : St) (H : Hp) (Q : Bool → Hp → Prop), Inv X pins σ H s → t σ H Q → wpAny (model X.prog X.w) X.A (isTrue e X.env whole) (TP X pins σ Q) X.xe s
theorem PW.pt {X : Cx} {e : Expr} {t : TT} (h : PW X e t) : PT X e t := h _
def PA (X : Cx) (es : List Expr) (t : TA) : Prop :=
  ∀ (pos : Pos) (pins : List (Addr × Obj)) (s : Shared) (σ : St) (H : Hp) (Q : List V → Hp → Prop), Inv X pins σ H s → t σ H Q → wpAny (model X.prog X.w) X.A (spliced (backTo pos (starEach es X.env))) (AP X pins σ Q) X.xe s
def PS (X : Cx) (st : Stmt) (t : TS) : Prop :=
  ∀ (pins : List (Addr × Obj)) (s : Shared) (σ : St) (H : Hp) (D : Ends), Inv X pins σ H s → t D σ H → wpAny (model X.prog X.w) X.A (exec st X.env) (SP X pins D) X.xe s
def PSs (X : Cx) (st : List Stmt) (t : TS) : Prop :=
  ∀ (pins : List (Addr × Obj)) (s : Shared) (σ : St) (H : Hp) (D : Ends), Inv X pins σ H s → t D σ H → wpAny (model X.prog X.w) X.A (execs st X.env) (SP X pins D) X.xe s
theorem thn {α : Type} {t : Sem α} {Q Q' : α → Shared → Prop} {M : Model} {A : Around} {E : Value → Shared → Prop} {s : Shared} (h : wpAny M A t Q E s) (hQ : ∀ a s, Q a s → Q' a s) : wpAny M A t Q' E s := wpAny_mono h hQ fun _ _ x => x
end L2

namespace L2
open PySem PySem.Spec PyProof.Rows
section
variable {X : Cx}

def tVar (i : Nat) : TE := fun σ H Q => ∃ v, σ[i]? = some (some v) ∧ Q v H
def tC (v : V) : TE := fun _ H Q => Q v H
theorem pe_var {i : Nat} {x : Str} {pos : Pos} (hN : X.N[i]? = some x) (hv : Vis X.env.scope x) (hd : (x == ("__debug__" : Str)) = false := by decide) (hcd : (x == ("__classdict__" : Str)) = false := by decide) : PE X (.Name x pos) (tVar i) := by
  intro pins s σ H Q I h
  obtain ⟨v, e, h⟩ := h
  obtain ⟨m, hn, hl⟩ := I.loc
  obtain ⟨u, r, l⟩ := hl i x v hN e hv
  have fin : EP X pins σ Q u s := ⟨v, H, I, r, h⟩
  rcases l with ⟨hk, hm⟩ | ⟨hk, c, hc, hcell⟩
  · exact wpAny_Name (wpAny_loadName_local I.ok.kind hk hn hm fin) hd
  · rcases hk with hk | hk
    · exact wpAny_Name (wpAny_loadName_cell I.ok.kind hk hc hcell fin) hd
    · exact wpAny_Name (wpAny_loadName_free I.ok.kind hk hc hcell fin hcd) hd
theorem pe_int {i j pos} : PE X (.Constant (.int i) j pos) (tC (.int i)) := fun _ _ _ H _ I h => wpAny_Constant_int ⟨.int i, H, I.tok _, ⟨_, rfl⟩, h⟩
theorem pe_bl {b j pos} : PE X (.Constant (.bool b) j pos) (tC (.bl b)) := fun _ _ _ H _ I h => Constant_bool ⟨.bl b, H, I, rfl, h⟩
theorem pe_non {j pos} : PE X (.Constant .none j pos) (tC .non) := fun _ _ _ H _ I h => Constant_none ⟨.non, H, I, rfl, h⟩
theorem pe_str {x j pos} : PE X (.Constant (.str x) j pos) (tC (.str x)) := fun _ _ _ H _ I h => Calls.Constant_str ⟨.str x, H, I.tok _, ⟨_, rfl⟩, h⟩

def Gl (X : Cx) (x : Str) : Prop := X.env.kindOf x = some .globalImplicit
theorem ld_glob {E : Value → Shared → Prop} {pins : List (Addr × Obj)} {s : Shared} {σ : St} {H : Hp} {x : Str} {u : Value} {pos : Pos} {Q : Value → Shared → Prop} (I : Inv X pins σ H s) (hg : Gl X x) (hm : X.mg x = some u) (h : Q u s)
    (hd : (x == ("__debug__" : Str)) = false := by decide) : wpAny (model X.prog X.w) X.A (eval (.Name x pos) X.env) Q E s :=
  Calls.Name_function_global I.ok.kind hg (Calls.loadGlobal_global (by rw [I.ok.glob]; exact I.mod.glob.keeps I.bk) hm h) hd
theorem ld_blt {E : Value → Shared → Prop} {pins : List (Addr × Obj)} {s : Shared} {σ : St} {H : Hp} {x : Str} {u : Value} {pos : Pos} {Q : Value → Shared → Prop} (I : Inv X pins σ H s) (hg : Gl X x) (hm : X.mg x = none) (hv : bootBuiltins x = some u) (h : Q u s)
    (hn : x ≠ "__name__" := by decide) (hd : (x == ("__debug__" : Str)) = false := by decide) : wpAny (model X.prog X.w) X.A (eval (.Name x pos) X.env) Q E s := by
  obtain ⟨mb, h1, h2⟩ := I.mod.blt
  exact Calls.Name_function_global I.ok.kind hg (Calls.loadGlobal_builtin (by rw [I.ok.glob]; exact I.mod.glob.keeps I.bk) hm (by rw [I.ok.blt]; exact h1.keeps I.bk) ((h2 x hn).trans hv) h) hd
theorem pe_glob {x : Str} {v : V} {u : Value} {pos : Pos} (hg : Gl X x) (hm : X.mg x = some u) (r : RelV v u) (hd : (x == ("__debug__" : Str)) = false := by decide) : PE X (.Name x pos) (tC v) :=
  fun _ _ _ H _ I h => ld_glob I hg hm ⟨v, H, I, r, h⟩ hd
theorem pe_bltn {x : Str} {v : V} {u : Value} {pos : Pos} (hg : Gl X x) (hm : X.mg x = none) (hv : bootBuiltins x = some u) (r : RelV v u) (hn : x ≠ "__name__" := by decide) (hd : (x == ("__debug__" : Str)) = false := by decide) : PE X (.Name x pos) (tC v) :=
  fun _ _ _ H _ I h => ld_blt I hg hm hv ⟨v, H, I, r, h⟩ hn hd

variable {a b : Expr} {ta tb : TE} {pos : Pos}
def tB (t : TE) : TT := fun σ H Q => t σ H fun x H1 => ∃ c, x = .bl c ∧ Q c H1
theorem pt_val {e : Expr} {t : TE} (h : PE X e t) (he : ∀ whole, isTrue e X.env whole = (do let v ← whole; standAt e.pos; holding [v] (truthy v)) := by intro _; rfl) : PT X e (tB t) := by
  intro pins s σ H Q I hw
  refine isTrue_plain (thn (h pins s σ H _ I hw) fun v s1 ⟨x, H1, I1, r1, q1⟩ => ?_) (he _)
  obtain ⟨d, rfl, q⟩ := q1
  cases r1
  exact wpAny_truthy_bool ⟨H1, I1, q⟩

variable {tA tB' : TT} {rest : List Expr}
def tAnd (t u : TT) : TT := fun σ H Q => t σ H fun c H1 => if c = true then u σ H1 Q else Q false H1
def tOr (t u : TT) : TT := fun σ H Q => t σ H fun c H1 => if c = true then Q true H1 else u σ H1 Q
def tNot (t : TT) : TT := fun σ H Q => t σ H fun c H1 => Q (!c) H1
theorem pw_and1 (ha : PT X a tA) : PW X (.BoolOp .And [a] pos) tA := by
  intro wh pins s σ H Q I h
  refine isTrue_and (thn (ha pins s σ H Q I h) fun c s1 e => ?_)
  cases c with
  | true => exact isTrue_and_nil e
  | false => exact e
theorem pw_or1 (ha : PT X a tA) : PW X (.BoolOp .Or [a] pos) tA := by
  intro wh pins s σ H Q I h
  refine isTrue_or (thn (ha pins s σ H Q I h) fun c s1 e => ?_)
  cases c with
  | false => exact isTrue_or_nil e
  | true => exact e
theorem pw_and (ha : PT X a tA) (hb : PW X (.BoolOp .And (b :: rest) pos) tB') : PW X (.BoolOp .And (a :: b :: rest) pos) (tAnd tA tB') := by
  intro wh pins s σ H Q I h
  refine isTrue_and (thn (ha pins s σ H _ I h) fun c s1 ⟨H1, I1, q1⟩ => ?_)
  cases c with
  | true => exact hb wh pins s1 σ H1 Q I1 q1
  | false => exact ⟨H1, I1, q1⟩
theorem pw_or (ha : PT X a tA) (hb : PW X (.BoolOp .Or (b :: rest) pos) tB') : PW X (.BoolOp .Or (a :: b :: rest) pos) (tOr tA tB') := by
  intro wh pins s σ H Q I h
  refine isTrue_or (thn (ha pins s σ H _ I h) fun c s1 ⟨H1, I1, q1⟩ => ?_)
  cases c with
  | true => exact ⟨H1, I1, q1⟩
  | false => exact hb wh pins s1 σ H1 Q I1 q1
theorem pt_not (ha : PT X a tA) : PT X (.UnaryOp .Not a pos) (tNot tA) := by
  intro pins s σ H Q I h
  exact isTrue_not (ha pins s σ H (fun c H1 => Q (!c) H1) I h)
def tAndV (ta tb : TE) : TE := fun σ H Q => ta σ H fun x H1 => ∃ c, x = .bl c ∧ if c = true then tb σ H1 Q else Q (.bl false) H1
def tNotV (ta : TE) : TE := fun σ H Q => ta σ H fun x H1 => ∃ c, x = .bl c ∧ Q (.bl (!c)) H1
theorem pe_one {op} {t : TE} (h : PE X a t) : PE X (.BoolOp op [a] pos) t := fun pins s σ H Q I hw => BoolOp_one (h pins s σ H Q I hw)
theorem pe_and (ha : PE X a ta) (hb : PE X (.BoolOp .And (b :: rest) pos) tb) : PE X (.BoolOp .And (a :: b :: rest) pos) (tAndV ta tb) := by
  intro pins s σ H Q I h
  refine BoolOp_and (thn (ha pins s σ H _ I h) fun v s1 ⟨x, H1, I1, r1, q1⟩ => ?_)
  obtain ⟨c, rfl, q1⟩ := q1
  cases r1
  refine wpAny_truthy_bool ?_
  cases c with
  | true => exact hb pins s1 σ H1 Q I1 q1
  | false => exact ⟨.bl false, H1, I1, rfl, q1⟩
theorem pe_not (ha : PE X a ta) : PE X (.UnaryOp .Not a pos) (tNotV ta) := by
  intro pins s σ H Q I h
  refine UnaryOp_ (thn (ha pins s σ H _ I h) fun v s1 ⟨x, H1, I1, r1, q1⟩ => ?_)
  obtain ⟨c, rfl, q1⟩ := q1
  cases r1
  exact not_of (wpAny_truthy_bool ⟨.bl (!c), H1, I1, rfl, q1⟩)
end
end L2

namespace L2
open PySem PySem.Spec PyProof.Rows

def SqL (K : PySem.W.Frag) (H : Hp) (a : Addr) (xs : List V) : Prop :=
  Rd H a (.lst xs) ∨
    ∃ (o : Obj) (its : Array Value) (n : Nat), K.lookup a = some o ∧ o.cls = .type "list" ∧ o.dict = none ∧ o.data = .seq its n ∧ its.size ≤ sizeLine ∧ Vals xs its.toList
def SqT (K : PySem.W.Frag) (H : Hp) (a : Addr) (xs : List V) : Prop :=
  Rd H a (.tup xs) ∨
    ∃ (o : Obj) (its : Array Value) (n : Nat), K.lookup a = some o ∧ o.cls = .type "tuple" ∧ o.data = .seq its n ∧ its.size ≤ sizeLine ∧ Vals xs its.toList
def absV : Value → Option V
  | .none => some .non
  | .bool b => some (.bl b)
  | .int i _ => some (.int i)
  | .str x _ => some (.str x)
  | .bytes b _ => some (.byt b)
  | .float b _ => some (.flt b)
  | .ref a => some (.ref a)
  | .type n => some (.ty n)
  | _ => none
theorem RelV.abs {x : V} {u : Value} (r : RelV x u) : absV u = some x := by
  cases x with
  | non => cases r; rfl
  | bl _ => cases r; rfl
  | int _ => obtain ⟨t, rfl⟩ := r; rfl
  | str _ => obtain ⟨t, rfl⟩ := r; rfl
  | byt _ => obtain ⟨t, rfl⟩ := r; rfl
  | flt _ => obtain ⟨t, rfl⟩ := r; rfl
  | ref _ => cases r; rfl
  | ty _ => cases r; rfl
theorem RelV.inj {x y : V} {u : Value} (r : RelV x u) (q : RelV y u) : x = y := Option.some.inj (r.abs.symm.trans q.abs)
theorem Vals.inj : ∀ {xs ys : List V} {us : List Value}, Vals xs us → Vals ys us → xs = ys
  | _, _, _, .nil, .nil => rfl
  | _, _, _, .cons r t, .cons r' t' => by rw [r.inj r', Vals.inj t t']
section
variable {X : Cx} {pins : List (Addr × Obj)} {σ : St} {H : Hp} {s : Shared} {a : Addr} {xs ys : List V}
theorem SqL.of {K : PySem.W.Frag} (h : H a = some (.lst xs)) : SqL K H a xs := .inl (.inl h)
theorem SqT.of {K : PySem.W.Frag} (h : H a = some (.tup xs)) : SqT K H a xs := .inl (.inl h)
theorem Inv.list (I : Inv X pins σ H s) (h : SqL X.K H a xs) : ∃ its : List Value, Vals xs its ∧ PlainL s.heap a its.toArray ∧ xs.length ≤ sizeLine := by
  rcases h with h | ⟨o, its, n, hk, hc, hd, hs, hz, r⟩
  · obtain ⟨z, its, n, r, e⟩ := h.ok I.hok
    exact ⟨its, r, ⟨_, n, e, rfl, rfl, rfl⟩, z⟩
  · refine ⟨its.toList, r, ⟨o, n, I.kIn a o hk, hc, hd, by simpa using hs⟩, ?_⟩
    have e := r.length
    simp only [Array.length_toList] at e
    omega
theorem Inv.tuple (I : Inv X pins σ H s) (h : SqT X.K H a xs) : ∃ its : List Value, Vals xs its ∧ IsTup s.heap a its.toArray ∧ xs.length ≤ sizeLine := by
  rcases h with h | ⟨o, its, n, hk, hc, hs, hz, r⟩
  · obtain ⟨z, its, r, p⟩ := h.ok I.hok
    exact ⟨its, r, p, z⟩
  · refine ⟨its.toList, r, ⟨o, I.kIn a o hk, hc, n, by simpa using hs⟩, ?_⟩
    have e := r.length
    simp only [Array.length_toList] at e
    omega
theorem Inv.list_inj (I : Inv X pins σ H s) (h : SqL X.K H a xs) (h' : SqL X.K H a ys) : xs = ys := by
  obtain ⟨its, r, ⟨o, n, e, _, _, d⟩, _⟩ := I.list h
  obtain ⟨its', r', ⟨o', n', e', _, _, d'⟩, _⟩ := I.list h'
  rw [e] at e'; cases e'
  rw [d] at d'
  injection d' with d1 _
  have : its = its' := by simpa using congrArg Array.toList d1
  subst this
  exact r.inj r'
end

abbrev Cx.wish (X : Cx) (E : Value → Shared → Prop) : Cx := { X with xe := E }
abbrev Cx.nox (X : Cx) : Cx := X.wish fun _ _ => False
theorem Cx.Ok.wish {X : Cx} (ok : X.Ok) (E : Value → Shared → Prop) : (X.wish E).Ok :=
  ⟨ok.mod, ok.kind, ok.glob, ok.blt, ok.above, ok.inj, ok.has, ok.cab, ok.hd, ok.frames, ok.stk, ok.exf, ok.bs, ok.bsz, ok.noex, ok.exfs, ok.funs, ok.frf⟩
theorem Cx.Ok.unwish {X : Cx} {E : Value → Shared → Prop} (ok : (X.wish E).Ok) : X.Ok :=
  ⟨ok.mod, ok.kind, ok.glob, ok.blt, ok.above, ok.inj, ok.has, ok.cab, ok.hd, ok.frames, ok.stk, ok.exf, ok.bs, ok.bsz, ok.noex, ok.exfs, ok.funs, ok.frf⟩
section
variable {X : Cx} {pins : List (Addr × Obj)} {σ : St} {H : Hp} {s : Shared} {E : Value → Shared → Prop}
theorem Inv.wish (I : Inv X pins σ H s) (E : Value → Shared → Prop) : Inv (X.wish E) pins σ H s := ⟨I.ok.wish E, I.os, I.bare, I.base, I.loc, I.cell, I.free, I.freeC, I.pin, I.hok, I.len⟩
theorem Inv.unwish (I : Inv (X.wish E) pins σ H s) : Inv X pins σ H s := ⟨I.ok.unwish, I.os, I.bare, I.base, I.loc, I.cell, I.free, I.freeC, I.pin, I.hok, I.len⟩
theorem SP.unwish {D : Ends} {f : Flow} {s' : Shared} (h : SP (X.wish E) pins D f s') : SP X pins D f s' := by
  cases f with
  | next => obtain ⟨σ', H', I, q⟩ := h; exact ⟨σ', H', I.unwish, q⟩
  | brk => obtain ⟨σ', H', I, q⟩ := h; exact ⟨σ', H', I.unwish, q⟩
  | cont => obtain ⟨σ', H', I, q⟩ := h; exact ⟨σ', H', I.unwish, q⟩
  | ret u => obtain ⟨v, σ', H', I, r, q⟩ := h; exact ⟨v, σ', H', I.unwish, r, q⟩
theorem PE.nox {e : Expr} {t : TE} (h : PE X.nox e t) : PE X e t := fun pins s σ H Q I hw =>
  wpAny_mono (h pins s σ H Q (I.wish _) hw) (fun _ _ ⟨v, H', I', r, q⟩ => ⟨v, H', I'.unwish, r, q⟩) fun _ _ z => False.elim z
theorem PT.nox {e : Expr} {t : TT} (h : PT X.nox e t) : PT X e t := fun pins s σ H Q I hw =>
  wpAny_mono (h pins s σ H Q (I.wish _) hw) (fun _ _ ⟨H', I', q⟩ => ⟨H', I'.unwish, q⟩) fun _ _ z => False.elim z
theorem PSs.nox {st : List Stmt} {t : TS} (h : PSs X.nox st t) : PSs X st t := fun pins s σ H D I hw =>
  wpAny_mono (h pins s σ H D (I.wish _) hw) (fun _ _ q => q.unwish) fun _ _ z => False.elim z
end

section
variable {X : Cx} {st : Stmt} {rest : List Stmt} {t u : TS} {e : Expr} {te : TE} {pos : Pos}
def tNext : TS := fun D σ H => D.nx σ H
def tSeq (t u : TS) : TS := fun D σ H => t { D with nx := u D } σ H
theorem pss_nil : PSs X [] tNext := fun _ _ σ H _ I h => wpAny_execs_nil ⟨σ, H, I, h⟩
theorem pss_cons (h1 : PS X st t) (h2 : PSs X rest u) : PSs X (st :: rest) (tSeq t u) := by
  intro pins s σ H D I h
  refine wpAny_execs_cons (thn (h1 pins s σ H { D with nx := u D } I h) fun f s1 q => ?_)
  cases f with
  | next =>
    obtain ⟨σ', H', I', q⟩ := q
    exact h2 pins s1 σ' H' D I' q
  | ret v => exact q
  | brk => exact q
  | cont => exact q
theorem pss_one (h1 : PS X st t) : PSs X [st] t := by
  intro pins s σ H D I h
  refine wpAny_execs_cons (thn (h1 pins s σ H D I h) fun f s1 q => ?_)
  cases f with
  | next => exact wpAny_execs_nil q
  | ret v => exact q
  | brk => exact q
  | cont => exact q
theorem Inv.quiet {pins : List (Addr × Obj)} {σ : St} {H : Hp} {s : Shared} (I : Inv X pins σ H s) : interactive X.env = false := by simp [interactive, I.ok.kind]
def tDrop (te : TE) : TS := fun D σ H => te σ H fun _ H1 => D.nx σ H1
theorem ps_expr (he : PE X e te) (hs : swapsWith e none pos.line X.env = pure false := by rfl) : PS X (.Expr e pos) (tDrop te) := by
  intro pins s σ H D I h
  exact wpAny_Expr_any (thn (he pins s σ H _ I h) fun v s1 ⟨x, H1, I1, r1, q1⟩ => ⟨σ, H1, I1, q1⟩) I.quiet hs
def tRet (te : TE) : TS := fun D σ H => te σ H D.rt
theorem ps_ret (he : PE X e te) : PS X (.Return (some e) pos) (tRet te) := by
  intro pins s σ H D I h
  exact wpAny_Return_some (thn (he pins s σ H _ I h) fun v s1 ⟨x, H1, I1, r1, q1⟩ => ⟨x, σ, H1, I1, r1, q1⟩)
def tIfS (c : TT) (t u : TS) : TS := fun D σ H => c σ H fun b H1 => if b = true then t D σ H1 else u D σ H1
theorem ps_if {c : Expr} {a b : List Stmt} {tc : TT} (hc : PT X c tc) (ha : PSs X a t) (hb : PSs X b u) : PS X (.If c a b pos) (tIfS tc t u) := by
  intro pins s σ H D I h
  refine wpAny_If (thn (hc pins s σ H _ I h) fun d s1 ⟨H1, I1, q1⟩ => ?_)
  cases d with
  | true => exact ha pins s1 σ H1 D I1 q1
  | false => exact hb pins s1 σ H1 D I1 q1
end

abbrev TG := V → St → Hp → (St → Hp → Prop) → Prop
abbrev TGs := List V → St → Hp → (St → Hp → Prop) → Prop
def PG (X : Cx) (target : Expr) (t : TG) : Prop :=
  ∀ (pins : List (Addr × Obj)) (s : Shared) (σ : St) (H : Hp) (v : V) (u : Value) (Q : St → Hp → Prop), Inv X pins σ H s → RelV v u → t v σ H Q →
    wpAny (model X.prog X.w) X.A (assign target X.env u) (fun _ s' => ∃ σ' H', Inv X pins σ' H' s' ∧ Q σ' H') X.xe s
def PGs (X : Cx) (ts : List Expr) (t : TGs) : Prop :=
  ∀ (pins : List (Addr × Obj)) (s : Shared) (σ : St) (H : Hp) (vs : List V) (us : List Value) (Q : St → Hp → Prop), Inv X pins σ H s → Vals vs us → t vs σ H Q →
    wpAny (model X.prog X.w) X.A (assignInOrder ((assignEach ts X.env).map (·.2)) us) (fun _ s' => ∃ σ' H', Inv X pins σ' H' s' ∧ Q σ' H') X.xe s
abbrev TIp := V → V → Hp → VK → Prop
def PIp (X : Cx) (op : Operator) (t : TIp) : Prop :=
  ∀ (pins : List (Addr × Obj)) (s : Shared) (σ : St) (H : Hp) (x y : V) (v u : Value) (Q : VK), Inv X pins σ H s → RelV x v → RelV y u → t x y H Q →
    wpAny (model X.prog X.w) X.A (inplaceOp op v u) (EP X pins σ Q) X.xe s
section
variable {X : Cx} {pos : Pos}
def gName (i : Nat) : TG := fun v σ H Q => Q (σ.set i (some v)) H
theorem pg_name {i : Nat} {x : Str} (hN : X.N.Nodup) (hi : X.N[i]? = some x) (hx : Loc X.env.scope x) (hf : X.fn x = true ∨ X.env.scope.names.lookup x = some .local := by first | exact .inl rfl | exact .inr rfl | assumption) : PG X (.Name x pos) (gName i) := by
  intro pins s σ H v u Q I r h
  exact wpAny_assign_Name (store_ok I hN hi hx r (fun s' I' => ⟨_, H, I', h⟩) hf)
def gNil : TGs := fun vs σ H Q => vs = [] ∧ Q σ H
def gCons (t : TG) (u : TGs) : TGs := fun vs σ H Q => ∃ v r, vs = v :: r ∧ t v σ H fun σ' H' => u r σ' H' Q
theorem pgs_nil : PGs X [] gNil := by
  intro pins s σ H vs us Q I r h
  obtain ⟨e, h⟩ := h
  subst e
  cases r
  exact assignInOrder_nil ⟨σ, H, I, h⟩
theorem pgs_cons {e : Expr} {es : List Expr} {t : TG} {u : TGs} (h1 : PG X e t) (h2 : PGs X es u)
    (hs : (assignEach (e :: es) X.env).map (·.2) = assign e X.env :: (assignEach es X.env).map (·.2) := by rfl) : PGs X (e :: es) (gCons t u) := by
  intro pins s σ H vs us Q I r h
  obtain ⟨v, vr, e1, h⟩ := h
  subst e1
  cases r with
  | cons r rr =>
    rw [hs]
    refine assignInOrder_cons (thn (h1 pins s σ H _ _ _ I r h) fun _ s1 ⟨σ1, H1, I1, q1⟩ => ?_)
    exact h2 pins s1 σ1 H1 _ _ Q I1 rr q1
def gTup (K : PySem.W.Frag) (n : Nat) (t : TGs) : TG := fun v σ H Q => ∃ a xs, v = .ref a ∧ SqT K H a xs ∧ xs.length = n ∧ t xs σ H Q
theorem pg_tup {es : List Expr} {k : Nat} {t : TGs} {n : Nat} (hc : X.calm = true) (h : PGs X es t)
    (hn : (assignEach es X.env).length = n := by rfl) (hst : (assignEach es X.env).findIdx? (·.1) = none := by rfl) : PG X (.Tuple es k pos) (gTup X.K n t) := by
  intro pins s σ H v u Q I r hw
  obtain ⟨a, xs, e1, hq, hl, hw⟩ := hw
  subst e1
  cases r
  obtain ⟨its, rv, ht, hz⟩ := I.tuple hq
  refine assign_Tuple_tuple (I.ok.hd hc) ht (by simp [hn, ← hl, rv.length]) hst fun h' hx => ?_
  have I1 : Inv X pins σ H { s with heap := h' } := I.kept (t' := s.toks) fun b o e => hx b o (Nat.ne_of_lt (Heap.lt_size e)) e
  exact h pins _ σ H xs _ Q I1 (by simpa using rv) hw
def tAsg (te : TE) (g : TG) : TS := fun D σ H => te σ H fun x H1 => g x σ H1 D.nx
theorem ps_set {i : Nat} {x : Str} {e : Expr} {te : TE} {pos' : Pos} (hN : X.N.Nodup) (hi : X.N[i]? = some x) (hx : Loc X.env.scope x) (he : PE X e te) (hs : swapsWith e (some (.Name x pos')) pos.line X.env = pure false := by rfl) (hf : X.fn x = true ∨ X.env.scope.names.lookup x = some .local := by first | exact .inl rfl | exact .inr rfl | assumption) :
    PS X (.Assign [.Name x pos'] e pos) (tAsg te (gName i)) := by
  intro pins s σ H D I h
  refine wpAny_Assign_Name (thn (he pins s σ H _ I h) fun v s1 ⟨y, H1, I1, r1, q1⟩ => ?_) hs
  exact store_ok I1 hN hi hx r1 (fun s2 I2 => ⟨_, H1, I2, q1⟩) hf
def tAug (i : Nat) (te : TE) (ti : TIp) : TS := fun D σ H => ∃ x, σ[i]? = some (some x) ∧ te σ H fun y H1 => ti x y H1 fun z H2 => D.nx (σ.set i (some z)) H2
theorem ps_aug {i : Nat} {x : Str} {e : Expr} {te : TE} {op : Operator} {ti : TIp} {pos' : Pos} (hN : X.N.Nodup) (hi : X.N[i]? = some x) (hx : Loc X.env.scope x) (he : PE X e te) (ho : PIp X op ti) (hf : X.fn x = true ∨ X.env.scope.names.lookup x = some .local := by first | exact .inl rfl | exact .inr rfl | assumption) :
    PS X (.AugAssign (.Name x pos') op e pos) (tAug i te ti) := by
  intro pins s σ H D I h
  obtain ⟨v, e1, h⟩ := h
  obtain ⟨m, hn, hl⟩ := I.loc
  have vis : Vis X.env.scope x := by rcases hx with k | k; exact .inl k; exact .inr (.inl k)
  obtain ⟨u, r, l⟩ := hl i x v hi e1 vis
  refine wpAny_AugAssign_Name ?_
  have go : wpAny (model X.prog X.w) X.A (eval e X.env) (fun w s₂ => wpAny (model X.prog X.w) X.A (inplaceOp op u w) (fun r s₃ => wpAny (model X.prog X.w) X.A (storeName X.env x r) (fun _ => SP X pins D .next) X.xe s₃) X.xe s₂) X.xe s := by
    refine thn (he pins s σ H _ I h) fun w s1 ⟨y, H1, I1, r1, q1⟩ => ?_
    refine thn (ho pins s1 σ H1 v y u w _ I1 r r1 q1) fun z s2 ⟨zv, H2, I2, r2, q2⟩ => ?_
    exact store_ok I2 hN hi hx r2 (fun s3 I3 => ⟨_, H2, I3, q2⟩) hf
  rcases l with ⟨hk, hm⟩ | ⟨hk, c, hc, hcell⟩
  · exact wpAny_loadName_local I.ok.kind hk hn hm go
  · rcases hk with hk | hk
    · exact wpAny_loadName_cell I.ok.kind hk hc hcell go
    · rcases hx with k | k
      · have : X.env.scope.names.lookup x = some .free := hk
        rw [k] at this; cases this
      · have : X.env.scope.names.lookup x = some .free := hk
        rw [k] at this; cases this
def ipI (f : Int → Int → Int) : TIp := fun x y H Q => ∃ i j, x = .int i ∧ y = .int j ∧ Q (.int (f i j)) H
theorem ip_add : PIp X .Add (ipI fun i j => i + j) := by
  intro pins s σ H x y v u Q I r1 r2 h
  obtain ⟨i, j, e1, e2, q⟩ := h
  subst e1; subst e2
  obtain ⟨t, rfl⟩ := r1
  obtain ⟨t', rfl⟩ := r2
  exact iadd_int ⟨.int _, H, I.tok _, ⟨_, rfl⟩, q⟩
end

section
variable {X : Cx} {pos : Pos}
def tWhile (c : TT) (tb : TS) : TS := fun D σ H => ∃ W : Nat → St → Hp → Prop, (∃ m, W m σ H) ∧ ∀ m σ H, W m σ H →
  c σ H fun b H1 => if b = true then ∃ N : St → Hp → Prop, (∀ σ' H', N σ' H' → ∃ m', m' < m ∧ W m' σ' H') ∧ tb { D with nx := N, ct := N, bk := D.nx } σ H1 else D.nx σ H1
theorem ps_while {c : Expr} {body : List Stmt} {tc : TT} {tb : TS} (hp : PassesOwn (model X.prog X.w) X.A X.env X.xe) (hc : PT X c tc) (hb : PSs X body tb) : PS X (.While c body [] pos) (tWhile tc tb) := by
  intro pins s σ H D I h
  obtain ⟨W, ⟨m0, w0⟩, turn⟩ := h
  refine wpAny_While (codeAny_whileLoop (fun n s' => ∃ σ' H', Inv X pins σ' H' s' ∧ W n σ' H') ?_ m0 ⟨σ, H, I, w0⟩)
  rintro n s1 ⟨σ1, H1, I1, w1⟩
  refine wpAny_passesOwn hp (thn (hc pins s1 σ1 H1 _ I1 (turn n σ1 H1 w1)) fun b s2 ⟨H2, I2, q2⟩ => ?_)
  cases b with
  | true =>
    obtain ⟨N, hN, q2⟩ := q2
    rw [if_pos rfl]
    refine wpAny_passesOwn hp (thn (hb pins s2 σ1 H2 _ I2 q2) fun f s3 q3 => ?_)
    cases f with
    | next =>
      obtain ⟨σ3, H3, I3, n3⟩ := q3
      obtain ⟨m', hm, w3⟩ := hN σ3 H3 n3
      exact ⟨m', hm, σ3, H3, I3, w3⟩
    | cont =>
      obtain ⟨σ3, H3, I3, n3⟩ := q3
      obtain ⟨m', hm, w3⟩ := hN σ3 H3 n3
      exact ⟨m', hm, σ3, H3, I3, w3⟩
    | brk => exact q3
    | ret v => exact q3
  | false =>
    rw [if_neg Bool.false_ne_true]
    exact wpAny_execs_nil ⟨σ1, H2, I2, q2⟩
end

structure It where
  go : Nat → Hp → Prop
  yld : Nat → Hp → V → Hp → Prop
  stop : Nat → Hp → Prop
def FpOk (X : Cx) (pins : List (Addr × Obj)) (H : Hp) (b : Addr) : Prop :=
  H b = none ∧ b ≠ X.env.locals ∧ b ∉ X.fs ∧ (b ∈ X.ex ∨ X.s₀.heap.objs.size ≤ b) ∧ (∀ x c, X.env.cells.lookup x = some c → c ≠ b) ∧ ∀ p ∈ X.pn ++ pins, p.1 ≠ b
theorem Inv.fpOk {X : Cx} {pins : List (Addr × Obj)} {σ : St} {H H' : Hp} {s : Shared} {b : Addr} (I : Inv X pins σ H s) (hb : s.heap.objs.size ≤ b) (hn : H' b = none) : FpOk X pins H' b := by
  refine ⟨hn, Nat.ne_of_gt (Nat.lt_of_lt_of_le I.lt hb), I.nofs hb, .inr (Nat.le_trans I.sz hb), fun x c e z => ?_, fun p hp z => ?_⟩
  · obtain ⟨v, q⟩ := I.cell x c e
    exact absurd (Nat.lt_of_lt_of_le q.lt (by rw [z]; exact hb)) (Nat.lt_irrefl _)
  · exact absurd (Nat.lt_of_lt_of_le (Heap.lt_size (I.pin p hp).1) (by rw [z]; exact hb)) (Nat.lt_irrefl _)
structure Turn (P : Program) (w : World) (K : PySem.W.Frag) (tg : Expr) (J : It) (fp : List Addr) (it : Addr) (tn : Nat → Heap → Prop) : Prop where
  mem : it ∈ fp
  obj : ∀ i h, tn i h → ∀ b ∈ fp, ∃ o, h.get? b = some o ∧ ∀ v, o.data ≠ .cell v
  keep : ∀ i h h', tn i h → (∀ b ∈ fp, ∀ o, h.get? b = some o → h'.get? b = some o) → tn i h'
  item : ∀ (X : Cx), X.prog = P → X.w = w → X.K = K → X.calm = true → ∀ (i : Nat) (pins : List (Addr × Obj)) (s : Shared) (σ : St) (H : Hp) (E : Value → Shared → Prop), Inv X pins σ H s → (∀ b ∈ fp, FpOk X pins H b) → tn i s.heap → J.go i H →
    wpAny (model P w) X.A (pyNext (.ref it)) (fun r s1 => ∃ u, r = some u ∧
      wpAny (model P w) X.A (letOwnedTupleGo tg (.ref it) u) (fun _ s2 => ∃ x H', Inv X pins σ H' s2 ∧ RelV x u ∧ J.yld i H x H' ∧ tn (i + 1) s2.heap ∧ ∀ b ∈ fp, H' b = none) E s1) E s
  done : ∀ (X : Cx), X.prog = P → X.w = w → X.K = K → X.calm = true → ∀ (i : Nat) (pins : List (Addr × Obj)) (s : Shared) (σ : St) (H : Hp) (E : Value → Shared → Prop), Inv X pins σ H s → (∀ b ∈ fp, FpOk X pins H b) → tn i s.heap → J.stop i H →
    wpAny (model P w) X.A (pyNext (.ref it)) (fun r s1 => r = none ∧ Inv X pins σ H s1) E s
  self : ∀ (A : Around) (i : Nat) (s : Shared) (Q : Value → Shared → Prop) (E : Value → Shared → Prop), tn i s.heap → Q (.ref it) s → wpAny (model P w) A (pyIter (.ref it)) Q E s
abbrev TI := St → Hp → (It → Hp → Prop) → Prop
def PIE (X : Cx) (pins : List (Addr × Obj)) (σ : St) (tg : Expr) (R : It → Hp → Prop) (itv : Value) (s2 : Shared) : Prop :=
  ∃ (it : Addr) (fp : List Addr) (tn : Nat → Heap → Prop) (J : It) (H' : Hp), itv = .ref it ∧ Inv X pins σ H' s2 ∧ Turn X.prog X.w X.K tg J fp it tn ∧ tn 0 s2.heap ∧ (∀ b ∈ fp, FpOk X pins H' b) ∧ R J H'
def PI (X : Cx) (tg iter : Expr) (wi : TI) : Prop :=
  ∀ (pins : List (Addr × Obj)) (s : Shared) (σ : St) (H : Hp) (R : It → Hp → Prop), Inv X pins σ H s → wi σ H R →
    wpAny (model X.prog X.w) X.A (eval iter X.env) (fun v s1 => wpAny (model X.prog X.w) X.A (pyIter v) (PIE X pins σ tg R) X.xe s1) X.xe s

theorem go_of {M : Model} {A : Around} {E : Value → Shared → Prop} {s : Shared} {tg : Expr} {it : Addr} {u : Value} {o : Obj} {n : String} {vs : Array Value} {Q : Unit → Shared → Prop} (ho : s.heap.get? it = some o) (hc : o.cls = .type n) (hd : o.data = .fields vs)
    (hn : ["enumerate", "zip", "dict_itemiterator", "dict_reverseitemiterator", "odict_iterator", "itertools.zip_longest", "itertools.pairwise"].contains n = false) (hQ : Q () s) : wpAny M A (letOwnedTupleGo tg (.ref it) u) Q E s := by
  unfold letOwnedTupleGo
  cases tg <;> first
    | exact wpAny_pure hQ
    | (cases u <;> first
        | exact wpAny_pure hQ
        | (refine wpAny_bind (wpAny_load ho ?_)
           rw [hc, hd]
           show wpAny M A (if (["enumerate", "zip", "dict_itemiterator", "dict_reverseitemiterator", "odict_iterator", "itertools.zip_longest", "itertools.pairwise"].contains n && vs[0]? == some (rawInt _)) = true then _ else _) Q E s
           rw [if_neg (by intro h; rw [hn, Bool.false_and] at h; cases h)]
           exact wpAny_pure hQ))

def Itl (K : PySem.W.Frag) (a : Addr) : It :=
  ⟨fun i H => ∃ xs x, SqL K H a xs ∧ xs[i]? = some x, fun i H x H' => H' = H ∧ ∀ xs, SqL K H a xs → xs[i]? = some x, fun i H => ∃ xs, SqL K H a xs ∧ xs.length ≤ i⟩
def Itr (lo : Int) (n : Nat) : It := ⟨fun i _ => i < n, fun i H x H' => H' = H ∧ x = .int (lo + i), fun i _ => n ≤ i⟩
theorem turn_list {P : Program} {w : World} {K : PySem.W.Frag} {tg : Expr} (a it : Addr) : Turn P w K tg (Itl K a) [it] it (fun i h => h.IsListIter it a i) where
  mem := by simp
  obj := fun i h st b hb => by
    have e : b = it := by simpa using hb
    subst e
    obtain ⟨o, e, c, d⟩ := st
    exact ⟨o, e, fun v z => by rw [d] at z; cases z⟩
  keep := fun i h h' st k => st.at fun o e => k it (by simp) o e
  item := by
    intro X hP hw hK hc i pins s σ H E I hf st hg
    subst hP hw hK
    obtain ⟨xs, x, hq, hx⟩ := hg
    obtain ⟨its, rv, p, hz⟩ := I.list hq
    obtain ⟨u, hu, ru⟩ := rv.get hx
    obtain ⟨f0, f1, f2, f3, f4, f5⟩ := hf it (by simp)
    refine wpAny_pyNext_list_item st p.isList (x := u) (by simpa using hu) fun h' st' sb => ?_
    have I1 : Inv X pins σ H { s with heap := h' } := I.turned (t' := s.toks) (fun b o hb e => (sb.2 b hb).trans e) f0 f1 f3 f4 f5
    obtain ⟨o, e, c, d⟩ := id st'
    exact ⟨u, rfl, go_of (s := { s with heap := h' }) e c d (by decide) ⟨x, H, I1, ru, ⟨rfl, fun ys hy => by rw [I.list_inj hy hq]; exact hx⟩, st', fun b hb => (hf b hb).1⟩⟩
  done := by
    intro X hP hw hK hc i pins s σ H E I hf st hg
    subst hP hw hK
    obtain ⟨xs, hq, hx⟩ := hg
    obtain ⟨its, rv, p, hz⟩ := I.list hq
    obtain ⟨f0, f1, f2, f3, f4, f5⟩ := hf it (by simp)
    have hl := rv.length
    exact wpAny_pyNext_list_end (I.ok.hd hc) st p.isList (by simp; omega) fun h' eb => ⟨rfl, I.turned (t' := s.toks) (fun b o hb e => eb b o hb e) f0 f1 f3 f4 f5⟩
  self := fun _ _ _ _ _ st h => wpAny_pyIter_listiter st h
theorem turn_range {P : Program} {w : World} {K : PySem.W.Frag} {tg : Expr} (it : Addr) (lo : Int) (n : Nat) : Turn P w K tg (Itr lo n) [it] it (fun i h => IsRangeIter h it (lo + (i : Nat) * 1) ((n : Int) - (i : Nat)) 1) where
  mem := by simp
  obj := fun i h st b hb => by
    have e : b = it := by simpa using hb
    subst e
    exact ⟨_, st, fun v z => by
      have z' : Data.fields _ = Data.cell v := z
      cases z'⟩
  keep := fun i h h' st k => k it (by simp) _ st
  item := by
    intro X hP hw hK hc i pins s σ H E I hf st hg
    subst hP hw hK
    obtain ⟨f0, f1, f2, f3, f4, f5⟩ := hf it (by simp)
    have W := Walks.range (prog := X.prog) (w := X.w) (I.ok.hd hc) it lo 1 n
    refine W.item i s _ _ hg st fun v h' tk hv st' kk => ?_
    obtain ⟨t, rfl⟩ := hv
    have I1 : Inv X pins σ H { s with heap := h', toks := tk } := I.turned (fun b o hb e => kk b o (by simpa using hb) e) f0 f1 f3 f4 f5
    refine ⟨_, rfl, go_of (s := { s with heap := h', toks := tk }) (n := "range_iterator") st' rfl rfl (by decide) ⟨.int (lo + i), H, I1, ⟨t, ?_⟩, ⟨rfl, rfl⟩, st', fun b hb => (hf b hb).1⟩⟩
    rw [Int.mul_one]
  done := by
    intro X hP hw hK hc i pins s σ H E I hf st hg
    subst hP hw hK
    obtain ⟨f0, f1, f2, f3, f4, f5⟩ := hf it (by simp)
    exact wpAny_pyNext_range_end (I.ok.hd hc) st (by have : n ≤ i := hg; omega) fun h' eb => ⟨rfl, I.turned (t' := s.toks) (fun b o hb e => eb b o hb e) f0 f1 f3 f4 f5⟩
  self := fun _ _ _ _ _ st h => wpAny_pyIter_rangeiter st h
end L2

namespace L2
open PySem PySem.Spec PyProof.Rows
section
variable {X : Cx} {tg : Expr}
def iList (K : PySem.W.Frag) (tl : TE) : TI := fun σ H R => tl σ H fun x H1 => ∃ a, x = .ref a ∧ (∃ xs, SqL K H1 a xs) ∧ R (Itl K a) H1
theorem pi_list {l : Expr} {tl : TE} (hl : PE X l tl) : PI X tg l (iList X.K tl) := by
  intro pins s σ H R I h
  refine thn (hl pins s σ H _ I h) fun v s1 ⟨x, H1, I1, r1, q1⟩ => ?_
  obtain ⟨a, e, ⟨xs, hq⟩, q⟩ := q1
  subst e
  cases r1
  obtain ⟨its, rv, p, hz⟩ := I1.list hq
  refine wpAny_pyIter_list p.isList ?_
  refine ⟨s1.heap.objs.size, [s1.heap.objs.size], _, _, H1, rfl, I1.kept (t' := s1.toks) fun b o e => Heap.get?_push_of_some _ e, turn_list a _, ⟨_, Heap.get?_push_size _ rfl, rfl, rfl⟩, fun b hb => ?_, q⟩
  have e : b = s1.heap.objs.size := by simpa using hb
  subst e
  exact I1.fpOk (Nat.le_refl _) (I1.hok.fresh (Nat.le_refl _))
theorem range_it {pins : List (Addr × Obj)} {σ : St} {H : Hp} {s : Shared} {R : It → Hp → Prop} {E : Value → Shared → Prop} {lo hi : Int} {t u v : Tok} {tk : Nat} (I : Inv X pins σ H s) (h1 : -(2 ^ 62) ≤ lo) (h2 : lo < 2 ^ 62) (h3 : -(2 ^ 62) ≤ hi) (h4 : hi < 2 ^ 62)
    (q : R (Itr lo (hi - lo).toNat) H) : wpAny (model X.prog X.w) X.A (pyIter (.ref s.heap.objs.size)) (PIE X pins σ tg R) E { s with heap := s.heap.push { cls := .type "range", data := .fields #[.int lo t, .int hi u, .int 1 v] }, toks := tk } := by
  refine wpAny_pyIter_range (IsRange.new ..) (small_one h1 h2 h3 h4) ?_
  have I1 : Inv X pins σ H { s with heap := s.heap.push { cls := .type "range", data := .fields #[.int lo t, .int hi u, .int 1 v] }, toks := tk } := I.kept fun b o e => Heap.get?_push_of_some _ e
  refine ⟨(s.heap.push { cls := .type "range", data := .fields #[.int lo t, .int hi u, .int 1 v] }).objs.size, [(s.heap.push { cls := .type "range", data := .fields #[.int lo t, .int hi u, .int 1 v] }).objs.size], _, _, H, rfl,
    I1.kept (t' := tk) fun b o e => Heap.get?_push_of_some _ e, turn_range _ lo (hi - lo).toNat, ?_, fun b hb => ?_, q⟩
  · have e1 : lo + ((0 : Nat) : Int) * 1 = lo := by simp
    have e2 : (((hi - lo).toNat : Nat) : Int) - ((0 : Nat) : Int) = Builtin.Range.rangeSize lo hi 1 := by rw [rangeSize_one]; split <;> omega
    show IsRangeIter _ _ (lo + ((0 : Nat) : Int) * 1) ((((hi - lo).toNat : Nat) : Int) - ((0 : Nat) : Int)) 1
    rw [e1, e2]
    exact Heap.get?_push_size _ rfl
  · have e : b = (s.heap.push { cls := .type "range", data := .fields #[.int lo t, .int hi u, .int 1 v] }).objs.size := by simpa using hb
    subst e
    exact I1.fpOk (Nat.le_refl _) (I1.hok.fresh (Nat.le_refl _))
def iRng1 (ta : TA) : TI := fun σ H R => ta σ H fun vs H1 => ∃ j : Int, vs = [.int j] ∧ -(2 ^ 62) ≤ j ∧ j < 2 ^ 62 ∧ R (Itr 0 j.toNat) H1
def iRng2 (ta : TA) : TI := fun σ H R => ta σ H fun vs H1 => ∃ i j : Int, vs = [.int i, .int j] ∧ (-(2 ^ 62) ≤ i ∧ i < 2 ^ 62 ∧ -(2 ^ 62) ≤ j ∧ j < 2 ^ 62) ∧ R (Itr i (j - i).toNat) H1
theorem pi_range1 {a : Expr} {ta : TA} {p pos : Pos} (hg : Gl X "range") (hm : X.mg "range" = none) (ha : PA X [a] ta) (hs : starEach [a] X.env = [(false, eval a X.env)] := by rfl) : PI X tg (.Call (.Name "range" p) [a] [] pos) (iRng1 ta) := by
  intro pins s σ H R I h
  refine Call_ (ld_blt I hg hm boot_range (PyProof.Rows.callWith_type1 (thn (ha pos pins s σ H _ I h) fun us s1 ⟨vs, H1, I1, r1, q1⟩ => ?_) hs rfl))
  obtain ⟨j, e, q1, q2, q⟩ := q1
  subst e
  cases r1 with
  | cons r rr =>
    cases rr
    obtain ⟨t, rfl⟩ := r
    exact call_range_1 (range_it I1 (by omega) (by omega) q1 q2 (by simpa using q))
theorem pi_range2 {a b : Expr} {ta : TA} {p pos : Pos} (hg : Gl X "range") (hm : X.mg "range" = none) (ha : PA X [a, b] ta) (hs : starEach [a, b] X.env = [(false, eval a X.env), (false, eval b X.env)] := by rfl) (hs2 : starEach [b] X.env = [(false, eval b X.env)] := by rfl) :
    PI X tg (.Call (.Name "range" p) [a, b] [] pos) (iRng2 ta) := by
  intro pins s σ H R I h
  refine Call_ (ld_blt I hg hm boot_range (PyProof.Rows.callWith_type1 (thn (ha pos pins s σ H _ I h) fun us s1 ⟨vs, H1, I1, r1, q1⟩ => ?_) (by rw [hs, hs2]) (by rw [hs2]; rfl)))
  obtain ⟨i, j, e, ⟨q1, q2, q3, q4⟩, q⟩ := q1
  subst e
  cases r1 with
  | cons r rr =>
    cases rr with
    | cons r' rr =>
      cases rr
      obtain ⟨t, rfl⟩ := r
      obtain ⟨t', rfl⟩ := r'
      exact call_range_2 (range_it I1 q1 q2 q3 q4 q)

def tFor (wi : TI) (g : TG) (tb : TS) : TS := fun D σ H => wi σ H fun J H1 => ∃ W : Nat → Nat → St → Hp → Prop, (∃ m, W 0 m σ H1) ∧ ∀ i m σ H, W i m σ H →
  (J.stop i H ∧ D.nx σ H) ∨ (J.go i H ∧ ∃ N : St → Hp → Prop, (∀ σ' H', N σ' H' → ∃ m', m' < m ∧ W (i + 1) m' σ' H') ∧ ∀ x H', J.yld i H x H' → g x σ H' fun σ2 H2 => tb { D with nx := N, ct := N, bk := D.nx } σ2 H2)
def pinsAt (fp : List Addr) (h : Heap) : List (Addr × Obj) := fp.filterMap fun b => (h.get? b).map fun o => (b, o)
theorem mem_pinsAt {fp : List Addr} {h : Heap} {b : Addr} {o : Obj} (hb : b ∈ fp) (e : h.get? b = some o) : (b, o) ∈ pinsAt fp h := List.mem_filterMap.mpr ⟨b, hb, by rw [e]; rfl⟩
theorem of_pinsAt {fp : List Addr} {h : Heap} {p : Addr × Obj} (hp : p ∈ pinsAt fp h) : p.1 ∈ fp ∧ h.get? p.1 = some p.2 := by
  obtain ⟨b, hb, e⟩ := List.mem_filterMap.mp hp
  cases q : h.get? b with
  | none => rw [q] at e; cases e
  | some o =>
    rw [q] at e
    have e' : (b, o) = p := Option.some.inj e
    subst e'
    exact ⟨hb, q⟩
theorem Inv.pinned {pins : List (Addr × Obj)} {σ : St} {H : Hp} {s : Shared} {fp : List Addr} (I : Inv X pins σ H s) (hf : ∀ b ∈ fp, FpOk X pins H b) (ho : ∀ b ∈ fp, ∃ o, s.heap.get? b = some o ∧ ∀ v, o.data ≠ .cell v) : Inv X (pins ++ pinsAt fp s.heap) σ H s :=
  I.pins_of fun p hp => (List.mem_append.mp hp).elim (fun z => I.pin p (List.mem_append_right _ z)) fun z => by
    obtain ⟨hb, e⟩ := of_pinsAt z
    obtain ⟨f0, f1, f2, _⟩ := hf p.1 hb
    obtain ⟨o, e', d⟩ := ho p.1 hb
    rw [e] at e'; cases e'
    exact ⟨e, f0, f1, f2, d⟩
theorem Inv.unpinned {pins pl : List (Addr × Obj)} {σ : St} {H : Hp} {s : Shared} (I : Inv X (pins ++ pl) σ H s) : Inv X pins σ H s := I.pins_of fun p hp => I.pin p (List.mem_append_right _ (List.mem_append_left _ hp))
theorem ps_for {iter : Expr} {body : List Stmt} {wi : TI} {g : TG} {tb : TS} {pos : Pos} (hp : PassesOwn (model X.prog X.w) X.A X.env X.xe) (hc : X.calm = true) (hi : PI X tg iter wi) (hg : PG X tg g) (hb : PSs X body tb)
    (hs : ∀ x, foldedSetIterable iter X.env x = pure x := by intro _; rfl) : PS X (.For tg iter body [] pos) (tFor wi g tb) := by
  intro pins s σ H D I h
  refine wpAny_For (thn (hi pins s σ H _ I h) fun v s1 h1 => thn h1 fun itv s2 h2 => ?_) hs
  obtain ⟨it, fp, tn, J, H2, e, I2, T, st2, f2, W, ⟨m0, w0⟩, turn⟩ := h2
  subst e
  -- what stays true of the iterator's objects through the loop
  have stat : ∀ {H' : Hp}, (∀ b ∈ fp, H' b = none) → ∀ b ∈ fp, FpOk X pins H' b := fun hn b hb => ⟨hn b hb, (f2 b hb).2⟩
  refine codeAny_forLoop_any (fun n s' => ∃ i σ' H', Inv X pins σ' H' s' ∧ tn i s'.heap ∧ (∀ b ∈ fp, H' b = none) ∧ W i n σ' H') ?_ m0 ⟨0, σ, H2, I2, st2, fun b hb => (f2 b hb).1, w0⟩
  rintro n s3 ⟨i, σ3, H3, I3, st3, fr3, w3⟩
  rcases turn i n σ3 H3 w3 with ⟨stop, qn⟩ | ⟨go, N, hN, step⟩
  · refine wpAny_passesOwn hp (thn (T.done X rfl rfl rfl hc i pins s3 σ3 H3 X.xe I3 (stat fr3) st3 stop) fun r s4 ⟨hr, I4⟩ => ?_)
    subst hr
    exact wpAny_execs_nil ⟨σ3, H3, I4, qn⟩
  · refine wpAny_passesOwn hp (thn (T.item X rfl rfl rfl hc i pins s3 σ3 H3 X.xe I3 (stat fr3) st3 go) fun r s4 ⟨u, hr, h4⟩ => ?_)
    subst hr
    refine wpAny_passesOwn hp (thn h4 fun _ s5 ⟨x, H5, I5, r5, y5, st5, fr5⟩ => ?_)
    have I5' := I5.pinned (stat fr5) (T.obj _ _ st5)
    refine wpAny_passesOwn hp (thn (hg _ s5 σ3 H5 x u _ I5' r5 (step x H5 y5)) fun _ s6 ⟨σ6, H6, I6, q6⟩ => ?_)
    refine wpAny_passesOwn hp (thn (hb _ s6 σ6 H6 _ I6 q6) fun f s7 q7 => ?_)
    have again : ∀ {σ7 : St} {H7 : Hp}, Inv X (pins ++ pinsAt fp s5.heap) σ7 H7 s7 → N σ7 H7 → ∃ m, m < n ∧ ∃ i σ' H', Inv X pins σ' H' s7 ∧ tn i s7.heap ∧ (∀ b ∈ fp, H' b = none) ∧ W i m σ' H' := fun {σ7 H7} I7 n7 => by
      obtain ⟨m', hm, w7⟩ := hN σ7 H7 n7
      refine ⟨m', hm, i + 1, σ7, H7, I7.unpinned, T.keep _ _ _ st5 fun b hb o e => (I7.pin (b, o) (List.mem_append_right _ (List.mem_append_right _ (mem_pinsAt hb e)))).1, fun b hb => ?_, w7⟩
      obtain ⟨o, e, d⟩ := T.obj _ _ st5 b hb
      exact (I7.pin (b, o) (List.mem_append_right _ (List.mem_append_right _ (mem_pinsAt hb e)))).2.1
    cases f with
    | next => obtain ⟨σ7, H7, I7, n7⟩ := q7; exact again I7 n7
    | cont => obtain ⟨σ7, H7, I7, n7⟩ := q7; exact again I7 n7
    | brk => obtain ⟨σ7, H7, I7, q7⟩ := q7; exact ⟨σ7, H7, I7.unpinned, q7⟩
    | ret v => obtain ⟨x7, σ7, H7, I7, r7, q7⟩ := q7; exact ⟨x7, σ7, H7, I7.unpinned, r7, q7⟩
end

theorem for_list {K : PySem.W.Frag} {a : Addr} {xs : List V} {g : TG} {tb : TS} {D : Ends} {σ : St} {H : Hp} (Pv : Nat → St → Hp → Prop) (h0 : Pv 0 σ H) (hl : ∀ i σ H, i ≤ xs.length → Pv i σ H → SqL K H a xs)
    (hs : ∀ i x σ H, xs[i]? = some x → Pv i σ H → g x σ H fun σ2 H2 => tb { D with nx := Pv (i + 1), ct := Pv (i + 1), bk := D.nx } σ2 H2) (hd : ∀ σ H, Pv xs.length σ H → D.nx σ H) :
    ∃ W : Nat → Nat → St → Hp → Prop, (∃ m, W 0 m σ H) ∧ ∀ i m σ H, W i m σ H →
      ((Itl K a).stop i H ∧ D.nx σ H) ∨ ((Itl K a).go i H ∧ ∃ N : St → Hp → Prop, (∀ σ' H', N σ' H' → ∃ m', m' < m ∧ W (i + 1) m' σ' H') ∧ ∀ x H', (Itl K a).yld i H x H' → g x σ H' fun σ2 H2 => tb { D with nx := N, ct := N, bk := D.nx } σ2 H2) := by
  refine ⟨fun i m σ H => m = xs.length - i ∧ i ≤ xs.length ∧ Pv i σ H, ⟨xs.length, by simp, Nat.zero_le _, h0⟩, ?_⟩
  rintro i m σ H ⟨rfl, hi, p⟩
  have q := hl i σ H hi p
  by_cases hlt : i < xs.length
  · refine .inr ⟨⟨xs, xs[i], q, by simp [hlt]⟩, Pv (i + 1), fun σ' H' p' => ⟨xs.length - (i + 1), by omega, rfl, hlt, p'⟩, fun x H' y => ?_⟩
    obtain ⟨e, y⟩ := y
    subst e
    exact hs i x σ _ (y xs q) p
  · have e : i = xs.length := by omega
    subst e
    exact .inl ⟨⟨xs, q, Nat.le_refl _⟩, hd σ H p⟩
theorem for_range {lo : Int} {n : Nat} {g : TG} {tb : TS} {D : Ends} {σ : St} {H : Hp} (Pv : Nat → St → Hp → Prop) (h0 : Pv 0 σ H)
    (hs : ∀ i σ H, i < n → Pv i σ H → g (.int (lo + i)) σ H fun σ2 H2 => tb { D with nx := Pv (i + 1), ct := Pv (i + 1), bk := D.nx } σ2 H2) (hd : ∀ σ H, Pv n σ H → D.nx σ H) :
    ∃ W : Nat → Nat → St → Hp → Prop, (∃ m, W 0 m σ H) ∧ ∀ i m σ H, W i m σ H →
      ((Itr lo n).stop i H ∧ D.nx σ H) ∨ ((Itr lo n).go i H ∧ ∃ N : St → Hp → Prop, (∀ σ' H', N σ' H' → ∃ m', m' < m ∧ W (i + 1) m' σ' H') ∧ ∀ x H', (Itr lo n).yld i H x H' → g x σ H' fun σ2 H2 => tb { D with nx := N, ct := N, bk := D.nx } σ2 H2) := by
  refine ⟨fun i m σ H => m = n - i ∧ i ≤ n ∧ Pv i σ H, ⟨n, by simp, Nat.zero_le _, h0⟩, ?_⟩
  rintro i m σ H ⟨rfl, hi, p⟩
  by_cases hlt : i < n
  · refine .inr ⟨hlt, Pv (i + 1), fun σ' H' p' => ⟨n - (i + 1), by omega, rfl, hlt, p'⟩, fun x H' y => ?_⟩
    obtain ⟨e, y⟩ := y
    subst e y
    exact hs i σ _ hlt p
  · have e : i = n := by omega
    subst e
    exact .inl ⟨Nat.le_refl _, hd σ H p⟩
end L2

namespace L2
open PySem PySem.Spec PyProof.Rows

abbrev R2 := V → V → Hp → VK → Prop
def OpR (X : Cx) (f : Value → Value → Sem Value) (r : R2) : Prop :=
  ∀ (pins : List (Addr × Obj)) (s : Shared) (σ : St) (H : Hp) (x y : V) (v u : Value) (Q : VK), Inv X pins σ H s → RelV x v → RelV y u → r x y H Q →
    wpAny (model X.prog X.w) X.A (f v u) (EP X pins σ Q) X.xe s
def UnR (X : Cx) (f : Value → Sem Value) (r : V → Hp → VK → Prop) : Prop :=
  ∀ (pins : List (Addr × Obj)) (s : Shared) (σ : St) (H : Hp) (x : V) (v : Value) (Q : VK), Inv X pins σ H s → RelV x v → r x H Q →
    wpAny (model X.prog X.w) X.A (f v) (EP X pins σ Q) X.xe s
def CallR (X : Cx) (f : Value) (r : List V → Hp → VK → Prop) : Prop :=
  ∀ (pins : List (Addr × Obj)) (s : Shared) (σ : St) (H : Hp) (xs : List V) (us : List Value) (Q : VK), Inv X pins σ H s → Vals xs us → r xs H Q →
    wpAny (model X.prog X.w) X.A (call f us) (EP X pins σ Q) X.xe s
def tOp (r : R2) (ta tb : TE) : TE := fun σ H Q => ta σ H fun x H1 => tb σ H1 fun y H2 => r x y H2 Q
def tUn (r : V → Hp → VK → Prop) (ta : TE) : TE := fun σ H Q => ta σ H fun x H1 => r x H1 Q
def rI (C : Int → Int → Prop) (g : Int → Int → V) : R2 := fun x y H Q => ∃ i j, x = .int i ∧ y = .int j ∧ C i j ∧ Q (g i j) H
def rI0 (g : Int → Int → V) : R2 := fun x y H Q => ∃ i j, x = .int i ∧ y = .int j ∧ Q (g i j) H
def rU (g : Int → V) : V → Hp → VK → Prop := fun x H Q => ∃ i, x = .int i ∧ Q (g i) H

section
variable {X : Cx} {a b c : Expr} {ta tb tc : TE} {pos : Pos}

theorem binT (ha : PE X a ta) (hb : PE X b tb) {pins : List (Addr × Obj)} {s : Shared} {σ : St} {H : Hp} {R : V → V → Hp → Prop} (I : Inv X pins σ H s)
    (h : ta σ H fun x H1 => tb σ H1 fun y H2 => R x y H2) {Q : Value → Shared → Prop} {f : Value → Value → Sem Value}
    (hf : ∀ v u s2 x y H2, Inv X pins σ H2 s2 → RelV x v → RelV y u → R x y H2 → wpAny (model X.prog X.w) X.A (f v u) Q X.xe s2) :
    wpAny (model X.prog X.w) X.A (eval a X.env) (fun v s₁ => wpAny (model X.prog X.w) X.A (eval b X.env) (fun u s₂ => wpAny (model X.prog X.w) X.A (f v u) Q X.xe s₂) X.xe s₁) X.xe s := by
  refine thn (ha pins s σ H _ I h) fun v s1 ⟨x, H1, I1, r1, q1⟩ => ?_
  refine thn (hb pins s1 σ H1 _ I1 q1) fun u s2 ⟨y, H2, I2, r2, q2⟩ => ?_
  exact hf v u s2 x y H2 I2 r1 r2 q2

theorem pe_op {op : Operator} {r : R2} (ho : OpR X (binaryOp op) r) (ha : PE X a ta) (hb : PE X b tb) : PE X (.BinOp a op b pos) (tOp r ta tb) := by
  intro pins s σ H Q I h
  exact wpAny_BinOp (binT ha hb I h fun v u s2 x y H2 I2 rx ry q => ho pins s2 σ H2 x y v u Q I2 rx ry q)
theorem pe_un {op : UnaryOp} {r : V → Hp → VK → Prop} (ho : UnR X (unaryOp op) r) (ha : PE X a ta) : PE X (.UnaryOp op a pos) (tUn r ta) := by
  intro pins s σ H Q I h
  exact UnaryOp_ (thn (ha pins s σ H _ I h) fun v s1 ⟨x, H1, I1, r1, q1⟩ => ho pins s1 σ H1 x v Q I1 r1 q1)
theorem opI {f : Value → Value → Sem Value} {C : Int → Int → Prop} {g : Int → Int → Int}
    (rule : ∀ (i j : Int) (t u : Tok) (s : Shared) (Q : Value → Shared → Prop) (E : Value → Shared → Prop), C i j → Q (.int (g i j) s.toks) { s with toks := s.toks + 1 } → wpAny (model X.prog X.w) X.A (f (.int i t) (.int j u)) Q E s) :
    OpR X f (rI C fun i j => .int (g i j)) := by
  intro pins s σ H x y v u Q I rx ry h
  obtain ⟨i, j, rfl, rfl, hc, q⟩ := h
  obtain ⟨t, rfl⟩ := rx
  obtain ⟨t', rfl⟩ := ry
  exact rule i j t t' s _ _ hc ⟨.int (g i j), H, I.tok _, ⟨_, rfl⟩, q⟩
theorem opI0 {f : Value → Value → Sem Value} {g : Int → Int → Int}
    (rule : ∀ (i j : Int) (t u : Tok) (s : Shared) (Q : Value → Shared → Prop) (E : Value → Shared → Prop), Q (.int (g i j) s.toks) { s with toks := s.toks + 1 } → wpAny (model X.prog X.w) X.A (f (.int i t) (.int j u)) Q E s) :
    OpR X f (rI0 fun i j => .int (g i j)) := by
  intro pins s σ H x y v u Q I rx ry h
  obtain ⟨i, j, rfl, rfl, q⟩ := h
  obtain ⟨t, rfl⟩ := rx
  obtain ⟨t', rfl⟩ := ry
  exact rule i j t t' s _ _ ⟨.int (g i j), H, I.tok _, ⟨_, rfl⟩, q⟩
theorem opB0 {f : Value → Value → Sem Value} {g : Int → Int → Bool}
    (rule : ∀ (i j : Int) (t u : Tok) (s : Shared) (Q : Value → Shared → Prop) (E : Value → Shared → Prop), Q (.bool (g i j)) s → wpAny (model X.prog X.w) X.A (f (.int i t) (.int j u)) Q E s) :
    OpR X f (rI0 fun i j => .bl (g i j)) := by
  intro pins s σ H x y v u Q I rx ry h
  obtain ⟨i, j, rfl, rfl, q⟩ := h
  obtain ⟨t, rfl⟩ := rx
  obtain ⟨t', rfl⟩ := ry
  exact rule i j t t' s _ _ ⟨.bl (g i j), H, I, rfl, q⟩

def CDiv (i j : Int) : Prop := 0 < j ∧ j < 1073741824
def CPow (i j : Int) : Prop := 0 ≤ j ∧ j ≤ 1000000 ∧ i.natAbs < 2 ^ 64
def CMul (i j : Int) : Prop := (-(2 ^ 64) < i ∧ i < 2 ^ 64) ∨ (-(2 ^ 64) < j ∧ j < 2 ^ 64)
theorem CMul.ok {i j : Int} (h : CMul i j) : IntMulOk i j := by
  rcases h with ⟨h1, h2⟩ | ⟨h1, h2⟩
  · exact .of_left (intBits_le_64 h1 h2)
  · exact .of_right (intBits_le_64 h1 h2)
theorem op_add : OpR X (binaryOp .Add) (rI0 fun i j => .int (i + j)) := opI0 fun _ _ _ _ _ _ _ q => add_int q
theorem op_sub : OpR X (binaryOp .Sub) (rI0 fun i j => .int (i - j)) := opI0 fun _ _ _ _ _ _ _ q => sub_int q
theorem op_mul : OpR X (binaryOp .Mult) (rI CMul fun i j => .int (i * j)) := opI fun _ _ _ _ _ _ _ hc q => mul_int q hc.ok
theorem op_fdiv : OpR X (binaryOp .FloorDiv) (rI CDiv fun i j => .int (i / j)) := opI fun i j _ _ _ _ _ hc q => by
  have h1 : (0 : Int) < j := hc.1
  have h2 : j < 1073741824 := hc.2
  exact floordiv_int (by omega) (by rw [Int.fdiv_eq_ediv_of_nonneg i (by omega)]; exact q) (.inl (PyProof.noPylong_small (by omega)))
theorem op_mod : OpR X (binaryOp .Mod) (rI (fun _ j => 0 < j) fun i j => .int (i % j)) := opI fun i j _ _ _ _ _ hc q => by
  have h1 : (0 : Int) < j := hc
  exact mod_int' (by omega) (by rw [Int.fmod_eq_emod_of_nonneg i (by omega)]; exact q)
theorem op_pow : OpR X (binaryOp .Pow) (rI CPow fun i j => .int (i ^ j.toNat)) := opI fun _ _ _ _ _ _ _ hc q => pow_int_small hc.1 hc.2.1 hc.2.2 q
theorem unI {f : Value → Sem Value} {g : Int → Int}
    (rule : ∀ (i : Int) (t : Tok) (s : Shared) (Q : Value → Shared → Prop) (E : Value → Shared → Prop), Q (.int (g i) s.toks) { s with toks := s.toks + 1 } → wpAny (model X.prog X.w) X.A (f (.int i t)) Q E s) :
    UnR X f (rU fun i => .int (g i)) := by
  intro pins s σ H x v Q I rx h
  obtain ⟨i, rfl, q⟩ := h
  obtain ⟨t, rfl⟩ := rx
  exact rule i t s _ _ ⟨.int (g i), H, I.tok _, ⟨_, rfl⟩, q⟩
theorem un_neg : UnR X (unaryOp .USub) (rU fun i => .int (-i)) := unI fun _ _ _ _ _ q => neg_int q
end

def scal : V → V → Bool
  | .non, .non => true | .non, .int _ => true | .int _, .non => true | .non, .bl _ => true | .bl _, .non => true | .non, .str _ => true | .str _, .non => true
  | .int _, .int _ => true | .bl _, .bl _ => true | .str _, .str _ => true | .byt _, .byt _ => true
  | .int _, .str _ => true | .str _, .int _ => true | .bl _, .str _ => true | .str _, .bl _ => true
  | _, _ => false
def rEq : R2 := fun x y H Q => scal x y = true ∧ Q (.bl (decide (x = y))) H
def rNe : R2 := fun x y H Q => scal x y = true ∧ Q (.bl (!decide (x = y))) H

theorem dec_int {i j : Int} : decide (V.int i = V.int j) = (i == j) := by
  rw [Bool.eq_iff_iff]
  simp
theorem dec_bl {i j : Bool} : decide (V.bl i = V.bl j) = (i == j) := by
  rw [Bool.eq_iff_iff]
  simp
theorem dec_str {i j : Str} : decide (V.str i = V.str j) = (i == j) := by
  rw [Bool.eq_iff_iff]
  simp
theorem dec_byt {i j : Array UInt8} : decide (V.byt i = V.byt j) = (i.toList == j.toList) := by
  rw [Bool.eq_iff_iff]
  cases i
  cases j
  simp

section
variable {X : Cx} {a b c : Expr} {ta tb tc : TE} {pos : Pos}
theorem fin_bl {pins : List (Addr × Obj)} {σ : St} {H : Hp} {s : Shared} {Q : VK} {k k' : Bool} (I : Inv X pins σ H s) (q : Q (.bl k) H) (e : k = k') : EP X pins σ Q (.bool k') s := by
  subst e
  exact ⟨.bl k, H, I, rfl, q⟩
theorem op_eq : OpR X (compareOp .Eq) rEq := by
  intro pins s σ H x y v u Q I rx ry h
  obtain ⟨hs, q⟩ := h
  cases x with
  | non =>
    cases rx
    cases y with
    | non => cases ry; exact PySem.EqNone.eq_none_none (fin_bl I q (by simp))
    | bl j => cases ry; exact PySem.EqNone.eq_none_bool (fin_bl I q (by simp))
    | int j => obtain ⟨t', rfl⟩ := ry; exact PySem.EqNone.eq_none_int (fin_bl I q (by simp))
    | str j => obtain ⟨t', rfl⟩ := ry; exact PySem.EqNone.eq_none_str (fin_bl I q (by simp))
    | _ => exact absurd (show false = true from hs) Bool.false_ne_true
  | bl i =>
    cases rx
    cases y with
    | non => cases ry; exact PySem.EqNone.eq_bool_none (fin_bl I q (by simp))
    | bl j => cases ry; exact eq_bool (fin_bl I q dec_bl)
    | str j => obtain ⟨t', rfl⟩ := ry; exact PySem.EqMixed.eq_bool_str (fin_bl I q (by simp))
    | _ => exact absurd (show false = true from hs) Bool.false_ne_true
  | int i =>
    obtain ⟨t, rfl⟩ := rx
    cases y with
    | non => cases ry; exact PySem.EqNone.eq_int_none (fin_bl I q (by simp))
    | int j => obtain ⟨t', rfl⟩ := ry; exact eq_int (fin_bl I q dec_int)
    | str j => obtain ⟨t', rfl⟩ := ry; exact PySem.EqMixed.eq_int_str (fin_bl I q (by simp))
    | _ => exact absurd (show false = true from hs) Bool.false_ne_true
  | str i =>
    obtain ⟨t, rfl⟩ := rx
    cases y with
    | non => cases ry; exact PySem.EqNone.eq_str_none (fin_bl I q (by simp))
    | bl j => cases ry; exact PySem.EqMixed.eq_str_bool (fin_bl I q (by simp))
    | int j => obtain ⟨t', rfl⟩ := ry; exact PySem.EqMixed.eq_str_int (fin_bl I q (by simp))
    | str j => obtain ⟨t', rfl⟩ := ry; exact eq_str (fin_bl I q dec_str)
    | _ => exact absurd (show false = true from hs) Bool.false_ne_true
  | byt i =>
    obtain ⟨t, rfl⟩ := rx
    cases y with
    | byt j => obtain ⟨t', rfl⟩ := ry; exact PySem.W.eq_bytes (fin_bl I q dec_byt)
    | _ => exact absurd (show false = true from hs) Bool.false_ne_true
  | _ => cases y <;> exact absurd (show false = true from hs) Bool.false_ne_true
theorem op_ne : OpR X (compareOp .NotEq) rNe := by
  intro pins s σ H x y v u Q I rx ry h
  obtain ⟨hs, q⟩ := h
  cases x with
  | non =>
    cases rx
    cases y with
    | non => cases ry; exact PySem.EqNone.ne_none_none (fin_bl I q (by simp))
    | bl j => cases ry; exact PySem.EqNone.ne_none_bool (fin_bl I q (by simp))
    | int j => obtain ⟨t', rfl⟩ := ry; exact PySem.EqNone.ne_none_int (fin_bl I q (by simp))
    | str j => obtain ⟨t', rfl⟩ := ry; exact PySem.EqNone.ne_none_str (fin_bl I q (by simp))
    | _ => exact absurd (show false = true from hs) Bool.false_ne_true
  | bl i =>
    cases rx
    cases y with
    | non => cases ry; exact PySem.EqNone.ne_bool_none (fin_bl I q (by simp))
    | bl j => cases ry; exact ne_bool (fin_bl I q (congrArg not dec_bl))
    | str j => obtain ⟨t', rfl⟩ := ry; exact PySem.EqMixed.ne_bool_str (fin_bl I q (by simp))
    | _ => exact absurd (show false = true from hs) Bool.false_ne_true
  | int i =>
    obtain ⟨t, rfl⟩ := rx
    cases y with
    | non => cases ry; exact PySem.EqNone.ne_int_none (fin_bl I q (by simp))
    | int j => obtain ⟨t', rfl⟩ := ry; exact ne_int (fin_bl I q (congrArg not dec_int))
    | str j => obtain ⟨t', rfl⟩ := ry; exact PySem.EqMixed.ne_int_str (fin_bl I q (by simp))
    | _ => exact absurd (show false = true from hs) Bool.false_ne_true
  | str i =>
    obtain ⟨t, rfl⟩ := rx
    cases y with
    | non => cases ry; exact PySem.EqNone.ne_str_none (fin_bl I q (by simp))
    | bl j => cases ry; exact PySem.EqMixed.ne_str_bool (fin_bl I q (by simp))
    | int j => obtain ⟨t', rfl⟩ := ry; exact PySem.EqMixed.ne_str_int (fin_bl I q (by simp))
    | str j => obtain ⟨t', rfl⟩ := ry; exact ne_str (fin_bl I q (congrArg not dec_str))
    | _ => exact absurd (show false = true from hs) Bool.false_ne_true
  | byt i =>
    obtain ⟨t, rfl⟩ := rx
    cases y with
    | byt j => obtain ⟨t', rfl⟩ := ry; exact PySem.W.ne_bytes (fin_bl I q (congrArg not dec_byt))
    | _ => exact absurd (show false = true from hs) Bool.false_ne_true
  | _ => cases y <;> exact absurd (show false = true from hs) Bool.false_ne_true

theorem op_lt : OpR X (compareOp .Lt) (rI0 fun i j => .bl (decide (i < j))) := opB0 fun _ _ _ _ _ _ _ q => lt_int q
theorem op_le : OpR X (compareOp .LtE) (rI0 fun i j => .bl (decide (i ≤ j))) := opB0 fun _ _ _ _ _ _ _ q => le_int q
theorem op_gt : OpR X (compareOp .Gt) (rI0 fun i j => .bl (decide (j < i))) := opB0 fun _ _ _ _ _ _ _ q => gt_int q
theorem nomark (b : Expr) {op : CmpOp} (h : op ≠ .In := by decide) (h2 : op ≠ .NotIn := by decide) : behindInMarks op b = false := by
  have e1 : (op == CmpOp.In) = false := by cases op <;> first | rfl | exact absurd rfl h
  have e2 : (op == CmpOp.NotIn) = false := by cases op <;> first | rfl | exact absurd rfl h2
  cases b <;> simp [behindInMarks, e1, e2]
theorem pe_cmpR {op : CmpOp} {r : R2} (ho : OpR X (compareOp op) r) (ha : PE X a ta) (hb : PE X b tb) (hm : behindInMarks op b = false) : PE X (.Compare a [op] [b] pos) (tOp r ta tb) := by
  intro pins s σ H Q I h
  exact wpAny_Compare1 (binT ha hb I h fun v u s2 x y H2 I2 rx ry q => ho pins s2 σ H2 x y v u Q I2 rx ry q) hm
def tTest (t : TE) : TT := fun σ H Q => t σ H fun x H' => ∃ k, x = .bl k ∧ Q k H'
theorem pt_cmpR {op : CmpOp} {r : R2} (ho : OpR X (compareOp op) r) (ha : PE X a ta) (hb : PE X b tb) (hm : behindInMarks op b = false) : PT X (.Compare a [op] [b] pos) (tTest (tOp r ta tb)) := by
  intro pins s σ H Q I h
  refine wpAny_isTrue_Compare1 (thn (ha pins s σ H _ I h) fun v s1 ⟨x, H1, I1, r1, q1⟩ => thn (hb pins s1 σ H1 _ I1 q1) fun u s2 ⟨y, H2, I2, r2, q2⟩ =>
    thn (ho pins s2 σ H2 x y v u _ I2 r1 r2 q2) fun c s3 ⟨z, H3, I3, r3, k, e, q3⟩ => ?_) hm
  subst e
  cases r3
  exact wpAny_truthy_bool ⟨H3, I3, q3⟩
def tChain (r r' : R2) (ta tb tc : TE) : TE := fun σ H Q => ta σ H fun x H1 => tb σ H1 fun y H2 => r x y H2 fun z H3 => ∃ k, z = .bl k ∧
  (if k = true then tc σ H3 fun w' H4 => r' y w' H4 Q else Q (.bl false) H3)
theorem pe_chain {op op' : CmpOp} {r r' : R2} (ho : OpR X (compareOp op) r) (ho' : OpR X (compareOp op') r') (ha : PE X a ta) (hb : PE X b tb) (hc : PE X c tc)
    (hm : lastMarks [op, op'] [b, c] = false := by with_unfolding_all rfl) : PE X (.Compare a [op, op'] [b, c] pos) (tChain r r' ta tb tc) := by
  intro pins s σ H Q I h
  refine Compare_chain (thn (ha pins s σ H _ I h) fun v s1 ⟨x, H1, I1, r1, q1⟩ => chain_link (thn (hb pins s1 σ H1 _ I1 q1) fun u s2 ⟨y, H2, I2, r2, q2⟩ =>
    thn (ho pins s2 σ H2 x y v u _ I2 r1 r2 q2) fun d s3 ⟨z, H3, I3, r3, k, e, q3⟩ => ?_)) hm
  subst e
  cases r3
  refine wpAny_truthy_bool ?_
  cases k with
  | false => exact ite_ff ⟨.bl false, H3, I3, rfl, q3⟩
  | true => exact ite_tt (chain_last (thn (hc pins s3 σ H3 _ I3 q3) fun w' s4 ⟨z', H4, I4, r4, q4⟩ => ho' pins s4 σ H4 y z' u w' Q I4 r2 r4 q4))
theorem line63 : (sizeLine : Nat) < 2 ^ 63 := by rw [sizeLine_eq]; decide
theorem vals1 {x : V} {us : List Value} (r : Vals [x] us) : ∃ u, us = [u] ∧ RelV x u := by
  cases r with
  | cons r1 r2 => cases r2; exact ⟨_, rfl, r1⟩
theorem vals2 {x y : V} {us : List Value} (r : Vals [x, y] us) : ∃ u w', us = [u, w'] ∧ RelV x u ∧ RelV y w' := by
  cases r with
  | cons r1 r2 =>
    cases r2 with
    | cons r3 r4 => cases r4; exact ⟨_, _, rfl, r1, r3⟩
end
end L2

namespace L2
open PySem PySem.Spec PyProof.Rows

structure ObjM (h : Heap) (x dx C : Addr) (mA : Str → Option Value) : Prop where
  obj : h.get? x = some (PySem.W.instObj C dx)
  ns : h.Ns1 dx mA
  ne : dx ≠ x

theorem lookIn_ns {h : Heap} {dx : Addr} {mA : Str → Option Value} (n : h.Ns1 dx mA) : ∃ od, h.get? dx = some od ∧ ∀ name, PySem.W.lookIn name od = some (mA name) := by
  obtain ⟨o, es, ep, ho, hd, hk, _, hm⟩ := n
  refine ⟨o, ho, fun name => ?_⟩
  have e := hm name
  unfold nsFind findBy at e
  rw [← Array.find?_toList] at e
  unfold PySem.W.lookIn
  rw [hd]
  dsimp only
  split
  · rename_i y q
    rw [q] at e
    exact congrArg some e
  · rename_i q
    rw [q] at e
    have a : es.toList.any (·.refKey) = false := by
      rw [List.any_eq_false]
      intro y hy
      obtain ⟨z, t, hkey⟩ := hk y (Array.mem_toList_iff.mp hy)
      simp [DictEntry.refKey, hkey]
    have a' : ¬ es.toList.any (·.refKey) = true := by rw [a]; exact Bool.false_ne_true
    rw [if_neg a']
    exact congrArg some e

theorem ObjM.look {h : Heap} {x dx C : Addr} {mA : Str → Option Value} (I : ObjM h x dx C mA) : ∃ od, PySem.W.InstAt h x (PySem.W.instObj C dx) C (some od) ∧ ∀ name, PySem.W.lookIn name od = some (mA name) :=
  let ⟨od, ho, hl⟩ := lookIn_ns I.ns
  ⟨od, ⟨I.obj, rfl, rfl, ho⟩, hl⟩

section
variable {prog : Program} {w : World} {A : Around} {E : Value → Shared → Prop} {s : Shared} {K : PySem.W.Frag} {x dx C f : Addr} {mA : Str → Option Value} {name : Str} {v : Value}

theorem get_map {expr : Bool} {Q : Value → Shared → Prop} (X : K.In s.heap) (I : ObjM s.heap x dx C mA) (hg : PySem.W.plainGet K C name = true) (hh : PySem.W.hasDictIn K C = true)
    (ha : PySem.W.findIn K (.ref C) name = some none) (hv : mA name = some v) (hv' : PySem.W.handedIn v = true) (h : Q v { s with toks := s.toks + 1 }) :
    wpAny (model prog w) A (getAttr (.ref x) name expr) Q E s := by
  obtain ⟨od, J, hl⟩ := I.look
  exact PySem.W.get_value X J (PySem.W.plainGet_of hg).1 (PySem.W.findObj_own hh ha rfl (by rw [hl, hv])) hv' h

theorem get_meth {pl : Sem Bool} {Q : Value × List Value → Shared → Prop} (X : K.In s.heap) (I : ObjM s.heap x dx C mA) (hg : PySem.W.plainGet K C name = true)
    (hf : PySem.W.findIn K (.ref C) name = some (some (.ref f))) (ht : PySem.W.isFn K (.ref f) = true) (hv : mA name = none) (h : Q (.ref f, [.ref x]) s) :
    wpAny (model prog w) A (getMethod (.ref x) name pl) Q E s := by
  obtain ⟨od, J, hl⟩ := I.look
  exact PySem.W.method_fn X J (PySem.W.plainGet_of hg).1 (PySem.W.plainGet_of hg).2 hf (beq_iff_eq.mp ht) (by show (PySem.W.lookIn name od).map (·.isSome) = some false; rw [hl, hv]; rfl) h

theorem set_map {ns : List Str} {Q : Unit → Shared → Prop} (X : K.In s.heap) (I : ObjM s.heap x dx C mA)
    (hs : PySem.W.findIn K (.ref C) "__setattr__" = some (some (.builtin "object.__setattr__"))) (hp : PySem.W.plainOver K C = true) (ht : PySem.W.takerIn K C name = some none) (hh : PySem.W.hasDictIn K C = true)
    (hw : PySem.Within mA ns) (hsz : ns.length ≤ sizeLine)
    (h : ∀ h', ObjM h' x dx C (fun y => if y = name then some v else mA y) → Heap.SameBut dx s.heap h' → Q () { s with heap := h', toks := s.toks + 2 }) :
    wpAny (model prog w) A (setAttr (.ref x) name v) Q E s := by
  obtain ⟨od, J, hl⟩ := I.look
  refine PySem.W.set_plain X J hs (PySem.W.osa_open (s := { s with toks := s.toks + 1 }) (r := none) X J hp ht fun b => ?_)
  obtain ⟨cd, hc, hd'⟩ := PySem.W.any_some hh
  have hx : s.heap.get? x = some ⟨.ref C, some dx, .plain, #[]⟩ := I.obj
  refine wpAny_bind (wpAny_pure (wpAny_bind (wpAny_bind (wpAny_loadPart hx (wpAny_bind (PySem.W.Looks.here (s := { s with toks := s.toks + 1 }) (PySem.W.looks_clsIn X hc) ?_))))))
  rw [hd']
  refine wpAny_pure (a := some dx) (wpAny_bind (wpAny_pure (wpAny_bind ?_)))
  refine wpAny_nsSet1 (s := { s with toks := s.toks + 1 }) I.ns fun h' hn2 hs2 => ?_
  obtain ⟨oD, esD, epD, hoD, hdD, hcD⟩ := hn2.count (PySem.Within.cons name v hw)
  refine wpAny_bind (wpAny_lookBehind hoD (by rw [hdD]; exact pastItsLine_dict (Nat.le_trans hcD (by rw [List.length_cons]; omega))) ?_)
  exact wpAny_pure (h _ ⟨(hs2.2 _ (Ne.symm I.ne)).trans I.obj, hn2, I.ne⟩ hs2)

theorem make_map {R : Result → Shared → Prop} {vs : List Value} {kw : List (Str × Value)} (X : K.In s.heap) (hm : PySem.W.makesIn K C = true)
    (hi : PySem.W.findIn K (.ref C) "__init__" = some (some (.ref f))) (hf : PySem.W.typeIn K (.ref f) = some (.type "function"))
    (h : codeAny (model prog w) (A.under (.builtin "type.__call__" ⟨.ref C :: vs, kw⟩)) (.call (.ref f) ⟨.ref (s.heap.objs.size + 1) :: vs, kw⟩) (PySem.W.InitBack (s.heap.objs.size + 1) R)
      { s with heap := (s.heap.push PySem.W.emptyDict).push (PySem.W.instObj C s.heap.objs.size) }) :
    codeAny (model prog w) A (.call (.ref C) ⟨vs, kw⟩) R s := by
  obtain ⟨hh, g, d, t, os⟩ := s
  exact PySem.W.make_core (PySem.W.makes_of X hm) (PySem.W.looks_findIn X hi) (fun self => PySem.W.bind_fn X self hf) (.inl rfl) h
end

def putF (f : Str) (v : V) : List (Str × V) → List (Str × V)
  | [] => [(f, v)]
  | (g, x) :: r => if g = f then (g, v) :: r else (g, x) :: putF f v r
theorem lookup_putF (f g : Str) (v : V) : ∀ fs : List (Str × V), (putF f v fs).lookup g = if g = f then some v else fs.lookup g
  | [] => by
    show List.lookup g [(f, v)] = _
    by_cases h : g = f
    · have hb : (g == f) = true := beq_iff_eq.mpr h
      simp only [List.lookup, hb, if_pos h]
    · have hb : (g == f) = false := beq_eq_false_iff_ne.mpr h
      simp only [List.lookup, hb, if_neg h]
  | (k, x) :: r => by
    have ih := lookup_putF f g v r
    rw [show putF f v ((k, x) :: r) = (if k = f then (k, v) :: r else (k, x) :: putF f v r) from rfl]
    by_cases hk : k = f
    · rw [if_pos hk]
      by_cases h : g = k
      · have hb : (g == k) = true := beq_iff_eq.mpr h
        simp only [List.lookup, hb, if_pos (h.trans hk)]
      · have hb : (g == k) = false := beq_eq_false_iff_ne.mpr h
        simp only [List.lookup, hb, if_neg (fun e : g = f => h (e.trans hk.symm))]
    · rw [if_neg hk]
      by_cases h : g = k
      · have hb : (g == k) = true := beq_iff_eq.mpr h
        simp only [List.lookup, hb, if_neg (fun e : g = f => hk (h.symm.trans e))]
      · have hb : (g == k) = false := beq_eq_false_iff_ne.mpr h
        simp only [List.lookup, hb]
        exact ih
theorem keys_putF (f : Str) (v : V) : ∀ fs : List (Str × V), f ∈ (putF f v fs).map (·.1) ∧ ∀ g, g ∈ fs.map (·.1) → g ∈ (putF f v fs).map (·.1)
  | [] => ⟨by simp [putF], fun g h => by simp at h⟩
  | (k, x) :: r => by
    obtain ⟨i1, i2⟩ := keys_putF f v r
    rw [show putF f v ((k, x) :: r) = (if k = f then (k, v) :: r else (k, x) :: putF f v r) from rfl]
    by_cases hk : k = f
    · rw [if_pos hk]
      subst hk
      exact ⟨by simp, fun g h => by simpa using h⟩
    · rw [if_neg hk]
      refine ⟨?_, fun g h => ?_⟩
      · rw [List.map_cons]
        exact List.mem_cons_of_mem _ i1
      · rw [List.map_cons] at h ⊢
        rcases List.mem_cons.mp h with e | e
        · exact List.mem_cons.mpr (.inl e)
        · exact List.mem_cons_of_mem _ (i2 g e)
theorem length_putF (f : Str) (v : V) : ∀ fs : List (Str × V), (putF f v fs).length ≤ fs.length + 1
  | [] => by simp [putF]
  | (k, x) :: r => by
    have ih := length_putF f v r
    rw [show putF f v ((k, x) :: r) = (if k = f then (k, v) :: r else (k, x) :: putF f v r) from rfl]
    by_cases hk : k = f
    · rw [if_pos hk, List.length_cons, List.length_cons]; omega
    · rw [if_neg hk, List.length_cons, List.length_cons]; omega

theorem RelO.some_of {v : V} {o : Option Value} (r : RelO (some v) o) : ∃ u, o = some u ∧ RelV v u := by
  cases o with
  | none => exact (show False from r).elim
  | some u => exact ⟨u, rfl, r⟩
theorem RelO.none_of {o : Option Value} (r : RelO none o) : o = none := by
  cases o with
  | none => rfl
  | some u => exact (show False from r).elim
theorem handed_of {v : V} {u : Value} (r : RelV v u) : PySem.W.handedIn u = true := by
  cases v with
  | non => cases (show u = Value.none from r); rfl
  | bl b => cases (show u = Value.bool b from r); rfl
  | int i => obtain ⟨t, e⟩ := (show ∃ t, u = Value.int i t from r); cases e; rfl
  | str x => obtain ⟨t, e⟩ := (show ∃ t, u = Value.str x t from r); cases e; rfl
  | byt b => obtain ⟨t, e⟩ := (show ∃ t, u = Value.bytes b t from r); cases e; rfl
  | flt b => obtain ⟨t, e⟩ := (show ∃ t, u = Value.float b t from r); cases e; rfl
  | ref a => cases (show u = Value.ref a from r); rfl
  | ty n => cases (show u = Value.type n from r); rfl

section
variable {P : Program} {w : World} {H H' : Hp} {h h' : Heap} {a C dx : Addr} {fs fs' : List (Str × V)}
theorem ins_get (hok : HOk P w H h) (e : H a = some (.ins C dx fs)) : ∃ mA, ObjM h a dx C mA ∧ (∀ f, RelO (fs.lookup f) (mA f)) ∧ PySem.Within mA (fs.map (·.1)) ∧ fs.length ≤ 1000 ∧ H dx = some (.own a) := by
  obtain ⟨d, z, ne, ob, mA, n, r, q⟩ := (show ObjOk P w H h a (.ins C dx fs) from hok a _ e)
  exact ⟨mA, ⟨ob, n, ne⟩, r, q, z, d⟩
end

structure Cls (K : PySem.W.Frag) (C : Addr) : Prop where
  pg : PySem.W.plainGet K C Str.empty = true
  hd : PySem.W.hasDictIn K C = true
  po : PySem.W.plainOver K C = true
  sa : PySem.W.findIn K (.ref C) "__setattr__" = some (some (.builtin "object.__setattr__"))
theorem Cls.get {K : PySem.W.Frag} {C : Addr} (c : Cls K C) (f : Str) : PySem.W.plainGet K C f = true := c.pg
def NoAttr (K : PySem.W.Frag) (C : Addr) (f : Str) : Prop := PySem.W.findIn K (.ref C) f = some none
theorem NoAttr.taker {K : PySem.W.Frag} {C : Addr} {f : Str} (n : NoAttr K C f) : PySem.W.takerIn K C f = some none := by
  unfold PySem.W.takerIn
  rw [show PySem.W.findIn K (.ref C) f = some none from n]
  rfl
structure Meth (K : PySem.W.Frag) (C : Addr) (m : Str) (f : Addr) : Prop where
  at_ : PySem.W.findIn K (.ref C) m = some (some (.ref f))
  fn : PySem.W.isFn K (.ref f) = true
  kp : PySem.W.keepIn K (.ref f) = true

section
variable {X : Cx} {pins : List (Addr × Obj)} {σ : St} {H : Hp} {s : Shared} {a C dx : Addr} {fs : List (Str × V)} {f : Str} {v : V} {A : Around} {E : Value → Shared → Prop}

theorem getattr_ok {b : Bool} {Q : Value → Shared → Prop} (I : Inv X pins σ H s) (e : H a = some (.ins C dx fs)) (c : Cls X.K C) (n : NoAttr X.K C f) (l : fs.lookup f = some v)
    (h : ∀ u s', Inv X pins σ H s' → RelV v u → Q u s') : wpAny (model X.prog X.w) A (getAttr (.ref a) f b) Q E s := by
  obtain ⟨mA, O, r, _, _, _⟩ := ins_get I.hok e
  obtain ⟨u, hu, ru⟩ := RelO.some_of (v := v) (o := mA f) (by rw [← l]; exact r f)
  exact get_map I.kIn O (c.get f) c.hd n hu (handed_of ru) (h u _ (I.tok _) ru)

theorem getmeth_ok {m : Str} {g : Addr} {pl : Sem Bool} {Q : Value × List Value → Shared → Prop} (I : Inv X pins σ H s) (e : H a = some (.ins C dx fs)) (c : Cls X.K C) (k : Meth X.K C m g) (l : fs.lookup m = none)
    (h : Q (.ref g, [.ref a]) s) : wpAny (model X.prog X.w) A (getMethod (.ref a) m pl) Q E s := by
  obtain ⟨mA, O, r, _, _, _⟩ := ins_get I.hok e
  have hn : mA m = none := RelO.none_of (by rw [← l]; exact r m)
  exact get_meth I.kIn O (c.get m) k.at_ k.fn hn h

theorem setattr_ok {y : V} {u : Value} {Q : Unit → Shared → Prop} (I : Inv X pins σ H s) (e : H a = some (.ins C dx fs)) (c : Cls X.K C) (n : NoAttr X.K C f) (hl : fs.length < 1000) (ry : RelV y u)
    (h : ∀ s', Inv X pins σ (upd H a (.ins C dx (putF f y fs))) s' → Q () s') : wpAny (model X.prog X.w) A (setAttr (.ref a) f u) Q E s := by
  obtain ⟨mA, O, r, wi, _, ho⟩ := ins_get I.hok e
  have hz : (fs.map (·.1)).length ≤ sizeLine := by rw [List.length_map, sizeLine_eq]; omega
  refine set_map I.kIn O c.sa c.po n.taker c.hd wi hz fun h' O' sb => h _ ?_
  have hd : ∃ o, h'.get? dx = some o := let ⟨o, _, _, e', _⟩ := O'.ns; ⟨o, e'⟩
  refine I.write (x := a) (e := dx) (by rw [e]; exact True.intro) (.inr ho) (fun b q hb z => (sb.2 b hb).trans z) hd ?_
  refine ⟨by rw [upd_ne O.ne]; exact ho, ?_, O.ne, O'.obj, _, O'.ns, fun g => ?_, fun g hg => ?_⟩
  · have := length_putF f y fs; omega
  · show RelO ((putF f y fs).lookup g) (if g = f then some u else mA g)
    rw [lookup_putF]
    by_cases q : g = f
    · rw [if_pos q, if_pos q]; exact ry
    · rw [if_neg q, if_neg q]; exact r g
  · by_cases q : g = f
    · rw [q]; exact (keys_putF f y fs).1
    · refine (keys_putF f y fs).2 g (wi g fun z => hg ?_)
      show (if g = f then some u else mA g) = none
      rw [if_neg q]; exact z

theorem Inv.made (I : Inv X pins σ H s) : Inv X pins σ (upd (upd H s.heap.objs.size (.own (s.heap.objs.size + 1))) (s.heap.objs.size + 1) (.ins C s.heap.objs.size []))
    { s with heap := (s.heap.push PySem.W.emptyDict).push (PySem.W.instObj C s.heap.objs.size) } := by
  have e1 : (s.heap.push PySem.W.emptyDict).get? s.heap.objs.size = some PySem.W.emptyDict := Heap.get?_push_size s.heap rfl
  have e2 : ((s.heap.push PySem.W.emptyDict).push (PySem.W.instObj C s.heap.objs.size)).get? (s.heap.objs.size + 1) = some (PySem.W.instObj C s.heap.objs.size) := by
    have := Heap.get?_push_size (s.heap.push PySem.W.emptyDict) (o := PySem.W.instObj C s.heap.objs.size) rfl
    rwa [Heap.size_push] at this
  have e3 : (s.heap.push PySem.W.emptyDict).Ns s.heap.objs.size (fun _ => none) := ⟨PySem.W.emptyDict, #[], _, e1, rfl, (fun e he => absurd he (by simp)), fun _ => rfl⟩
  have I1 := I.laid (a := s.heap.objs.size) (o := .own (s.heap.objs.size + 1)) (h' := s.heap.push PySem.W.emptyDict) (t' := s.toks) (fun b u q => Heap.get?_push_of_some _ q) (Nat.le_refl _) ⟨_, e1⟩
  refine I1.laid (a := s.heap.objs.size + 1) (o := .ins C s.heap.objs.size []) (t' := s.toks) (fun b u q => Heap.get?_push_of_some _ q) (Nat.le_of_eq (Heap.size_push _ _)) ?_
  have ne : s.heap.objs.size ≠ s.heap.objs.size + 1 := Nat.ne_of_lt (Nat.lt_succ_self _)
  refine ⟨by rw [upd_ne ne, upd_same], Nat.zero_le _, ne, e2, fun _ => none, (Heap.Ns1.of_empty e3).at fun o q => Heap.get?_push_of_some _ q, fun _ => True.intro, fun y hy => absurd rfl hy⟩

theorem attr_of {prog : Program} {w : World} {env : Env} {e : Expr} {f : Str} {pos : Pos} {s : Shared} {Q : Value → Shared → Prop} (hb : attributeBase e f env (eval e env) = eval e env)
    (h : wpAny (model prog w) A (eval e env) (fun o s₁ => wpAny (model prog w) A (getAttr o f true) Q E s₁) E s) : wpAny (model prog w) A (eval (.Attribute e f pos) env) Q E s :=
  Attribute_any_ h (by rw [arm_eval_Attribute, hb])
end

def tFld (K : PySem.W.Frag) (ta : TE) (f : Str) : TE := fun σ H Q => ta σ H fun x H1 => ∃ a C dx fs v, x = .ref a ∧ H1 a = some (.ins C dx fs) ∧ Cls K C ∧ NoAttr K C f ∧ fs.lookup f = some v ∧ Q v H1
def sFld (K : PySem.W.Frag) (ta tv : TE) (f : Str) : TS := fun D σ H => tv σ H fun y H1 => ta σ H1 fun x H2 => ∃ a C dx fs, x = .ref a ∧ H2 a = some (.ins C dx fs) ∧ Cls K C ∧ NoAttr K C f ∧ fs.length < 1000 ∧
  D.nx σ (upd H2 a (.ins C dx (putF f y fs)))
section
variable {X : Cx} {o e value : Expr} {f : Str} {pos pos' tpos : Pos} {ta tv : TE}
theorem pe_fld (he : PE X e ta) (hb : attributeBase e f X.env (eval e X.env) = eval e X.env) : PE X (.Attribute e f pos) (tFld X.K ta f) := by
  intro pins s σ H Q I h
  refine attr_of hb (thn (he pins s σ H _ I h) fun u s1 ⟨x, H1, I1, rx, a, C, dx, fs, v, ex, ea, c, n, l, q⟩ => ?_)
  subst ex
  obtain rfl : u = Value.ref a := rx
  exact getattr_ok I1 ea c n l fun u' s2 I2 ru => ⟨v, H1, I2, ru, q⟩
theorem ps_fld (ha : PE X o ta) (hv : PE X value tv) (hs : swapsWith value (some (.Attribute o f pos')) pos.line X.env = pure false) : PS X (.Assign [.Attribute o f pos'] value pos) (sFld X.K ta tv f) := by
  intro pins s σ H D I h
  refine plainObj_wpAny_Assign_Attribute (thn (hv pins s σ H _ I h) fun u s1 ⟨y, H1, I1, ry, q⟩ => thn (ha pins s1 σ H1 _ I1 q) fun ov s2 ⟨x, H2, I2, rx, a, C, dx, fs, ex, ea, c, n, l, q2⟩ => ?_) hs
  subst ex
  obtain rfl : ov = Value.ref a := rx
  exact setattr_ok I2 ea c n l ry fun s3 I3 => ⟨σ, _, I3, q2⟩
end

section
variable {X : Cx} {pins : List (Addr × Obj)} {σ : St} {H : Hp} {s : Shared} {A : Around} {E : Value → Shared → Prop} {Q : Value → Shared → Prop} {c : Value} {b : Bool}
inductive TyOf (K : PySem.W.Frag) (H : Hp) : V → Value → Prop where
  | non : TyOf K H .non (.type "NoneType")
  | bl (x : Bool) : TyOf K H (.bl x) (.type "bool")
  | int (i : Int) : TyOf K H (.int i) (.type "int")
  | str (x : Str) : TyOf K H (.str x) (.type "str")
  | flt (x : UInt64) : TyOf K H (.flt x) (.type "float")
  | lst {a : Addr} {xs : List V} (e : H a = some (.lst xs)) : TyOf K H (.ref a) (.type "list")
  | frz {a : Addr} {o : Obj} {xs : List V} (e : H a = some (.frz o (.lst xs))) : TyOf K H (.ref a) (.type "list")
  | tup {a : Addr} {xs : List V} (e : H a = some (.tup xs)) : TyOf K H (.ref a) (.type "tuple")
  | dK {a : Addr} {kvs : List (Key × V)} (e : H a = some (.dK kvs)) : TyOf K H (.ref a) (.type "dict")
  | dT {a : Addr} {kvs : List (List Key × V)} (e : H a = some (.dT kvs)) : TyOf K H (.ref a) (.type "dict")
  | ins {a C dx : Addr} {fs : List (Str × V)} (e : H a = some (.ins C dx fs)) (cl : Cls K C) (ha : PySem.W.findIn K (.ref C) "__class__" = some (some (.builtin "object.__class__")))
      (hn : PySem.W.specialIn K (.builtin "object.__class__") "__get__" = some (some (.builtin "getset_descriptor.__get__"))) (htk : PySem.W.takesIn K (.builtin "object.__class__") = some true)
      (hm : PySem.W.mroIn K C (.type "object") = some true) : TyOf K H (.ref a) (.ref C)
theorem isinst_ok {x : V} {u t : Value} (I : Inv X pins σ H s) (rx : RelV x u) (ty : TyOf X.K H x t) (e : PySem.W.kitOne X.K t c = some b) (h : ∀ tk, Q (.bool b) { s with toks := tk }) :
    wpAny (model X.prog X.w) A (call (.builtin "isinstance") [u, c]) Q E s := by
  cases ty with
  | non => cases (show u = Value.none from rx); exact PySem.W.kia_one PySem.W.kitx_none I.kIn True.intro e (fun z => nomatch z) h
  | bl y => cases (show u = Value.bool y from rx); exact PySem.W.kia_one PySem.W.kitx_bool I.kIn True.intro e (fun z => nomatch z) h
  | int i => obtain ⟨t, q⟩ := (show ∃ t, u = Value.int i t from rx); cases q; exact PySem.W.kia_one PySem.W.kitx_int I.kIn True.intro e (fun z => nomatch z) h
  | str y => obtain ⟨t, q⟩ := (show ∃ t, u = Value.str y t from rx); cases q; exact PySem.W.kia_one PySem.W.kitx_str I.kIn True.intro e (fun z => nomatch z) h
  | flt y => obtain ⟨t, q⟩ := (show ∃ t, u = Value.float y t from rx); cases q; exact PySem.W.kia_one PySem.W.kitx_float I.kIn True.intro e (fun z => nomatch z) h
  | @lst a xs ea =>
    cases (show u = Value.ref a from rx)
    obtain ⟨_, _, n, _, h1⟩ := (show ObjOk X.prog X.w H s.heap a (.lst xs) from I.hok a _ ea)
    exact PySem.W.kia_one PySem.W.kitx_list I.kIn ⟨_, h1, rfl⟩ e (fun z => nomatch z) h
  | @frz a ob xs ea =>
    cases (show u = Value.ref a from rx)
    obtain ⟨_, _, _, n, _, h1⟩ := (show ObjOk X.prog X.w H s.heap a (.frz ob (.lst xs)) from I.hok a _ ea)
    exact PySem.W.kia_one PySem.W.kitx_list I.kIn ⟨_, h1, rfl⟩ e (fun z => nomatch z) h
  | @tup a xs ea =>
    cases (show u = Value.ref a from rx)
    obtain ⟨_, _, _, p⟩ := (show ObjOk X.prog X.w H s.heap a (.tup xs) from I.hok a _ ea)
    obtain ⟨o, h1, h2, _⟩ := p
    exact PySem.W.kia_one PySem.W.kitx_tuple I.kIn ⟨o, h1, h2⟩ e (fun z => nomatch z) h
  | @dK a kvs ea =>
    cases (show u = Value.ref a from rx)
    obtain ⟨_, _, vs, _, p⟩ := (show ObjOk X.prog X.w H s.heap a (.dK kvs) from I.hok a _ ea)
    obtain ⟨o, es, ep, h1, h2, _⟩ := p
    exact PySem.W.kia_one PySem.W.kitx_dict I.kIn ⟨o, h1, h2.1⟩ e (fun z => nomatch z) h
  | @dT a kvs ea =>
    cases (show u = Value.ref a from rx)
    obtain ⟨_, _, xs, _, o, es, ep, h1, h2, _⟩ := (show ObjOk X.prog X.w H s.heap a (.dT kvs) from I.hok a _ ea)
    exact PySem.W.kia_one PySem.W.kitx_dict I.kIn ⟨o, h1, h2.1⟩ e (fun z => nomatch z) h
  | @ins a C dx fs ea cl ha hn htk hm =>
    cases (show u = Value.ref a from rx)
    obtain ⟨mA, O, _⟩ := ins_get I.hok ea
    obtain ⟨od, J, _⟩ := O.look
    exact PySem.W.kia_one (PySem.W.kitx_own (cl.get _) cl.hd ha hn htk hm) I.kIn J e (fun z => nomatch z) h
end
end L2

namespace L2
open PySem PySem.Spec PyProof.Rows

structure Room (k : Nat) (A : Around) : Prop where
  hd : A.handled = none
  dp : A.depth + 3 * k + 5 < recursionLimit
  un : A.units + 16 * k + 200 < cLine
theorem Room.mono {j k : Nat} {A : Around} (r : Room k A) (h : j ≤ k) : Room j A := ⟨r.hd, by have := r.dp; omega, by have := r.un; omega⟩
theorem Room.deeper {k : Nat} {A : Around} (r : Room (k + 1) A) (env : Env) : Room k (A.deeper env) :=
  ⟨r.hd, by have := r.dp; show A.depth + 1 + 3 * k + 5 < _; omega, by have := r.un; show A.units + 3 + 16 * k + 200 < _; omega⟩
theorem Room.in1 {k : Nat} {A : Around} (r : Room (k + 1) A) : Room k A.in1 :=
  ⟨r.hd, by have := r.dp; show A.depth + 3 * k + 5 < _; omega, by have := r.un; show A.units + 1 + 16 * k + 200 < _; omega⟩
theorem make_depth {A : Around} {C : Addr} {us : List Value} {kw : List (Str × Value)} : (A.under (.builtin "type.__call__" ⟨.ref C :: us, kw⟩)).depth = A.depth + 1 := by
  first | rfl | simp [Around.under, Code.weight, Code.isCreation, Code.isGuard, Code.isCaller, Code.frames, Code.isFrame, guardIds]
theorem make_units {A : Around} {C : Addr} {us : List Value} {kw : List (Str × Value)} : (A.under (.builtin "type.__call__" ⟨.ref C :: us, kw⟩)).units = A.units + 1 := by
  first | rfl | simp [Around.under, Code.cUnits, Code.frames, Code.isFrame]
theorem Room.make {k : Nat} {A : Around} (r : Room (k + 1) A) (C : Addr) (us : List Value) (kw : List (Str × Value)) : Room k (A.under (.builtin "type.__call__" ⟨.ref C :: us, kw⟩)) :=
  ⟨r.hd, by have := r.dp; rw [make_depth]; omega, by have := r.un; rw [make_units]; omega⟩
theorem Room.depth {k : Nat} {A : Around} (r : Room k A) : A.depth < recursionLimit := by have := r.dp; omega
theorem Room.units {k : Nat} {A : Around} (r : Room k A) : A.units + 64 < cLine := by have := r.un; omega
def tNil : TA := fun _ H Q => Q [] H
def tCons (ta : TE) (tr : TA) : TA := fun σ H Q => ta σ H fun x H1 => tr σ H1 fun xs H2 => Q (x :: xs) H2
section
variable {X : Cx} {e : Expr} {es : List Expr} {te : TE} {t : TA} {pos : Pos}
theorem pa_nil : PA X [] tNil := fun _ _ _ _ H Q I h => Calls.spliced_nil ⟨[], H, I, .nil, h⟩
theorem pa_cons (ha : PE X e te) (hr : PA X es t) (hs : starEach (e :: es) X.env = (false, eval e X.env) :: starEach es X.env := by rfl) : PA X (e :: es) (tCons te t) := by
  intro pos pins s σ H Q I h
  rw [hs]
  show wpAny _ _ (spliced ((false, eval e X.env) :: backTo pos (starEach es X.env))) _ _ s
  refine Calls.spliced_cons (thn (ha pins s σ H _ I h) fun u s1 ⟨x, H1, I1, r1, q1⟩ => ?_)
  exact thn (hr pos pins s1 σ H1 _ I1 q1) fun us s2 ⟨xs, H2, I2, r2, q2⟩ => ⟨x :: xs, H2, I2, .cons r1 r2, q2⟩

end

abbrev Sp := List V → Hp → VK → XK → Prop
abbrev CXT := List Env → Hp → Shared → XK → Value → Shared → Prop

structure Env0 (P : Program) (w : World) (K : PySem.W.Frag) (mg : Str → Option Value) (base : Heap) (A : Around) (outer : List Env) (s : Shared) (H : Hp) : Prop where
  frames : A.frames = some outer
  mod : Mod K mg base
  bs : ∀ b o, base.get? b = some o → s.heap.get? b = some o ∧ H b = none
  bsz : base.objs.size ≤ s.heap.objs.size
  funs : s.heap.FunFrames base outer
  frf : ∀ b ∈ frs outer, H b = none
  hok : HOk P w H s.heap
  bare : AllBare s.gens
def CE (outer : List Env) (P : Program) (w : World) (H : Hp) (s : Shared) (Q : VK) (u : Value) (s' : Shared) : Prop :=
  ∃ v H', s'.os = s.os ∧ AllBare s'.gens ∧ Un (frs outer) [] H H' s.heap s'.heap ∧ HOk P w H' s'.heap ∧ RelV v u ∧ Q v H'
def CR (CX : CXT) (outer : List Env) (P : Program) (w : World) (H : Hp) (s : Shared) (Q : VK) (E : XK) (r : Result) (s' : Shared) : Prop :=
  match r with
  | .ok (.ret u) => CE outer P w H s Q u s'
  | .ok _ => False
  | .error e => CX outer H s E e s'
structure FnOk (P : Program) (w : World) (K : PySem.W.Frag) (mg : Str → Option Value) (base : Heap) (CX : CXT) (k : Nat) (f : Addr) (fd : FuncData) (ps : List Str) (sp : Sp) : Prop where
  len : ∀ vs H Q E, sp vs H Q E → vs.length = ps.length
  run : ∀ (A : Around) (outer : List Env) (s : Shared) (H : Hp) (args : Args) (us : List Value) (vs : List V) (Q : VK) (E : XK), Room k A → Env0 P w K mg base A outer s H → BindsTo s fd args (ps.zip us) → Vals vs us → sp vs H Q E →
    codeAny (model P w) A (.call (.ref f) args) (CR CX outer P w H s Q E) s
theorem FnOk.mono {P : Program} {w : World} {K : PySem.W.Frag} {mg : Str → Option Value} {base : Heap} {CX : CXT} {j k : Nat} {f : Addr} {fd : FuncData} {ps : List Str} {sp : Sp} (F : FnOk P w K mg base CX j f fd ps sp) (h : j ≤ k) :
    FnOk P w K mg base CX k f fd ps sp := ⟨F.len, fun A outer s H args us vs Q E hr => F.run A outer s H args us vs Q E (hr.mono h)⟩
theorem FnOk.imp {P : Program} {w : World} {K : PySem.W.Frag} {mg : Str → Option Value} {base : Heap} {CX : CXT} {k : Nat} {f : Addr} {fd : FuncData} {ps : List Str} {sp sp' : Sp} (F : FnOk P w K mg base CX k f fd ps sp)
    (h : ∀ vs H Q E, sp' vs H Q E → sp vs H Q E) : FnOk P w K mg base CX k f fd ps sp' :=
  ⟨fun vs H Q E q => F.len vs H Q E (h _ _ _ _ q), fun A outer s H args us vs Q E hr he hb hv hs => F.run A outer s H args us vs Q E hr he hb hv (h _ _ _ _ hs)⟩

theorem Env0.make {P : Program} {w : World} {K : PySem.W.Frag} {mg : Str → Option Value} {base : Heap} {A : Around} {outer : List Env} {s : Shared} {H : Hp} (e : Env0 P w K mg base A outer s H) (C : Addr) (us : List Value) (kw : List (Str × Value)) :
    Env0 P w K mg base (A.under (.builtin "type.__call__" ⟨.ref C :: us, kw⟩)) outer s H := ⟨by first | exact e.frames | (simpa [Around.under, Code.envs, Code.isFrame, pushEnvs] using e.frames), e.mod, e.bs, e.bsz, e.funs, e.frf, e.hok, e.bare⟩
theorem Env0.in1 {P : Program} {w : World} {K : PySem.W.Frag} {mg : Str → Option Value} {base : Heap} {A : Around} {outer : List Env} {s : Shared} {H : Hp} (e : Env0 P w K mg base A outer s H) :
    Env0 P w K mg base A.in1 outer s H := ⟨e.frames, e.mod, e.bs, e.bsz, e.funs, e.frf, e.hok, e.bare⟩

section
variable {X : Cx} {pins : List (Addr × Obj)} {σ : St} {H : Hp} {s s' : Shared}
theorem Inv.env0 (I : Inv X pins σ H s) : Env0 X.prog X.w X.K X.mg X.base X.A X.stack s H :=
  ⟨I.ok.frames, I.ok.mod, I.bs, Nat.le_trans I.ok.bsz I.sz, I.stack, I.stkFree, I.hok, I.bare⟩
theorem Inv.after {Q : VK} {u : Value} (I : Inv X pins σ H s) (h : CE X.stack X.prog X.w H s Q u s') : EP X pins σ Q u s' := by
  obtain ⟨v, H', os, bare, un, hok, r, q⟩ := h
  obtain ⟨hh, g, d, t, os'⟩ := s'
  obtain rfl : os' = s.os := os
  exact ⟨v, H', I.call (h' := hh) (g' := g) (d' := d) (t' := t) (ch := []) un hok bare (fun b z => absurd z (by simp)), r, q⟩
end

def tCall (sp : Sp) (dvs : List V) (E : XK) (t : TA) : TE := fun σ H Q => t σ H fun vs H1 => sp (vs ++ dvs) H1 Q E
def tMeth (C : Addr) (m : Str) (sp : Sp) (dvs : List V) (E : XK) (ta : TE) (t : TA) : TE := fun σ H Q => ta σ H fun x H1 => ∃ a dx fs, x = .ref a ∧ H1 a = some (.ins C dx fs) ∧ fs.lookup m = none ∧
  t σ H1 fun vs H2 => sp (x :: (vs ++ dvs)) H2 Q E
def tMake (C : Addr) (sp : Sp) (dvs : List V) (E : XK) (t : TA) : TE := fun σ H Q => t σ H fun vs H1 => ∀ x dx, H1 x = none → H1 dx = none → dx ≠ x →
  sp (.ref x :: (vs ++ dvs)) (upd (upd H1 dx (.own x)) x (.ins C dx [])) (fun v H2 => v = .non ∧ Q (.ref x) H2) E

def Binds (K : PySem.W.Frag) (fd : FuncData) (ps : List Str) (ds : List Value) : Prop :=
  ∀ (s : Shared) (us : List Value), K.In s.heap → (us ++ ds).length = ps.length → BindsTo s fd ⟨us, []⟩ (ps.zip (us ++ ds))
theorem Binds.all {K : PySem.W.Frag} {fd : FuncData} {ps : List Str} (h : ∀ us : List Value, us.length = ps.length → bindArgs fd ⟨us, []⟩ = pure (ps.zip us)) : Binds K fd ps [] := fun s us _ hl => by
  rw [List.append_nil] at hl ⊢
  exact .of_eq (h us hl)

def Passes (CX : CXT) (X : Cx) (E : XK) : Prop := ∀ (pins : List (Addr × Obj)) (σ : St) (H : Hp) (s : Shared) (e : Value) (s' : Shared), Inv X pins σ H s → CX X.stack H s E e s' → X.xe e s'

section
variable {X : Cx} {CX : CXT} {k : Nat} {f C : Addr} {fd : FuncData} {ps : List Str} {sp : Sp} {dvs : List V} {ds : List Value} {E : XK} {x m : Str} {p pos apos : Pos} {e o : Expr} {es : List Expr} {ta : TE} {t : TA}

theorem run_fn {pins : List (Addr × Obj)} {σ : St} {H : Hp} {s : Shared} {Q : VK} {us : List Value} {vs : List V} (F : FnOk X.prog X.w X.K X.mg X.base CX k f fd ps sp) (hr : Room k X.A) (hb : Binds X.K fd ps ds) (hd : Vals dvs ds) (hx : Passes CX X E)
    (I : Inv X pins σ H s) (r : Vals vs us) (h : sp (vs ++ dvs) H Q E) : wpAny (model X.prog X.w) X.A (call (.ref f) us) (EP X pins σ Q) X.xe s := by
  have r2 : Vals (vs ++ dvs) (us ++ ds) := r.append hd
  have hl : (us ++ ds).length = ps.length := by rw [← r2.length]; exact F.len _ _ _ _ h
  refine wpAny_call (codeAny_mono (F.run X.A X.stack s H ⟨us, []⟩ (us ++ ds) (vs ++ dvs) Q E hr I.env0 (hb s us I.kIn hl) r2 h) fun r s' hq => ?_)
  cases r with
  | error e => exact hx pins σ H s e s' I hq
  | ok fl =>
    cases fl with
    | ret u => exact I.after hq
    | next => exact False.elim hq
    | brk => exact False.elim hq
    | cont => exact False.elim hq

theorem pe_call (F : FnOk X.prog X.w X.K X.mg X.base CX k f fd ps sp) (hr : Room k X.A) (hg : Gl X x) (hm : X.mg x = some (.ref f)) (hk : PySem.W.keepIn X.K (.ref f) = true) (hb : Binds X.K fd ps ds) (hd : Vals dvs ds) (hx : Passes CX X E)
    (ha : PA X (e :: es) t) (hdb : (x == ("__debug__" : Str)) = false := by decide) (he : starEach (e :: es) X.env = (false, eval e X.env) :: starEach es X.env := by rfl) (hpl : (backTo pos (starEach es X.env)).any (·.1) = false := by rfl) :
    PE X (.Call (.Name x p) (e :: es) [] pos) (tCall sp dvs E t) := by
  intro pins s σ H Q I h
  refine wpAny_Call_Name_kw (ld_glob I hg hm ?_ hdb)
  refine PySem.W.callWith_K (h₀ := X.base) I.ok.mod.kin hk (thn (ha pos pins s σ H _ I h) fun us s1 ⟨vs, H1, I1, r, q⟩ => ⟨I1.kIn, ?_⟩) he hpl
  exact run_fn F hr hb hd hx I1 r q
theorem pe_meth {pl : Sem Bool} (he : PE X o ta) (c : Cls X.K C) (hm : Meth X.K C m f) (F : FnOk X.prog X.w X.K X.mg X.base CX k f fd ps sp) (hr : Room k X.A) (hb : Binds X.K fd ps ds) (hd : Vals dvs ds) (hx : Passes CX X E) (ha : PA X (e :: es) t)
    (hst : starEach (e :: es) X.env = (false, eval e X.env) :: starEach es X.env := by rfl) (hpl : (backTo pos (starEach es X.env)).any (·.1) = false := by rfl)
    (ht : eval (.Call (.Attribute o m apos) (e :: es) [] pos) X.env = (do
      let ov ← eval o X.env
      standAt apos.atName
      let (f, first) ← holding [ov] (getMethod ov m pl)
      callWith pos f first (backTo pos (starEach (e :: es) X.env)) (backToKw pos (keywordEach [] X.env))) := by rfl) :
    PE X (.Call (.Attribute o m apos) (e :: es) [] pos) (tMeth C m sp dvs E ta t) := by
  intro pins s σ H Q I h
  refine PySem.W.methodCall_KW (pl := pl) (thn (he pins s σ H _ I h) fun u s1 ⟨x, H1, I1, rx, a, dx, fs, ex, ea, l, q⟩ => ?_) ht
  subst ex
  obtain rfl : u = Value.ref a := rx
  refine getmeth_ok I1 ea c hm l ?_
  refine PySem.W.callWith_K (first := [.ref a]) (h₀ := X.base) I.ok.mod.kin hm.kp (thn (ha pos pins s1 σ H1 _ I1 q) fun us s2 ⟨vs, H2, I2, r, q2⟩ => ⟨I2.kIn, ?_⟩) hst hpl
  exact run_fn (us := .ref a :: us) (vs := .ref a :: vs) F hr hb hd hx I2 (.cons rfl r) q2
structure Mk (K : PySem.W.Frag) (C f : Addr) : Prop where
  makes : PySem.W.makesIn K C = true
  init : PySem.W.findIn K (.ref C) "__init__" = some (some (.ref f))
  fn : PySem.W.isFn K (.ref f) = true
  kp : PySem.W.keepIn K (.ref C) = true

theorem run_make {pins : List (Addr × Obj)} {σ : St} {H : Hp} {s : Shared} {Q : VK} {us : List Value} {vs : List V} (M : Mk X.K C f) (F : FnOk X.prog X.w X.K X.mg X.base CX k f fd ps sp) (hr : Room (k + 1) X.A) (hb : Binds X.K fd ps ds) (hd : Vals dvs ds)
    (hx : Passes CX X E) (I : Inv X pins σ H s) (r : Vals vs us)
    (h : ∀ x dx, H x = none → H dx = none → dx ≠ x → sp (.ref x :: (vs ++ dvs)) (upd (upd H dx (.own x)) x (.ins C dx [])) (fun v H2 => v = .non ∧ Q (.ref x) H2) E) :
    wpAny (model X.prog X.w) X.A (call (.ref C) us) (EP X pins σ Q) X.xe s := by
  have hq := h (s.heap.objs.size + 1) s.heap.objs.size (I.hok.fresh (Nat.le_succ _)) (I.hok.fresh (Nat.le_refl _)) (Nat.ne_of_lt (Nat.lt_succ_self _))
  have I2 := Inv.made (C := C) I
  have r2 : Vals (V.ref (s.heap.objs.size + 1) :: (vs ++ dvs)) (Value.ref (s.heap.objs.size + 1) :: (us ++ ds)) := .cons rfl (r.append hd)
  have hl : (Value.ref (s.heap.objs.size + 1) :: us ++ ds).length = ps.length := by
    have e := r2.length
    rw [F.len _ _ _ _ hq] at e
    exact e.symm
  refine wpAny_call (make_map (f := f) I.kIn M.makes M.init (beq_iff_eq.mp M.fn) (codeAny_mono (F.run _ X.stack _ _ ⟨Value.ref (s.heap.objs.size + 1) :: us, []⟩ (Value.ref (s.heap.objs.size + 1) :: (us ++ ds)) _ _ E (hr.make C us [])
    (I2.env0.make C us []) (hb _ (Value.ref (s.heap.objs.size + 1) :: us) I2.kIn hl) r2 hq) fun r s' hq' => ?_))
  cases r with
  | error e => exact hx pins σ _ _ e s' I2 hq'
  | ok fl =>
    cases fl with
    | ret u =>
      obtain ⟨v, H', I3, rv, ev, q3⟩ := I2.after hq'
      subst ev
      exact ⟨rv, ⟨V.ref (s.heap.objs.size + 1), H', I3, rfl, q3⟩⟩
    | next => exact False.elim hq'
    | brk => exact False.elim hq'
    | cont => exact False.elim hq'
theorem pe_make (M : Mk X.K C f) (F : FnOk X.prog X.w X.K X.mg X.base CX k f fd ps sp) (hr : Room (k + 1) X.A) (hg : Gl X x) (hm : X.mg x = some (.ref C)) (hb : Binds X.K fd ps ds) (hd : Vals dvs ds) (hx : Passes CX X E)
    (ha : PA X (e :: es) t) (hdb : (x == ("__debug__" : Str)) = false := by decide) (he : starEach (e :: es) X.env = (false, eval e X.env) :: starEach es X.env := by rfl) (hpl : (backTo pos (starEach es X.env)).any (·.1) = false := by rfl) :
    PE X (.Call (.Name x p) (e :: es) [] pos) (tMake C sp dvs E t) := by
  intro pins s σ H Q I h
  refine wpAny_Call_Name_kw (ld_glob I hg hm ?_ hdb)
  refine PySem.W.callWith_K (h₀ := X.base) I.ok.mod.kin M.kp (thn (ha pos pins s σ H _ I h) fun us s1 ⟨vs, H1, I1, r, q⟩ => ⟨I1.kIn, ?_⟩) he hpl
  exact run_make M F hr hb hd hx I1 r q
end

section
variable {X : Cx} {CX : CXT} {k : Nat} {f C : Addr} {fd : FuncData} {ps ks : List Str} {sp : Sp} {E : XK} {x m : Str} {p pos apos kpos : Pos} {e o : Expr} {es : List Expr} {kws : List Keyword} {te ta : TE} {t tk : TA} {nm : Option Str}
variable {g : List Value → List Value → List Value} {gV : List V → List V → List V}
end

structure FnScope (N P : List Str) (sc : Scope) : Prop where
  kind : sc.kind = .function
  co : sc.isCoroutine = false
  gen : sc.isGenerator = false
  nd : N.Nodup
  pre : N.take P.length = P
  par : ∀ x ∈ P, sc.names.lookup x = some .local ∨ sc.names.lookup x = some .cell
  nofree : ∀ y ∈ sc.names, y.2 ≠ .free

theorem bindL_out {kindOf : Str → Option NameKind} {x : Str} : ∀ {binds : List (Str × Value)} {m : Str → Option Value}, (∀ v, (x, v) ∉ binds) → bindL kindOf binds m x = m x
  | [], _, _ => rfl
  | (n, v) :: r, m, h => by
    unfold bindL
    rw [bindL_out fun w hw => h w (List.mem_cons_of_mem _ hw)]
    split
    · have : x ≠ n := by rintro rfl; exact h v List.mem_cons_self
      simp [this]
    · rfl
theorem bindC_out {kindOf : Str → Option NameKind} {x : Str} : ∀ {binds : List (Str × Value)} {m : Str → Option Value}, (∀ v, (x, v) ∉ binds) → bindC kindOf binds m x = m x
  | [], _, _ => rfl
  | (n, v) :: r, m, h => by
    unfold bindC
    rw [bindC_out fun w hw => h w (List.mem_cons_of_mem _ hw)]
    split
    · rfl
    · have : x ≠ n := by rintro rfl; exact h v List.mem_cons_self
      simp [this]
theorem bindL_get {kindOf : Str → Option NameKind} {x : Str} {v : Value} : ∀ {P : List Str} {vs : List Value} {i : Nat} {m : Str → Option Value}, P.Nodup → P[i]? = some x → vs[i]? = some v → kindOf x = some .local →
    bindL kindOf (P.zip vs) m x = some v
  | [], _, _, _, _, h, _, _ => by simp at h
  | _ :: _, [], _, _, _, _, h, _ => by simp at h
  | p :: P, w :: vs, 0, m, nd, h1, h2, hk => by
    simp at h1 h2; subst h1; subst h2
    show bindL kindOf ((p, w) :: P.zip vs) m p = _
    unfold bindL
    rw [bindL_out fun v hv => (List.nodup_cons.mp nd).1 (List.of_mem_zip hv).1, if_pos hk]
    simp
  | p :: P, w :: vs, i + 1, m, nd, h1, h2, hk => by
    show bindL kindOf ((p, w) :: P.zip vs) m x = _
    unfold bindL
    exact bindL_get (i := i) (List.nodup_cons.mp nd).2 (by simpa using h1) (by simpa using h2) hk
theorem bindC_get {kindOf : Str → Option NameKind} {x : Str} {v : Value} : ∀ {P : List Str} {vs : List Value} {i : Nat} {m : Str → Option Value}, P.Nodup → P[i]? = some x → vs[i]? = some v → kindOf x ≠ some .local →
    bindC kindOf (P.zip vs) m x = some v
  | [], _, _, _, _, h, _, _ => by simp at h
  | _ :: _, [], _, _, _, _, h, _ => by simp at h
  | p :: P, w :: vs, 0, m, nd, h1, h2, hk => by
    simp at h1 h2; subst h1; subst h2
    show bindC kindOf ((p, w) :: P.zip vs) m p = _
    unfold bindC
    rw [bindC_out fun v hv => (List.nodup_cons.mp nd).1 (List.of_mem_zip hv).1, if_neg hk]
    simp
  | p :: P, w :: vs, i + 1, m, nd, h1, h2, hk => by
    show bindC kindOf ((p, w) :: P.zip vs) m x = _
    unfold bindC
    exact bindC_get (i := i) (List.nodup_cons.mp nd).2 (by simpa using h1) (by simpa using h2) hk

def start (N : List Str) (vs : List V) : St := vs.map some ++ List.replicate (N.length - vs.length) none

def cxOf (CX : CXT) (P : Program) (w : World) (K : PySem.W.Frag) (mg : Str → Option Value) (base : Heap) (N : List Str) (qual : Str) (scope : Scope) (f : Addr) (cd : Value) (A : Around) (outer : List Env) (s : Shared) (H : Hp) (E : XK) : Cx where
  prog := P
  w := w
  K := K
  mg := mg
  base := base
  A := A.deeper (envOfC qual scope s.heap.objs.size f cd)
  N := N
  s₀ := s
  H₀ := H
  env := envOfC qual scope s.heap.objs.size f cd
  outer := outer
  stack := envOfC qual scope s.heap.objs.size f cd :: outer
  ex := []
  calm := true
  fn := fun _ => true
  pn := []
  xe := fun e s' => wpAny (model P w) (A.deeper (envOfC qual scope s.heap.objs.size f cd)) (leaving (envOfC qual scope s.heap.objs.size f cd) e) (fun _ s'' => CX outer H s E e s'') (fun e' s'' => CX outer H s E e' s'') s'

theorem cell_has {sc : Scope} {n : Nat} {x : Str} (h : sc.names.lookup x = some .cell) : ∃ c, (cellsFrom n sc.names []).lookup x = some c := by
  have q := PySem.W.cellsFrom_some sc.names n [] (.inl h)
  exact Option.isSome_iff_exists.mp q

theorem inv_start {CX : CXT} {P : Program} {w : World} {K : PySem.W.Frag} {mg : Str → Option Value} {base : Heap} {N ps : List Str} {qual : Str} {scope : Scope} {f : Addr} {cd : Value} {A : Around} {outer : List Env} {s s1 : Shared} {H : Hp} {E : XK} {us : List Value} {vs : List V}
    (S : FnScope N ps scope) (hd : A.handled = none) (e0 : Env0 P w K mg base A outer s H) (hl : vs.length = ps.length) (r : Vals vs us)
    (x : InCallC s s.heap.objs.size (bindL (envOfC qual scope s.heap.objs.size f cd).kindOf (ps.zip us) fun _ => none) (cellsFrom (s.heap.objs.size + 1) scope.names []) (bindC (envOfC qual scope s.heap.objs.size f cd).kindOf (ps.zip us) fun _ => none) s1) :
    Inv (cxOf CX P w K mg base N qual scope f cd A outer s H E) [] (start N vs) H s1 := by
  have hpl : ps.length ≤ N.length := by have := congrArg List.length S.pre; rw [List.length_take] at this; omega
  obtain ⟨h1, tk, rfl, hk⟩ := x.done
  have noA : ∀ b : Addr, b ∉ (cxOf CX P w K mg base N qual scope f cd A outer s H E).ex := fun b z => absurd (show b ∈ ([] : List Addr) from z) (by simp)
  refine ⟨⟨e0.mod, S.kind, rfl, rfl, Nat.le_refl _, fun y z c h1 h2 => ?_, fun y hy => ?_, fun y c _ h => ?_, fun _ => hd, Around.frames_deeper e0.frames, .inr ⟨rfl, rfl⟩, fun b z => absurd z (noA b), e0.bs, e0.bsz, fun b _ _ => noA b, fun b z => absurd z (noA b), e0.funs, e0.frf⟩,
    rfl, e0.bare, Un.kept hk, ⟨_, x.toInCall.ns, fun i y v h1 h2 h3 => ?_⟩, fun y c h => ⟨_, x.cell y c h⟩, e0.hok.fresh (Nat.le_refl _), fun y c h => ?_, fun p hp => absurd (show p ∈ ([] : List (Addr × Obj)) from hp) (by simp), e0.hok.kept hk, ?_⟩
  · exact name_of_addr x.apart (PySem.mem_of_lookup h1) (PySem.mem_of_lookup h2)
  · have hy : scope.names.lookup y = some .cell ∨ scope.names.lookup y = some .free := hy
    rcases hy with hy | hy
    · exact cell_has hy
    · exact absurd rfl (S.nofree _ (PySem.mem_of_lookup hy))
  · exact Nat.le_of_lt (x.above y c (PySem.mem_of_lookup h))
  · have hi : i < vs.length := by
      unfold start at h2
      by_cases hi : i < vs.length
      · exact hi
      · rw [List.getElem?_append_right (by simpa using hi)] at h2
        rw [List.getElem?_replicate] at h2
        split at h2 <;> cases h2
    have ha : vs[i]? = some v := by
      unfold start at h2
      rw [List.getElem?_append_left (by simpa using hi), List.getElem?_map] at h2
      cases e : vs[i]? with
      | none => rw [e] at h2; cases h2
      | some a => rw [e] at h2; cases h2; rfl
    obtain ⟨u, hu, rv⟩ := r.get ha
    have hp : ps[i]? = some y := by
      rw [← S.pre, List.getElem?_take_of_lt (by omega)]; exact h1
    have ndP : ps.Nodup := by rw [← S.pre]; exact S.nd.sublist (List.take_sublist _ _)
    refine ⟨u, rv, ?_⟩
    rcases S.par y (List.mem_of_getElem? hp) with k | k
    · exact .inl ⟨k, bindL_get ndP hp hu k⟩
    · obtain ⟨c, e⟩ := cell_has (n := s.heap.objs.size + 1) k
      refine .inr ⟨.inl k, c, e, ?_⟩
      have q := x.cell y c e
      rw [bindC_get ndP hp hu (by show scope.names.lookup y ≠ _; rw [k]; decide)] at q
      exact q
  · exact e0.hok.fresh (Nat.le_of_lt (x.above y c (PySem.mem_of_lookup h)))
  · unfold start
    show _ = N.length
    rw [List.length_append, List.length_map, List.length_replicate]
    omega

theorem fn_of {CX : CXT} {P : Program} {w : World} {K : PySem.W.Frag} {mg : Str → Option Value} {base : Heap} {k : Nat} {f : Addr} {name qual : Str} {params : Arguments} {body : List Stmt} {scope : Scope} {dV kV doc pm cdv ct oc : Value} {an od : Option Addr}
    {osl : Array (Option Value)} {N ps : List Str} {sp : Sp} (lk : K.lookup f = some ⟨oc, od, .func (PySem.W.fnOf name qual params body scope dV kV doc pm an cdv ct), osl⟩) (hcd : PySem.W.codeIn K cdv qual = true) (S : FnScope N ps scope)
    (len : ∀ vs H Q E, sp vs H Q E → vs.length = ps.length)
    (hbody : ∀ (A : Around) (outer : List Env) (s : Shared) (H : Hp) (vs : List V) (Q : VK) (E : XK), Room k (A.deeper (envOfC qual scope s.heap.objs.size f cdv)) → sp vs H Q E →
      ∃ t, PSs (cxOf CX P w K mg base N qual scope f cdv A outer s H E) body t ∧ t { nx := fun _ H' => Q .non H', rt := Q } (start N vs) H) :
    FnOk P w K mg base CX (k + 1) f (PySem.W.fnOf name qual params body scope dV kV doc pm an cdv ct) ps sp := by
  refine ⟨len, fun A outer s H args us vs Q E hr e0 hb r hsp => ?_⟩
  have hl := len _ _ _ _ hsp
  have KX : K.In s.heap := e0.mod.kin.keeps fun b o e => (e0.bs b o e).1
  have lim : s.heap.NoLimit := e0.mod.nolimit.keeps fun b o e => (e0.bs b o e).1
  have hkind : ∀ y ∈ ps.zip us, scope.names.lookup y.1 = some .local ∨ (scope.names.lookup y.1 = some .cell ∧ ((cellsFrom (s.heap.objs.size + 1) scope.names []).lookup y.1).isSome = true) := fun ⟨n, v⟩ hy => by
    rcases S.par n (List.of_mem_zip hy).1 with q | q
    · exact .inl q
    · exact .inr ⟨q, PySem.W.cellsFrom_some _ _ _ (.inl q)⟩
  refine codeAny_call_function hr.depth (KX _ _ lk) rfl S.co S.gen rfl (PySem.W.codeRec_of KX hcd) (hb _ _ _ _ ?_)
  refine wpAny_newFunctionEnv_cells S.kind hkind fun env he s1 x => ?_
  subst he
  refine ⟨lim.keeps x.toInCall.keep, codeAny_func ?_⟩
  obtain ⟨t, ht, hq⟩ := hbody A outer s H vs Q E (hr.deeper _) hsp
  have I : Inv (cxOf CX P w K mg base N qual scope f cdv A outer s H E) [] (start N vs) H s1 := inv_start S hr.hd e0 hl r x
  refine wpAny_mono (ht [] s1 (start N vs) H _ I hq) (fun fl s' hs => ?_) fun e s' hs => hs
  have fin : ∀ {σ' : St} {H' : Hp} {v : V} {u : Value}, Inv (cxOf CX P w K mg base N qual scope f cdv A outer s H E) [] σ' H' s' → RelV v u → Q v H' → CE outer P w H s Q u s' :=
    fun {σ' H' v u} J rv q => ⟨v, H', J.os, J.bare, J.base, J.hok, rv, q⟩
  cases fl with
  | ret u =>
    obtain ⟨v, σ', H', J, rv, q⟩ := hs
    exact fin J rv q
  | next =>
    obtain ⟨σ', H', J, q⟩ := hs
    exact fin (v := V.non) (u := Value.none) J rfl q
  | brk =>
    obtain ⟨_, _, _, q⟩ := hs
    exact False.elim q
  | cont =>
    obtain ⟨_, _, _, q⟩ := hs
    exact False.elim q
end L2

namespace L2
open PySem PySem.Spec PyProof.Rows
section
variable {X : Cx} {x : Str} {p pos : Pos} {e : Expr} {es : List Expr} {t : TA} {id T : String} {r : List V → Hp → VK → Prop}

def tCB (r : List V → Hp → VK → Prop) (t : TA) : TE := fun σ H Q => t σ H fun vs H1 => r vs H1 Q
theorem pe_callB (hc : CallR X (.builtin id) r) (hg : Gl X x) (hm : X.mg x = none) (hv : bootBuiltins x = some (.builtin id)) (ha : PA X (e :: es) t) (hn : x ≠ "__name__" := by decide) (hdb : (x == ("__debug__" : Str)) = false := by decide)
    (he : starEach (e :: es) X.env = (false, eval e X.env) :: starEach es X.env := by rfl) (hpl : (backTo pos (starEach es X.env)).any (·.1) = false := by rfl) : PE X (.Call (.Name x p) (e :: es) [] pos) (tCB r t) := by
  intro pins s σ H Q I h
  refine wpAny_Call_Name_kw (ld_blt I hg hm hv ?_ hn hdb)
  exact PyProof.Rows.callWith_builtin1 (thn (ha pos pins s σ H _ I h) fun us s1 ⟨vs, H1, I1, r1, q1⟩ => hc pins s1 σ H1 vs us Q I1 r1 q1) he hpl
theorem pe_callTy (hc : CallR X (.type T) r) (hg : Gl X x) (hm : X.mg x = none) (hv : bootBuiltins x = some (.type T)) (ha : PA X (e :: es) t) (hn : x ≠ "__name__" := by decide) (hdb : (x == ("__debug__" : Str)) = false := by decide)
    (he : starEach (e :: es) X.env = (false, eval e X.env) :: starEach es X.env := by rfl) (hpl : (backTo pos (starEach es X.env)).any (·.1) = false := by rfl) : PE X (.Call (.Name x p) (e :: es) [] pos) (tCB r t) := by
  intro pins s σ H Q I h
  refine wpAny_Call_Name_kw (ld_blt I hg hm hv ?_ hn hdb)
  exact PyProof.Rows.callWith_type1 (thn (ha pos pins s σ H _ I h) fun us s1 ⟨vs, H1, I1, r1, q1⟩ => hc pins s1 σ H1 vs us Q I1 r1 q1) he hpl
end
end L2

namespace HT
open PySem PyProof.Rows

section
open PySem.SeqAt
open PySem.AutoSeq1 (wpAny_loadPart')
open PySem.MeetsSeq PySem.MeetsSeq2 PySem.MeetsSeq3

end

section
variable {prog : Program} {w : World} {A : Around} {E : Value → Shared → Prop} {s : Shared}

def sIx (n d : Nat) : Option Int → Nat
  | none => d
  | some v => if v < 0 then (v + (n : Int)).toNat else min v.toNat n
end
end HT

namespace L2
open PySem PySem.Spec PyProof.Rows

abbrev TO := St → Hp → (Option Int → Hp → Prop) → Prop
def PO (X : Cx) (e : Option Expr) (t : TO) : Prop :=
  ∀ (pins : List (Addr × Obj)) (s : Shared) (σ : St) (H : Hp) (Q : Option Int → Hp → Prop), Inv X pins σ H s → t σ H Q →
    wpAny (model X.prog X.w) X.A (evalPart e X.env) (fun u s' => ∃ o H', Inv X pins σ H' s' ∧ IsPart u o ∧ Q o H') X.xe s
def tNoPart : TO := fun _ H Q => Q none H
def tPart (t : TE) : TO := fun σ H Q => t σ H fun x H1 => ∃ i, x = .int i ∧ Q (some i) H1

section
variable {X : Cx} {e : Expr} {te : TE} {lo hi : Option Expr} {tl th : TO} {pos p2 : Pos}

theorem po_none : PO X none tNoPart := by
  intro pins s σ H Q I h
  rw [evalPart_none]
  exact wpAny_pure ⟨none, H, I, .none, h⟩
theorem po_some (h : PE X e te) : PO X (some e) (tPart te) := by
  intro pins s σ H Q I hw
  rw [evalPart_some]
  refine thn (h pins s σ H _ I hw) fun u s1 ⟨x, H1, I1, r1, q1⟩ => ?_
  obtain ⟨i, rfl, q⟩ := q1
  obtain ⟨t, rfl⟩ := r1
  exact ⟨some i, H1, I1, .int i t, q⟩

def SlR (X : Cx) (r : V → Option Int → Option Int → Hp → VK → Prop) : Prop :=
  ∀ (pins : List (Addr × Obj)) (s : Shared) (σ : St) (H : Hp) (x : V) (v vl vu : Value) (lo hi : Option Int) (sl : Addr) (Q : VK), Inv X pins σ H s → RelV x v → s.heap.IsSliceOf sl vl vu .none → IsPart vl lo → IsPart vu hi → r x lo hi H Q →
    ∃ T id, typeLookup (.type T) "__getitem__" = pure (some (.builtin id)) ∧ s.TypeIs v T ∧ wpAny (model X.prog X.w) X.A (getItem v (.ref sl)) (EP X pins σ Q) X.xe s
def tSl (r : V → Option Int → Option Int → Hp → VK → Prop) (te : TE) (tl th : TO) : TE := fun σ H Q => te σ H fun x H1 => tl σ H1 fun l H2 => th σ H2 fun u H3 => r x l u H3 Q
theorem pe_slice {r : V → Option Int → Option Int → Hp → VK → Prop} (hr : SlR X r) (he : PE X e te) (hl : PO X lo tl) (hu : PO X hi th) : PE X (.Subscript e (.Slice lo hi none p2) pos) (tSl r te tl th) := by
  intro pins s σ H Q I h
  refine Subscript_ (thn (he pins s σ H _ I h) fun v s1 ⟨x, H1, I1, r1, q1⟩ => ?_)
  refine wpAny_Slice (thn (hl pins s1 σ H1 _ I1 q1) fun vl s2 ⟨l, H2, I2, pl, q2⟩ => thn (hu pins s2 σ H2 _ I2 q2) fun vu s3 ⟨u, H3, I3, pu, q3⟩ => ?_)
  rw [evalPart_none]
  refine wpAny_pure ?_
  have I4 : Inv X pins σ H3 { s3 with heap := s3.heap.push { cls := .type "slice", data := .fields #[vl, vu, .none] } } := I3.kept (t' := s3.toks) fun b ob q => Heap.get?_push_of_some _ q
  obtain ⟨T, id, hT, ht, hg⟩ := hr pins { s3 with heap := s3.heap.push { cls := .type "slice", data := .fields #[vl, vu, .none] } } σ H3 x v vl vu l u s3.heap.objs.size Q I4 r1 (Heap.IsSliceOf.new ..) pl pu q3
  show wpAny (model X.prog X.w) X.A (subscriptTail e (.Slice lo hi none p2) v (.ref s3.heap.objs.size)) (EP X pins σ Q) X.xe { s3 with heap := s3.heap.push { cls := .type "slice", data := .fields #[vl, vu, .none] } }
  exact tail_any (ops := [.ref s3.heap.objs.size, v]) ht hT hg (by with_unfolding_all rfl)

def cutV (xs : List V) (lo hi : Option Int) : List V := (xs.drop (HT.sIx xs.length 0 lo)).take (HT.sIx xs.length xs.length hi - HT.sIx xs.length 0 lo)
theorem cutV_length (xs : List V) (lo hi : Option Int) : (cutV xs lo hi).length ≤ xs.length := by
  unfold cutV
  rw [List.length_take, List.length_drop]
  omega
end
end L2

namespace L2
open PySem PySem.Spec PyProof.Rows

def ixN (n : Nat) (i : Int) : Option Nat := if 0 ≤ i then (if i < n then some i.toNat else none) else if -(n : Int) ≤ i then some (i + n).toNat else none
def atI {α : Type} (xs : List α) (i : Int) : Option α := (ixN xs.length i).bind fun j => xs[j]?
theorem ixN_seq {n : Nat} {i : Int} {j : Nat} (h : ixN n i = some j) : seqIndex? i n = some j ∧ j < n ∧ -(n : Int) ≤ i ∧ i < n := by
  unfold ixN at h
  by_cases h0 : 0 ≤ i
  · rw [if_pos h0] at h
    by_cases h1 : i < n
    · rw [if_pos h1] at h
      have e : i.toNat = j := Option.some.inj h
      exact ⟨by rw [seqIndex_of h0 h1, e], by omega, by omega, h1⟩
    · rw [if_neg h1] at h; cases h
  · rw [if_neg h0] at h
    by_cases h1 : -(n : Int) ≤ i
    · rw [if_pos h1] at h
      have e : (i + n).toNat = j := Option.some.inj h
      exact ⟨by rw [seqIndex_neg (by omega) h1, e], by omega, h1, by omega⟩
    · rw [if_neg h1] at h; cases h
theorem atI_get {α : Type} {xs : List α} {i : Int} {v : α} (h : atI xs i = some v) : ∃ j, seqIndex? i xs.length = some j ∧ xs[j]? = some v ∧ j < xs.length ∧ -(xs.length : Int) ≤ i ∧ i < xs.length := by
  unfold atI at h
  cases e : ixN xs.length i with
  | none => rw [e] at h; cases h
  | some j =>
    rw [e] at h
    obtain ⟨h1, h2, h3, h4⟩ := ixN_seq e
    exact ⟨j, h1, h, h2, h3, h4⟩
theorem atI_nat {α : Type} {xs : List α} {j : Nat} {v : α} (h : xs[j]? = some v) : atI xs (j : Int) = some v := by
  have hj : j < xs.length := (List.getElem?_eq_some_iff.mp h).1
  have e : ixN xs.length (j : Int) = some j := by
    unfold ixN
    rw [if_pos (by omega), if_pos (by omega)]; simp
  unfold atI; rw [e]; exact h
theorem atI_last {α : Type} (xs : List α) (v : α) : atI (xs ++ [v]) (-1) = some v := by
  have hl : (xs ++ [v]).length = xs.length + 1 := by simp
  have e : ixN (xs ++ [v]).length (-1) = some xs.length := by
    unfold ixN
    rw [hl, if_neg (by decide), if_pos (by omega)]
    congr 1
    omega
  unfold atI
  rw [e]
  show (xs ++ [v])[xs.length]? = some v
  simp

def PlainIx (b : Expr) : Prop := ∀ o i, subscripted b false o i = operate [o, i] (getItem o i)
def IxR (X : Cx) (r : R2) : Prop :=
  ∀ (value slice : Expr) (pins : List (Addr × Obj)) (s : Shared) (σ : St) (H : Hp) (x y : V) (v u : Value) (Q : VK), Inv X pins σ H s → RelV x v → RelV y u → r x y H Q →
    subscripted slice false v u = operate [v, u] (getItem v u) → wpAny (model X.prog X.w) X.A (subscriptTail value slice v u) (EP X pins σ Q) X.xe s
def MtR (X : Cx) (id : String) (r : V → List V → Hp → VK → Prop) : Prop :=
  ∀ (pins : List (Addr × Obj)) (s : Shared) (σ : St) (H : Hp) (x : V) (xs : List V) (v : Value) (us : List Value) (Q : VK), Inv X pins σ H s → RelV x v → Vals xs us → r x xs H Q →
    wpAny (model X.prog X.w) X.A (call (.builtin id) (v :: us)) (EP X pins σ Q) X.xe s
section
variable {X : Cx} {a b : Expr} {ta tb : TE} {pos : Pos}
theorem pe_ix {r : R2} (hr : IxR X r) (ha : PE X a ta) (hb : PE X b tb) (hs : PlainIx b) : PE X (.Subscript a b pos) (tOp r ta tb) := by
  intro pins s σ H Q I h
  exact Subscript_ (binT ha hb I h fun v u s2 x y H2 I2 rx ry q => hr a b pins s2 σ H2 x y v u Q I2 rx ry q (hs _ _))

def rIxL (K : PySem.W.Frag) : R2 := fun x y H Q => ∃ p xs i v, x = .ref p ∧ y = .int i ∧ SqL K H p xs ∧ atI xs i = some v ∧ Q v H
def rIxT (K : PySem.W.Frag) : R2 := fun x y H Q => ∃ p xs i v, x = .ref p ∧ y = .int i ∧ SqT K H p xs ∧ atI xs i = some v ∧ Q v H
theorem ix_list : IxR X (rIxL X.K) := by
  intro value slice pins s σ H x y v u Q I rx ry h hs
  obtain ⟨p, xs, i, z, rfl, rfl, hq, he, q⟩ := h
  cases rx
  obtain ⟨t, rfl⟩ := ry
  obtain ⟨its, r, pl, hz⟩ := I.list hq
  obtain ⟨j, h1, h2, h3, h4, h5⟩ := atI_get he
  obtain ⟨w, ew, rw'⟩ := r.get h2
  have hl := r.length
  have hn := line63
  have fin : EP X pins σ Q w s := ⟨z, H, I, rw', q⟩
  by_cases h0 : 0 ≤ i
  · have hj : i.toNat = j := by
      rw [seqIndex_of h0 h5] at h1
      exact Option.some.inj h1
    exact item_listR pl.isList h0 (by omega) (by rw [hj]; simpa using ew) fin hs
  · have hj : (i + (its.toArray.size : Int)).toNat = j := by
      rw [seqIndex_neg (by omega) h4] at h1
      rw [List.size_toArray, ← hl]
      exact Option.some.inj h1
    exact subscriptTail_builtinR (x := w) pl.isList.typeIs slot_list_getitem.lookup
      (wpAny_getItem_list_neg (Q := fun r s' => r = w ∧ EP X pins σ Q r s') pl.isList (by omega) (by rw [List.size_toArray] <;> omega) (by omega) (by rw [hj]; simpa using ew) ⟨rfl, fin⟩) hs
theorem ix_tup : IxR X (rIxT X.K) := by
  intro value slice pins s σ H x y v u Q I rx ry h hs
  obtain ⟨p, xs, i, z, rfl, rfl, hq, he, q⟩ := h
  cases rx
  obtain ⟨t, rfl⟩ := ry
  obtain ⟨its, r, pl, hz⟩ := I.tuple hq
  obtain ⟨j, h1, h2, h3, h4, h5⟩ := atI_get he
  obtain ⟨w, ew, rw'⟩ := r.get h2
  have hl := r.length
  have hn := line63
  have fin : EP X pins σ Q w s := ⟨z, H, I, rw', q⟩
  exact subscriptTail_builtinR (x := w) pl.typeIs slot_tuple_getitem.lookup
    (getItem_tuple (j := j) (Q := fun r s' => r = w ∧ EP X pins σ Q r s') pl (by omega) (by omega) (by rw [List.size_toArray, ← hl]; exact h1) (by simpa using ew) ⟨rfl, fin⟩) hs
theorem Inv.lst {pins : List (Addr × Obj)} {σ : St} {H : Hp} {s : Shared} {p : Addr} {xs : List V} (I : Inv X pins σ H s) (h : H p = some (.lst xs)) :
    ∃ (its : List Value) (n : Nat), Vals xs its ∧ s.heap.get? p = some { cls := .type "list", data := .seq its.toArray n } ∧ xs.length ≤ sizeLine := by
  obtain ⟨z, its, n, r, e⟩ := I.hok p _ h
  exact ⟨its, n, r, e, z⟩
theorem slice_bounds (lo hi : Option Int) (n : Nat) : (sliceBounds lo hi none n).1 = ((HT.sIx n 0 lo : Nat) : Int) ∧ (sliceBounds lo hi none n).2.1 = ((HT.sIx n n hi : Nat) : Int) ∧ (sliceBounds lo hi none n).2.2 = 1 := by
  refine ⟨?_, ?_, rfl⟩
  · cases lo with
    | none => simp [sliceBounds, HT.sIx]
    | some i =>
      simp only [sliceBounds, HT.sIx, Option.getD_none, show (1 : Int) > 0 by decide, if_true]
      by_cases h : i < 0
      · simp only [h, if_true] <;> omega
      · simp only [h, if_false] <;> omega
  · cases hi with
    | none => simp [sliceBounds, HT.sIx]
    | some i =>
      simp only [sliceBounds, HT.sIx, Option.getD_none, show (1 : Int) > 0 by decide, if_true]
      by_cases h : i < 0
      · simp only [h, if_true] <;> omega
      · simp only [h, if_false] <;> omega
theorem slicePick_cut (its : List Value) (lo hi : Option Int) : slicePick its.toArray lo hi none = ((its.drop (HT.sIx its.length 0 lo)).take (HT.sIx its.length its.length hi - HT.sIx its.length 0 lo)).toArray := by
  obtain ⟨h1, h2, h3⟩ := slice_bounds lo hi its.toArray.size
  unfold slicePick
  rw [h1, h2, h3]
  simp only [sliceRange_one, pick_run, List.size_toArray] <;> rfl
def rSlL (K : PySem.W.Frag) : V → Option Int → Option Int → Hp → VK → Prop := fun x lo hi H Q => ∃ a xs, x = .ref a ∧ SqL K H a xs ∧ ∀ p, H p = none → Q (.ref p) (upd H p (.lst (cutV xs lo hi)))
theorem sl_list : SlR X (rSlL X.K) := by
  intro pins s σ H x v vl vu lo hi sl Q I rx hs pl pu h
  obtain ⟨a, xs, rfl, hx, q⟩ := h
  cases rx
  obtain ⟨its, r, ht, hz⟩ := I.list hx
  have hlen := r.length
  refine ⟨"list", _, slot_list_getitem.lookup, ht.isList.typeIs, ?_⟩
  refine wpAny_getItem_list_slice ht.isList hs pl pu .none (by simp) ?_ (by rw [List.size_toArray] <;> omega)
  rw [slicePick_cut, ← hlen]
  refine ⟨.ref s.heap.objs.size, _, I.laid (t' := s.toks) (o := .lst (cutV xs lo hi)) (fun b ob q => Heap.get?_push_of_some _ q) (Nat.le_refl _) ?_, rfl, q _ (I.hok.fresh (Nat.le_refl _))⟩
  exact ⟨Nat.le_trans (cutV_length xs lo hi) hz, _, 0, (r.drop (HT.sIx xs.length 0 lo)).take (HT.sIx xs.length xs.length hi - HT.sIx xs.length 0 lo), Heap.get?_push_size _ rfl⟩

def flatV : V → Bool
  | .non => true
  | .bl _ => true
  | .int _ => true
  | .str _ => true
  | _ => false
def eqV : V → V → Bool
  | .non, .non => true
  | .bl a, .bl b => a == b
  | .bl a, .int b => (if a then 1 else 0) == b
  | .int a, .bl b => a == (if b then 1 else 0)
  | .int a, .int b => a == b
  | .str a, .str b => a == b
  | _, _ => false
theorem eqAt_V {A : Around} {s : Shared} {y x : V} {u v : Value} (ry : RelV y u) (rx : RelV x v) (fy : flatV y = true) (fx : flatV x = true) : SeqAt.EqAt A s u v (eqV y x) := by
  cases y with
  | non =>
    cases ry
    cases x with
    | non => cases rx; exact SeqAt.EqAt.same _
    | bl b => cases rx; exact SeqAt.EqAt.none_bool b
    | int b => obtain ⟨t, rfl⟩ := rx; exact SeqAt.EqAt.none_int b t
    | str b => obtain ⟨t, rfl⟩ := rx; exact SeqAt.EqAt.none_str b t
    | _ => exact absurd (show false = true from fx) Bool.false_ne_true
  | bl a =>
    cases ry
    cases x with
    | non => cases rx; exact SeqAt.EqAt.bool_none a
    | bl b => cases rx; exact SeqAt.EqAt.bool_bool a b
    | int b => obtain ⟨t, rfl⟩ := rx; exact SeqAt.EqAt.bool_int a b t
    | str b => obtain ⟨t, rfl⟩ := rx; exact SeqAt.EqAt.bool_str a b t
    | _ => exact absurd (show false = true from fx) Bool.false_ne_true
  | int a =>
    obtain ⟨t', rfl⟩ := ry
    cases x with
    | non => cases rx; exact SeqAt.EqAt.int_none a t'
    | bl b => cases rx; exact SeqAt.EqAt.int_bool a t' b
    | int b => obtain ⟨t, rfl⟩ := rx; exact SeqAt.EqAt.int_int a t' b t
    | str b => obtain ⟨t, rfl⟩ := rx; exact SeqAt.EqAt.int_str a t' b t
    | _ => exact absurd (show false = true from fx) Bool.false_ne_true
  | str a =>
    obtain ⟨t', rfl⟩ := ry
    cases x with
    | non => cases rx; exact SeqAt.EqAt.str_none a t'
    | bl b => cases rx; exact SeqAt.EqAt.str_bool a t' b
    | int b => obtain ⟨t, rfl⟩ := rx; exact SeqAt.EqAt.str_int a t' b t
    | str b => obtain ⟨t, rfl⟩ := rx; exact SeqAt.EqAt.str_str a t' b t
    | _ => exact absurd (show false = true from fx) Bool.false_ne_true
  | _ => exact absurd (show false = true from fy) Bool.false_ne_true
theorem call_len_seq : CallR X (.builtin "len") (fun xs H Q => ∃ p ys, xs = [.ref p] ∧ (SqL X.K H p ys ∨ SqT X.K H p ys) ∧ Q (.int ys.length) H) := by
  intro pins s σ H xs us Q I r h
  obtain ⟨p, ys, rfl, hq, q⟩ := h
  obtain ⟨u, rfl, rx⟩ := vals1 r
  cases rx
  have hn := line63
  rcases hq with hq | hq
  · obtain ⟨its, r', pl, hz⟩ := I.list hq
    have hlen := r'.length
    exact Calls.call_len_list pl.isList (by simp only [List.size_toArray] <;> omega) ⟨.int ys.length, H, I.tok _, ⟨s.toks + 1, by rw [List.size_toArray, hlen]⟩, q⟩
  · obtain ⟨its, r', pl, hz⟩ := I.tuple hq
    have hlen := r'.length
    exact len_tuple pl (by simp only [List.size_toArray] <;> omega) ⟨.int ys.length, H, I.tok _, ⟨s.toks + 1, by rw [List.size_toArray, hlen]⟩, q⟩
theorem call_list_of : CallR X (.type "list") (fun xs H Q => ∃ p ys, xs = [.ref p] ∧ (SqL X.K H p ys ∨ SqT X.K H p ys) ∧ ∀ l, H l = none → Q (.ref l) (upd H l (.lst ys))) := by
  intro pins s σ H xs us Q I r h
  obtain ⟨p, ys, rfl, hq, q⟩ := h
  obtain ⟨u, rfl, rx⟩ := vals1 r
  cases rx
  have fin : ∀ (its : List Value), Vals ys its → ys.length ≤ sizeLine → ∀ (h' : Heap) (c' : Nat), (∀ b o', s.heap.get? b = some o' → h'.get? b = some o') →
      h'.get? s.heap.objs.size = some { cls := .type "list", dict := none, data := .seq its.toArray c', slots := #[] } → EP X pins σ Q (.ref s.heap.objs.size) { s with heap := h' } := fun its r' hz h' c' kp e =>
    ⟨.ref s.heap.objs.size, _, I.laid (t' := s.toks) kp (Nat.le_refl _) (show ObjOk X.prog X.w _ h' _ (.lst ys) from ⟨hz, its, c', r', e⟩), rfl, q _ (I.hok.fresh (Nat.le_refl _))⟩
  rcases hq with hq | hq
  · obtain ⟨its, r', pl, hz⟩ := I.list hq
    have hlen := r'.length
    obtain ⟨o, ho, hc, n, hd⟩ := pl.isList
    exact call_list_seq p (.inl rfl) ho hc hd (fun h' c' kp e => fin its r' hz h' c' kp e) (by simp only [List.size_toArray] <;> omega)
  · obtain ⟨its, r', pl, hz⟩ := I.tuple hq
    have hlen := r'.length
    obtain ⟨o, ho, hc, n, hd⟩ := pl
    exact call_list_seq p (.inr rfl) ho hc hd (fun h' c' kp e => fin its r' hz h' c' kp e) (by simp only [List.size_toArray] <;> omega)
def tyV (K : PySem.W.Frag) (T : String) (x : V) (H : Hp) : Prop := match x with
  | .str _ => T = "str"
  | .int _ => T = "int"
  | .ref p => (T = "list" ∧ ∃ xs, SqL K H p xs) ∨ (T = "tuple" ∧ ∃ o, K.lookup p = some o ∧ o.cls = .type "tuple" ∧ o.dict = none) ∨
      (T = "dict" ∧ ((∃ kvs, H p = some (.dK kvs)) ∨ ∃ kvs, H p = some (.dT kvs))) ∨ (T = "set" ∧ ∃ S n, H p = some (.set S n))
  | _ => False
theorem tyV_is {pins : List (Addr × Obj)} {σ : St} {H : Hp} {s : Shared} {T : String} {x : V} {v : Value} (I : Inv X pins σ H s) (r : RelV x v) (ty : tyV X.K T x H) :
    s.TypeIs v T ∧ ∀ a, v = .ref a → ∃ ob, s.heap.get? a = some ob ∧ ob.dict = none := by
  cases x with
  | str z =>
    obtain ⟨t, rfl⟩ := r
    cases (show T = "str" from ty)
    exact ⟨typeIs_str s z t, fun _ e => nomatch e⟩
  | int i =>
    obtain ⟨t, rfl⟩ := r
    cases (show T = "int" from ty)
    exact ⟨typeIs_int s i t, fun _ e => nomatch e⟩
  | ref p =>
    cases r
    rcases ty with ⟨rfl, xs, hq⟩ | ⟨rfl, o, hk, hc, hd⟩ | ⟨rfl, hk⟩ | ⟨rfl, S, n, hk⟩
    · obtain ⟨its, _, pl, _⟩ := I.list hq
      refine ⟨pl.isList.typeIs, fun a e => ?_⟩
      cases e
      obtain ⟨o, n, e, c, hd, _⟩ := pl
      exact ⟨o, e, hd⟩
    · refine ⟨⟨o, I.kIn p o hk, hc⟩, fun a e => ?_⟩
      cases e
      exact ⟨o, I.kIn _ o hk, hd⟩
    · have z : ∃ o, s.heap.get? p = some o ∧ o.ExactDict := by
        rcases hk with ⟨kvs, hk⟩ | ⟨kvs, hk⟩
        · obtain ⟨_, _, _, _, o, _, _, e, ex, _⟩ := I.hok p _ hk
          exact ⟨o, e, ex⟩
        · obtain ⟨_, _, _, _, o, _, _, e, ex, _⟩ := I.hok p _ hk
          exact ⟨o, e, ex⟩
      obtain ⟨o, e, ex⟩ := z
      refine ⟨⟨o, e, ex.1⟩, fun a e2 => ?_⟩
      cases e2
      exact ⟨o, e, ex.2.1⟩
    · obtain ⟨o, _, _, _, e, ex, _⟩ := I.hok p _ hk
      refine ⟨⟨o, e, ex.1⟩, fun a e2 => ?_⟩
      cases e2
      exact ⟨o, e, ex.2.1⟩
  | _ => exact False.elim ty
def tBM0 (K : PySem.W.Frag) (T : String) (r : V → List V → Hp → VK → Prop) (to : TE) : TE := fun σ H Q => to σ H fun x H1 => tyV K T x H1 ∧ r x [] H1 Q
def tBM (K : PySem.W.Frag) (T : String) (r : V → List V → Hp → VK → Prop) (to : TE) (t : TA) : TE := fun σ H Q => to σ H fun x H1 => tyV K T x H1 ∧ t σ H1 fun xs H2 => r x xs H2 Q
variable {o e : Expr} {es : List Expr} {to : TE} {t : TA} {name : Str} {apos cpos : Pos} {T id : String} {r : V → List V → Hp → VK → Prop}
theorem pe_bm0 (pa : PlainAttrs T) (slot : Slot T name id) (hty : typeOf (.builtin id) = pure (.type "method_descriptor")) (hm : MtR X id r) (ho : PE X o to)
    (hbase : attributeBase o name X.env (eval o X.env) = eval o X.env := by rfl) (hline : (apos.endLine == cpos.line) = true := by rfl) : PE X (.Call (.Attribute o name apos) [] [] cpos) (tBM0 X.K T r to) := by
  intro pins s σ H Q I h
  refine wpAny_Call_method0_late hbase hline (thn (ho pins s σ H _ I h) fun v s1 ⟨x, H1, I1, r1, ty, q1⟩ => ?_)
  obtain ⟨h1, h2⟩ := tyV_is I1 r1 ty
  exact ⟨T, id, pa, slot, hty, h1, h2, Calls.callWith_builtin rfl (PySem.evalArgs_none (hm pins s1 σ H1 x [] v [] Q I1 r1 .nil q1))⟩
theorem pe_bm (pa : PlainAttrs T) (slot : Slot T name id) (hty : typeOf (.builtin id) = pure (.type "method_descriptor")) (hm : MtR X id r) (ho : PE X o to) (ha : PA X (e :: es) t)
    (hbase : attributeBase o name X.env (eval o X.env) = eval o X.env := by rfl)
    (hfew : ((backTo cpos (starEach (e :: es) X.env)).all (fun x => !x.1) && (backToKw cpos (keywordEach [] X.env)).all (fun x => x.1.isSome)
      && decide ((e :: es).length + ([] : List Keyword).length + (if ([] : List Keyword).isEmpty then 0 else 1) < 30)) = true := by rfl)
    (hline : (apos.endLine == cpos.line) = true := by rfl) (hs : starEach (e :: es) X.env = (false, eval e X.env) :: starEach es X.env := by rfl) (hplain : (backTo cpos (starEach es X.env)).any (·.1) = false := by rfl) :
    PE X (.Call (.Attribute o name apos) (e :: es) [] cpos) (tBM X.K T r to t) := by
  intro pins s σ H Q I h
  refine wpAny_Call_method_late hbase hfew hline rfl (thn (ho pins s σ H _ I h) fun v s1 ⟨x, H1, I1, r1, ty, q1⟩ => ?_)
  obtain ⟨h1, h2⟩ := tyV_is I1 r1 ty
  refine ⟨T, id, pa, slot, hty, h1, h2, ?_⟩
  have hA := ha cpos pins s1 σ H1 _ I1 q1
  rw [hs] at hA ⊢
  refine Calls.callWith_builtin (by show (false || (backTo cpos (starEach es X.env)).any (·.1)) = false; rw [hplain] <;> rfl) (Calls.evalArgs_plain ?_)
  exact thn hA fun us s2 ⟨vs, H2, I2, r2, q2⟩ => hm pins s2 σ H2 x vs v us Q I2 r1 r2 q2
end
end L2

namespace L2
open PySem PySem.Spec PyProof.Rows

def MtM (X : Cx) (id : String) (r : V → List V → Hp → VK → Prop) : Prop :=
  ∀ (pins : List (Addr × Obj)) (s : Shared) (σ : St) (H : Hp) (x : V) (xs : List V) (v : Value) (us : List Value) (Q : VK), Inv X pins σ H s → RelV x v → Vals xs us → r x xs H Q →
    wpAny (model X.prog X.w) X.A (call (.builtin id) (v :: us)) (EP X pins σ Q) X.xe s

theorem Vals.one : ∀ {x : V} {us : List Value}, Vals [x] us → ∃ u, us = [u] ∧ RelV x u
  | _, _, .cons r .nil => ⟨_, rfl, r⟩
theorem Vals.zero : ∀ {us : List Value}, Vals [] us → us = []
  | _, .nil => rfl
section
variable {X : Cx} {pins : List (Addr × Obj)} {σ : St} {H : Hp} {s : Shared} {l b : Addr} {xs ys zs : List V}

theorem Inv.lset {its its' : List Value} {n : Nat} {f : Array Value → Array Value} {t' : Nat} (I : Inv X pins σ H s) (hH : H l = some (.lst xs))
    (e : s.heap.get? l = some { cls := .type "list", data := .seq its.toArray n }) (hf : f its.toArray = its'.toArray) (hv : Vals ys its') (hz : ys.length ≤ sizeLine) :
    Inv X pins σ (upd H l (.lst ys)) { s with heap := s.heap.update l (Obj.mapSeq f), toks := t' } := by
  have q := PySem.IsL.update e f
  rw [hf] at q
  refine I.write (x := l) (e := l) (by rw [hH]; exact trivial) (.inl rfl) (fun b' u hb hu => (Heap.get?_update_other s.heap (Obj.mapSeq f) (Ne.symm hb)).trans hu) ⟨_, q⟩ ?_
  exact ⟨hz, its', _, hv, q⟩
theorem Inv.lnew {its : List Value} {t' : Nat} (I : Inv X pins σ H s) (hv : Vals ys its) (hz : ys.length ≤ sizeLine) :
    Inv X pins σ (upd H s.heap.objs.size (.lst ys)) { s with heap := s.heap.push { cls := .type "list", data := .seq its.toArray }, toks := t' } :=
  I.laid (fun _ _ q => Heap.get?_push_of_some _ q) (Nat.le_refl _) ⟨hz, its, 0, hv, Heap.get?_push_size _ rfl⟩
theorem Inv.fresh (I : Inv X pins σ H s) : H s.heap.objs.size = none := I.hok.fresh (Nat.le_refl _)
theorem Inv.lstM (I : Inv X pins σ H s) (hH : H l = some (.lst xs)) : xs.length ≤ sizeLine ∧ ∃ (its : List Value) (n : Nat), Vals xs its ∧ xs.length = its.length ∧ s.heap.get? l = some { cls := .type "list", data := .seq its.toArray n } := by
  obtain ⟨z, its, n, r, e⟩ := I.hok l _ hH
  exact ⟨z, its, n, r, r.length, e⟩

end

section
variable {X : Cx}

def rAppend : V → List V → Hp → VK → Prop := fun x vs H Q => ∃ l xs y, x = .ref l ∧ vs = [y] ∧ H l = some (.lst xs) ∧ xs.length < sizeLine ∧ Q .non (upd H l (.lst (xs ++ [y])))
theorem mt_append : MtM X "list.append" rAppend := by
  intro pins s σ H x vs v us Q I rx rv h
  obtain ⟨l, xs, y, rfl, rfl, hH, hz, q⟩ := h
  cases rx
  obtain ⟨u, rfl, ru⟩ := rv.one
  obtain ⟨z, its, n, r, hl, e⟩ := I.lstM hH
  refine call_meets F.slot_list_append ⟨_, e, rfl⟩ F.entry_list_append (F.args_list_append_2 _ _) (PySem.list_append l its.toArray n u (by rw [List.size_toArray]; omega)) ⟨e, ?_⟩
  refine ⟨.non, _, I.lset (its' := its ++ [u]) hH e (by simp) (r.append (.cons ru .nil)) ?_, rfl, q⟩
  rw [List.length_append, List.length_singleton]
  omega

def rClear : V → List V → Hp → VK → Prop := fun x vs H Q => ∃ l xs, x = .ref l ∧ vs = [] ∧ H l = some (.lst xs) ∧ Q .non (upd H l (.lst []))
theorem mt_clear : MtM X "list.clear" rClear := by
  intro pins s σ H x vs v us Q I rx rv h
  obtain ⟨l, xs, rfl, rfl, hH, q⟩ := h
  cases rx
  have hus := rv.zero
  subst hus
  obtain ⟨z, its, n, r, hl, e⟩ := I.lstM hH
  refine call_meets F.slot_list_clear ⟨_, e, rfl⟩ F.entry_list_clear (F.args_list_clear_1 _) (AutoSeq1.list_clear_list_0 l its.toArray n (by rw [List.size_toArray]; omega)) ⟨e, ?_⟩
  exact ⟨.non, _, I.lset (its' := []) (ys := []) hH e rfl .nil (Nat.zero_le _), rfl, q⟩

def rCat : R2 := fun x y H Q => ∃ l b xs zs, x = .ref l ∧ y = .ref b ∧ H l = some (.lst xs) ∧ H b = some (.lst zs) ∧ xs.length + zs.length ≤ sizeLine ∧ ∀ p, H p = none → Q (.ref p) (upd H p (.lst (xs ++ zs)))
theorem op_cat : OpR X (binaryOp .Add) rCat := by
  intro pins s σ H x y v u Q I rx ry h
  obtain ⟨l, b, xs, zs, rfl, rfl, hH, hB, hz, q⟩ := h
  cases rx
  cases ry
  obtain ⟨z, its, n, r, hl, e⟩ := I.lstM hH
  obtain ⟨z2, its2, n2, r2, hl2, e2⟩ := I.lstM hB
  refine PySem.P.add_list e e2 ?_ (by rw [List.size_toArray, List.size_toArray]; omega)
  have ea : its.toArray ++ its2.toArray = (its ++ its2).toArray := by simp
  rw [ea]
  exact ⟨.ref _, _, I.lnew (t' := s.toks) (r.append r2) (by rw [List.length_append]; omega), rfl, q _ I.fresh⟩
end

section
variable {prog : Program} {w : World} {A : Around} {E : Value → Shared → Prop} {s : Shared}
end

section
variable {X : Cx}
end
end L2

namespace L2
open PySem PySem.Spec PyProof.Rows

section
variable {κ : Type} [DecidableEq κ]
def valV (kvs : List (κ × V)) (k : κ) : Option V := (kvs.find? fun kv => decide (kv.1 = k)).map (·.2)
def putK (kvs : List (κ × V)) (k : κ) (v : V) : List (κ × V) :=
  if (kvs.any fun kv => decide (kv.1 = k)) = true then kvs.map (fun kv => if kv.1 = k then (kv.1, v) else kv) else kvs ++ [(k, v)]
def dropK (kvs : List (κ × V)) (k : κ) : List (κ × V) := kvs.filter fun kv => decide (kv.1 ≠ k)

theorem RelO.getD {o : Option V} {u : Option Value} {d : V} {d' : Value} (r : RelO o u) (rd : RelV d d') : RelV (o.getD d) (u.getD d') := by
  cases o with
  | none => cases u with
    | none => exact rd
    | some _ => exact (show False from r).elim
  | some _ => cases u with
    | none => exact (show False from r).elim
    | some _ => exact r

theorem KV.any {kvs : List (κ × V)} {vs : List (κ × Value)} (r : KV kvs vs) (k : κ) : (kvs.any fun kv => decide (kv.1 = k)) = vs.any fun kv => decide (kv.1 = k) := by
  unfold KV at r
  induction r with
  | nil => rfl
  | cons h t ih => rw [List.any_cons, List.any_cons, ih, h.1]
theorem KV.drop {kvs : List (κ × V)} {vs : List (κ × Value)} (r : KV kvs vs) (k : κ) : KV (dropK kvs k) (without vs k) := by
  unfold KV at r ⊢
  unfold dropK without
  induction r with
  | nil => exact .nil
  | @cons p q ps qs h t ih =>
    obtain ⟨h1, h2⟩ := h
    rw [List.filter_cons, List.filter_cons]
    by_cases e : p.1 = k
    · have a : ¬ decide (p.1 ≠ k) = true := by simp [e]
      have b : ¬ decide (q.1 ≠ k) = true := by simp [h1.symm.trans e]
      rw [if_neg a, if_neg b]; exact ih
    · have e' : ¬ q.1 = k := fun z => e (h1.trans z)
      have a : decide (p.1 ≠ k) = true := by simp [e]
      have b : decide (q.1 ≠ k) = true := by simp [e']
      rw [if_pos a, if_pos b]; exact .cons ⟨h1, h2⟩ ih
theorem KV.keys {kvs : List (κ × V)} {vs : List (κ × Value)} (r : KV kvs vs) : kvs.map (·.1) = vs.map (·.1) := by
  unfold KV at r
  induction r with
  | nil => rfl
  | cons h t ih => rw [List.map_cons, List.map_cons, ih, h.1]
theorem KV.length {kvs : List (κ × V)} {vs : List (κ × Value)} (r : KV kvs vs) : kvs.length = vs.length := Paired.length r
end


abbrev KT (H : Hp) : List (List Key × V) → List (List Key × Addr × Value) → Prop := Paired fun p q => p.1 = q.1 ∧ H q.2.1 = some (.tup (p.1.map kV)) ∧ RelV p.2 q.2.2
theorem KT.keeps {H H' : Hp} {kvs : List (List Key × V)} {xs : List (List Key × Addr × Value)} (r : KT H kvs xs) (ht : ∀ b ys, H b = some (.tup ys) → H' b = some (.tup ys)) : KT H' kvs xs :=
  Paired.mapP r fun _ _ z => ⟨z.1, ht _ _ z.2.1, z.2.2⟩

section
variable {P : Program} {w : World} {H : Hp} {h : Heap} {a : Addr}
end

def DGet (H : Hp) (a : Addr) (y : V) (r : Option V) : Prop :=
  (∃ kvs k, Rd H a (.dK kvs) ∧ y = kV k ∧ r = valV kvs k) ∨ ∃ kvs k b, Rd H a (.dT kvs) ∧ y = .ref b ∧ H b = some (.tup (k.map kV)) ∧ r = valV kvs k
def DPut (H : Hp) (a : Addr) (y v : V) (H' : Hp) : Prop :=
  (∃ kvs k, H a = some (.dK kvs) ∧ y = kV k ∧ kvs.length < sizeLine ∧ H' = upd H a (.dK (putK kvs k v))) ∨
  ∃ kvs k b, H a = some (.dT kvs) ∧ y = .ref b ∧ H b = some (.tup (k.map kV)) ∧ kvs.length < sizeLine ∧ H' = upd H a (.dT (putK kvs k v))
theorem DGet.k {H : Hp} {a : Addr} {kvs : List (Key × V)} {k : Key} (e : H a = some (.dK kvs)) : DGet H a (kV k) (valV kvs k) := .inl ⟨kvs, k, .inl e, rfl, rfl⟩
theorem DGet.t {H : Hp} {a b : Addr} {kvs : List (List Key × V)} {k : List Key} (e : H a = some (.dT kvs)) (eb : H b = some (.tup (k.map kV))) : DGet H a (.ref b) (valV kvs k) := .inr ⟨kvs, k, b, .inl e, rfl, eb, rfl⟩
theorem DPut.k {H : Hp} {a : Addr} {kvs : List (Key × V)} {k : Key} {v : V} (e : H a = some (.dK kvs)) (hl : kvs.length < sizeLine) : DPut H a (kV k) v (upd H a (.dK (putK kvs k v))) := .inl ⟨kvs, k, e, rfl, hl, rfl⟩
theorem DPut.t {H : Hp} {a b : Addr} {kvs : List (List Key × V)} {k : List Key} {v : V} (e : H a = some (.dT kvs)) (eb : H b = some (.tup (k.map kV))) (hl : kvs.length < sizeLine) :
    DPut H a (.ref b) v (upd H a (.dT (putK kvs k v))) := .inr ⟨kvs, k, b, e, rfl, eb, hl, rfl⟩


section
variable {X : Cx} {pins : List (Addr × Obj)} {σ : St} {H : Hp} {s : Shared} {a : Addr} {y v : V} {u r : Value} {o : Option V} {A : Around} {E : Value → Shared → Prop}

end

section
variable {X : Cx} {pins : List (Addr × Obj)} {σ : St} {H : Hp} {s : Shared} {a : Addr} {kvs : List (Key × V)} {k : Key} {u : Value} {A : Around} {E : Value → Shared → Prop}
end


section
variable {X : Cx} {o i e value : Expr} {pos pos' tpos : Pos} {td ty tv : TE}
end


section
variable {X : Cx} {pos : Pos}
end

section
variable {X : Cx} {pins : List (Addr × Obj)} {σ : St} {H : Hp} {s : Shared} {a : Addr} {y d : V} {u r : Value} {o : Option V} {A : Around} {E : Value → Shared → Prop}
end

section
variable {X : Cx} {o e f : Expr} {apos cpos : Pos} {td ty tx : TE}
end

section
variable {X : Cx} {pins : List (Addr × Obj)} {σ : St} {H : Hp} {s : Shared} {a : Addr} {kvs : List (Key × V)} {A : Around} {E : Value → Shared → Prop}
end


section
variable {X : Cx} {pins : List (Addr × Obj)} {σ : St} {H : Hp} {s : Shared} {a : Addr} {y : V} {u : Value} {A : Around} {E : Value → Shared → Prop}
end
end L2


namespace Att
open PySem PySem.W PySem.Calls PyProof.Rows

theorem ints_of_wellAll {P : Params} {h : Heap} : ∀ (ns : List Int) (vs : List Value), WellAll P h vs (ns.map WData.int) → IntsAre vs ns := by
  intro ns
  induction ns with
  | nil =>
    intro vs w
    rw [List.map_nil] at w
    cases w
    exact .nil
  | cons n ns ih =>
    intro vs w
    rw [List.map_cons] at w
    cases w with
    | cons a b =>
      cases a
      exact .cons _ _ (ih _ b)

theorem script_of {l : OpenLaw} {n : Nat} (hn : l.most = some n) {P : Params} {h : Heap} {args : List WData} {vals : List Value}
    (hpre : l.row.toRowW.claim.pre args = true) (hwl : WellAll P h vals args) :
    ∃ a vs ns, vals = [Value.ref a] ∧ args = [WData.list (ns.map WData.int)] ∧ h.get? a = some { cls := .type "list", data := .seq vs.toArray } ∧ IntsAre vs ns ∧ ns.length ≤ n := by
  have hsh : WShape.hasAll [] args [.list .int] = true := (pre_splitW hpre).1
  have hc : l.pre.holds [] { args := args } = true := (pre_splitW hpre).2
  obtain ⟨d, r, rfl, h1, h2⟩ := hasAllW_cons hsh
  obtain rfl := hasAllW_nil h2
  obtain ⟨xs, rfl, h3⟩ := hasW_list h1
  obtain ⟨ns, rfl⟩ := items_int h3
  have hlen : ns.length ≤ n := by
    unfold OpenLaw.pre at hc
    have h4 : (WTm.not (.lt (.lit (.int (n : Int))) (.len (.arg 0)))).holds [] { args := [.list (ns.map .int)] } = true := by
      have h4 := (holds_andW hc).1
      rw [hn] at h4
      exact h4
    have h5 := condW_of h4 (w_not (w_lt w_lit (w_len_list (w_arg rfl))))
    rw [List.length_map] at h5
    refine Nat.le_of_not_lt fun q => ?_
    have q' : (n : Int) < ((ns.length : Nat) : Int) := by omega
    first
      | (rw [decide_eq_true q'] at h5; exact absurd h5 (by decide))
      | (simp at h5; omega)
  cases hwl with
  | cons w1 w2 =>
    cases w2
    cases w1 with
    | list ho hall => exact ⟨_, _, ns, rfl, rfl, ho, ints_of_wellAll ns _ hall, hlen⟩

theorem post_true (l : OpenLaw) (args : List WData) : l.row.toRowW.claim.post args (.bool true) args = true :=
  postW_of (r := l.row.toRowW) (X := (true == true))
    (show WShape.has [] (.bool true) .bool = true by first | rfl | decide | simp [WShape.has, WShape.arms, WShape.armsAll])
    (show (WTm.eq .res (.lit (.bool true))).value [] { args := args, res := some (.bool true), after := args } = some (.bool (true == true)) from w_eq_bool (w_res rfl) w_lit) rfl

theorem attach_call {l : OpenLaw} {n : Nat} {q : Program} {loose : List Str} {XP : (Str → Option Value) → Heap → Prop} {YP : World → Heap → Prop} {d : DefRec}
    (hn : l.most = some n) (hdf : d.params.defaults = [])
    (call : ∀ (w : World) (s₀ s₁ : Shared) (mg mb : Str → Option Value) (fa : Addr) (o : Obj) (pm cd doc : Value) (a : Addr) (vs : List Value) (ns : List Int),
      Ground q loose [] XP w s₀ mg mb s₁.heap → YP w s₁.heap →
      s₁.heap.get? fa = some o → o.data = .func (docDef d.name d.params d.body d.scope pm cd doc) → s₁.heap.CodeRec cd d.name → mg d.name = some (.ref fa) →
      s₁.heap.get? a = some { cls := .type "list", data := .seq vs.toArray } → IntsAre vs ns → ns.length ≤ n → s₁.gens = #[] →
      codeAny (model l.prog w) callerA (.call (.ref fa) ⟨[.ref a], []⟩) (fun r s' => r = .ok (.ret (.bool true)) ∧ OldK s₁.heap s'.heap ∧ s'.os = s₁.os ∧ AllBare s'.gens) s₁) :
    WalkO q loose XP YP l.row.toRowW d [] (fun f vs => PySem.call f vs) := by
  intro w s₀ s₁ mg mb G Y fa o pm cd doc dV kV ho hd hcd hD hmg hg args vals as hpre hlay hrd hwl hlo
  obtain rfl : dV = .none := Dflts.none hD hdf
  obtain rfl : kV = .none := Dflts.noKw hD
  obtain ⟨a, vs, ns, rfl, rfl, hobj, hints, hlen⟩ := script_of hn hpre hwl
  refine enter_call (codeAny_mono (call w s₀ s₁ mg mb fa o pm cd doc a vs ns G Y ho (fd_plain hd) hcd hmg hobj hints hlen hg) fun r s' hq => ?_)
  obtain ⟨rfl, h2, h3, h4⟩ := hq
  exact ⟨.inl ⟨.bool true, .bool true, [], rfl, fun _ => rfl, .bool true, post_true l _, fun _ => ⟨List.Pairwise.nil, fun _ hm => (nomatch hm)⟩⟩, h2, h3, h4⟩

section
variable {prog : Program} {w : World} {A : Around} {E : Value → Shared → Prop} {s : Shared} {K : Frag}

end
end Att

namespace L2
open PySem PySem.Spec PyProof.Rows

theorem vals_ints : ∀ {vs : List Value} {ns : List Int}, IntsAre vs ns → Vals (ns.map V.int) vs
  | _, _, .nil => .nil
  | _, _, .cons n t h => .cons ⟨t, rfl⟩ (vals_ints h)

def Only (H : Hp) : Prop := ∀ b, H b = none ∨ ∃ o xs, H b = some (.frz o (.lst xs))

theorem law_call {P : Program} {w : World} {K : PySem.W.Frag} {mg mb : Str → Option Value} {CX : CXT} {k : Nat} {fa a : Addr} {fd : FuncData} {x : Str} {sp : Sp} {s₁ : Shared} {vs : List Value} {ns : List Int}
    (KX : K.In s₁.heap) (hns : s₁.heap.Ns mainGlobals mg) (hb : s₁.heap.Ns builtinsNs mb) (hbb : ∀ x : Str, x ≠ "__name__" → mb x = bootBuiltins x) (hlim : s₁.heap.NoLimit) (hg : s₁.gens = #[])
    (ha : s₁.heap.get? a = some { cls := .type "list", data := .seq vs.toArray }) (hi : IntsAre vs ns) (hl : ns.length ≤ sizeLine) (hr : Room k callerA)
    (F : ∀ base : Heap, K.In base → base.Ns mainGlobals mg → FnOk P w K mg base CX k fa fd [x] sp) (hbind : ∀ (s : Shared) (u : Value), BindsTo s fd ⟨[u], []⟩ [(x, u)])
    (hsp : ∀ H : Hp, Only H → SqL K H a (ns.map V.int) → sp [.ref a] H (fun v _ => v = .bl true) fun _ _ _ => False)
    (hCX : ∀ H e s', CX [] H s₁ (fun _ _ _ => False) e s' → False) :
    codeAny (model P w) callerA (.call (.ref fa) ⟨[.ref a], []⟩) (fun r s' => r = .ok (.ret (.bool true)) ∧ OldK s₁.heap s'.heap ∧ s'.os = s₁.os ∧ AllBare s'.gens) s₁ := by
  have rv := vals_ints hi
  have lenV := hi.length
  -- from an abstract heap in which nothing but the script may be tracked
  have core : ∀ H : Hp, Only H → SqL K H a (ns.map V.int) → HOk P w H s₁.heap → (∀ b, H b ≠ none → b = a) → (H a ≠ none → K.lookup a = none) →
      codeAny (model P w) callerA (.call (.ref fa) ⟨[.ref a], []⟩) (fun r s' => r = .ok (.ret (.bool true)) ∧ OldK s₁.heap s'.heap ∧ s'.os = s₁.os ∧ AllBare s'.gens) s₁ := by
    intro H hO hS hok hA hK
    have base_of : ∀ {b : Addr} {o : Obj}, s₁.heap.get? b = some o → H b = none → (hidT s₁.heap H).get? b = some o := fun e n => hidT_get e n
    have noA : ∀ {b : Addr} {o : Obj} {es : Array DictEntry} {ep : Nat}, s₁.heap.get? b = some o → o.data = .dict es ep → H b = none := fun {b o es ep} e d => by
      cases q : H b with
      | none => rfl
      | some u =>
        have e' : b = a := hA b (by rw [q]; simp)
        subst e'
        rw [ha] at e; cases e
        have d' : Data.seq vs.toArray _ = Data.dict es ep := d
        cases d'
    have nsK : ∀ {b : Addr} {m : Str → Option Value}, s₁.heap.Ns b m → (hidT s₁.heap H).Ns b m := fun {b m} ⟨o, es, ep, e, d, r⟩ => ⟨o, es, ep, base_of e (noA e d), d, r⟩
    have hKb : K.In (hidT s₁.heap H) := fun b o e => base_of (KX b o e) (by
      cases q : H b with
      | none => rfl
      | some u =>
        have e' : b = a := hA b (by rw [q]; simp)
        subst e'
        rw [hK (by rw [q]; simp)] at e; cases e)
    have hM : Mod K mg (hidT s₁.heap H) := ⟨hKb, nsK hns, ⟨mb, nsK hb, hbb⟩, let ⟨mc, h1, h2⟩ := hlim; ⟨mc, nsK h1, h2⟩⟩
    have e0 : Env0 P w K mg (hidT s₁.heap H) callerA [] s₁ H := ⟨rfl, hM, fun b o e => of_hidT e, Nat.le_of_eq (hidT_size _ _), trivial, fun b hb => absurd (show b ∈ ([] : List Addr) from hb) (by simp), hok, .of_eq hg⟩
    refine codeAny_mono ((F _ hKb (nsK hns)).run callerA [] s₁ H ⟨[.ref a], []⟩ [.ref a] [.ref a] _ _ hr e0 (hbind s₁ (.ref a)) (.cons rfl .nil) (hsp H hO hS)) fun r s' h => ?_
    cases r with
    | error e => exact (hCX H e s' h).elim
    | ok fl =>
      cases fl with
      | next => exact False.elim h
      | brk => exact False.elim h
      | cont => exact False.elim h
      | ret u =>
        obtain ⟨v, H', os, bare, un, hok', r', q⟩ := h
        have q' : v = .bl true := q
        subst q'
        obtain rfl : u = Value.bool true := r'
        refine ⟨rfl, OldK.of_keep fun b o e => ?_, os, bare⟩
        cases q : H b with
        | none => exact un.keep b o e q (by intro z; exact absurd (show b ∈ ([] : List Addr) from z) (by simp)) (by simp)
        | some u =>
          rcases hO b with z | ⟨ob, xs, z⟩
          · rw [q] at z; cases z
          · have z2 := un.frzs b ob _ z
            obtain ⟨e1, _⟩ := hok b _ z
            obtain ⟨e2, _⟩ := hok' b _ z2
            rw [e] at e1; cases e1
            exact e2
  cases hk : K.lookup a with
  | some o =>
    -- the script is one of the module's own objects
    have e := KX a o hk
    rw [ha] at e
    cases e
    refine core (fun _ => none) (fun _ => .inl rfl) (.inr ⟨_, vs.toArray, _, hk, rfl, rfl, rfl, by rw [List.size_toArray, lenV]; exact hl, by simpa using rv⟩) (fun b u z => by have z' : (none : Option HO) = some u := z; cases z') (fun b z => absurd rfl z) fun z => absurd rfl z
  | none =>
    refine core (fun b => if b = a then some (.frz { cls := .type "list", data := .seq vs.toArray } (.lst (ns.map V.int))) else none) (fun b => ?_) (.inl (.inr ⟨{ cls := .type "list", data := .seq vs.toArray }, if_pos rfl⟩)) (fun b u z => ?_) (fun b z => ?_) fun _ => hk
    · by_cases hb : b = a
      · exact .inr ⟨_, _, if_pos hb⟩
      · exact .inl (if_neg hb)
    · by_cases hb : b = a
      · have z' := (if_pos hb).symm.trans z
        cases z'
        subst hb
        exact ⟨ha, by rw [List.length_map]; exact hl, vs, _, rv, ha⟩
      · have z' := (if_neg hb).symm.trans z
        cases z'
    · by_cases hb : b = a
      · exact hb
      · exact absurd (if_neg hb) z
end L2

namespace L2
open PySem PySem.Spec PyProof.Rows

abbrev KOf {K : PySem.W.Frag} {h : Heap} (_ : K.In h) : PySem.W.Frag := K

theorem walk_of {l : PySem.W.OpenLaw} {n k : Nat} {q : Program} {loose : List Str} {XP : (Str → Option Value) → Heap → Prop} {YP : World → Heap → Prop} {d : DefRec} {K : Params → PySem.W.Frag} {CX : World → CXT} {sp : World → Sp} {x : Str}
    (hn : l.most = some n) (hn2 : n ≤ sizeLine) (hdf : d.params.defaults = []) (hr : Room k callerA)
    (hY : ∀ (w : World) (h : Heap), YP w h → (K w.params).In h)
    (F : ∀ (w : World) (mg : Str → Option Value) (fa : Addr) (h : Heap), (K w.params).In h → h.Ns mainGlobals mg → mg d.name = some (.ref fa) →
      ∃ fd : FuncData, (∀ (s : Shared) (u : Value), BindsTo s fd ⟨[u], []⟩ [(x, u)]) ∧
        ∀ base : Heap, (K w.params).In base → base.Ns mainGlobals mg → FnOk l.prog w (K w.params) mg base (CX w) k fa fd [x] (sp w))
    (hsp : ∀ (w : World) (H : Hp) (a : Addr) (ns : List Int), ns.length ≤ n → Only H → SqL (K w.params) H a (ns.map V.int) → sp w [.ref a] H (fun v _ => v = .bl true) fun _ _ _ => False)
    (hCX : ∀ (w : World) (H : Hp) (s : Shared) (e : Value) (s' : Shared), CX w [] H s (fun _ _ _ => False) e s' → False) :
    PySem.W.WalkO q loose XP YP l.row.toRowW d [] (fun f vs => PySem.call f vs) := by
  refine Att.attach_call hn hdf fun w s₀ s₁ mg mb fa o pm cd doc a vs ns G Y ho hd hcd hmg hobj hints hlen hg => ?_
  have KX := hY w _ Y
  obtain ⟨fd, hb, hF⟩ := F w mg fa _ KX G.T.g hmg
  exact law_call KX G.T.g G.T.b G.T.builtins G.T.nolimit hg hobj hints (Nat.le_trans hlen hn2) hr hF hb (fun H hO hS => hsp w H a ns hlen hO hS) fun H e s' => hCX w H s₁ e s'
end L2

/- THE LAST THEOREM (shape; LID, My.* are yours):
   My.Adr: a structure of the addresses that your layer names (classes, functions); My.Txt K t: a structure (Prop) of the equations over K;
   My.txt_mk : {K} {implicit addresses ..} (e1 : nsIn K mainGlobals "law" = some (some (.ref f))) (e2 : K.lookup f = some ⟨oc, od, .func (fnOf "law" "law" params body scope dV kV doc pm an cdv ct), sl⟩) (e3 : codeIn K cdv "law" = true) .. : ∃ t, My.Txt K t

set_option maxRecDepth 100000 in
set_option maxHeartbeats 0 in
theorem PySem.Challenge.cw_LID_holds : PySem.Challenge.rw_LID.Holds := by
  w_on; o_law; k_head; (case hw => w_witness2)
  k_fill
  refine L2.walk_of (l := PySem.Challenge.rw_LID) (n := 63) (k := 40) (x := "script") (CX := fun w => ..) (sp := fun _ => My.sp_law) rfl (by decide) rfl ⟨rfl, by decide, by decide⟩ (fun w h Y => PySem.W.kIn_of Y) ?F ?S ?C
  case F =>
    intro w mg fa h KX G hmg
    have T : ∃ t, My.Txt (L2.KOf KX) t := by
      dsimp only [L2.KOf]                          -- K must stand as «<heap const> w.params» for k_is
      refine' My.txt_mk ?e1 ?e2 ?e3 ..
      (case e1 => PySem.W.k_is)                    -- in the order: a name -> its address -> its object -> its parts
      (case e2 => PySem.W.k_is)
      ..
    obtain ⟨t, T⟩ := T
    have e0 := hmg.symm.trans (PySem.W.mg_of KX G T.law)
    cases e0                                       -- fa is the law's own address
    exact ⟨_, fun s u => .of_eq rfl, fun base kb nb => My.law_fn T kb nb⟩     -- if «.of_eq rfl» comes too early: refine' ⟨_, ?b, fun base kb nb => My.law_fn T kb nb⟩; exact fun s u => .of_eq rfl
  case S => exact fun w H a ns hl hO hS => ..
  case C => exact ..
(the tactic k_is has no namespace: write k_is) -/

namespace L2
open PySem PySem.Spec PyProof.Rows

def inClass (s : Stmt) (j : Nat) : Stmt := match s with
  | .ClassDef _ _ _ body _ _ _ _ _ _ _ => body.getD j (.Pass ⟨0, 0, 0, 0⟩)
  | _ => .Pass ⟨0, 0, 0, 0⟩
def defArgs (s : Stmt) : Arguments := match s with
  | .FunctionDef _ a _ _ _ _ _ _ _ _ => a
  | _ => { posonlyargs := [], args := [], vararg := none, kwonlyargs := [], kw_defaults := [], kwarg := none, defaults := [] }
def defBody (s : Stmt) : List Stmt := match s with
  | .FunctionDef _ _ b _ _ _ _ _ _ _ => b
  | _ => []
def defScope (s : Stmt) : Scope := match s with
  | .FunctionDef _ _ _ _ _ _ sc _ _ _ => sc
  | _ => { kind := .function, names := [], isGenerator := false, isCoroutine := false }

abbrev CX0 : CXT := fun _ _ _ _ _ _ => False
abbrev E0 : XK := fun _ _ _ => False
theorem pass0 {X : Cx} : Passes CX0 X E0 := fun _ _ _ _ _ _ _ h => h.elim

structure Fun (K : PySem.W.Frag) (x qual : Str) (st : Stmt) (f : Addr) (fd : FuncData) : Prop where
  ex : ∃ (oc : Value) (od : Option Addr) (kV doc pm : Value) (an : Option Addr) (cdv ct : Value) (osl : Array (Option Value)),
    fd = PySem.W.fnOf x qual (defArgs st) (defBody st) (defScope st) .none kV doc pm an cdv ct ∧ K.lookup f = some ⟨oc, od, .func fd, osl⟩ ∧ PySem.W.codeIn K cdv qual = true
  kp : PySem.W.keepIn K (.ref f) = true
section
variable {P : Program} {w : World} {K : PySem.W.Frag} {mg : Str → Option Value} {base : Heap}
theorem Fun.ok {x qual : Str} {st : Stmt} {f : Addr} {fd : FuncData} {N ps : List Str} {k : Nat} {sp : Sp} (F : Fun K x qual st f fd) (S : FnScope N ps (defScope st)) (len : ∀ vs H Q E, sp vs H Q E → vs.length = ps.length)
    (hbody : ∀ (cdv : Value) (A : Around) (outer : List Env) (s : Shared) (H : Hp) (vs : List V) (Q : VK) (E : XK), Room k (A.deeper (envOfC qual (defScope st) s.heap.objs.size f cdv)) → sp vs H Q E →
      ∃ t, PSs (cxOf CX0 P w K mg base N qual (defScope st) f cdv A outer s H E).nox (defBody st) t ∧ t { nx := fun _ H' => Q .non H', rt := Q } (start N vs) H) : FnOk P w K mg base CX0 (k + 1) f fd ps sp := by
  obtain ⟨oc, od, kV, doc, pm, an, cdv, ct, osl, rfl, lk, hcd⟩ := F.ex
  refine fn_of lk hcd S len fun A outer s H vs Q E hr hsp => ?_
  obtain ⟨t, h, q⟩ := hbody cdv A outer s H vs Q E hr hsp
  exact ⟨t, h.nox, q⟩
theorem Fun.binds {x qual : Str} {st : Stmt} {f : Addr} {fd : FuncData} {ps : List Str} (F : Fun K x qual st f fd)
    (h : ∀ (kV doc pm : Value) (an : Option Addr) (cdv ct : Value) (us : List Value), us.length = ps.length → bindArgs (PySem.W.fnOf x qual (defArgs st) (defBody st) (defScope st) .none kV doc pm an cdv ct) ⟨us, []⟩ = pure (ps.zip us)) : Binds K fd ps [] := by
  obtain ⟨oc, od, kV, doc, pm, an, cdv, ct, osl, rfl, lk, hcd⟩ := F.ex
  exact .all (h kV doc pm an cdv ct)
end
section
variable {X : Cx}
theorem pv (i : Nat) {x : Str} {pos : Pos} (hN : X.N[i]? = some x := by rfl) (hv : Vis X.env.scope x := by first | exact Or.inl rfl | exact Or.inr (Or.inl rfl) | exact Or.inr (Or.inr rfl)) (hd : (x == ("__debug__" : Str)) = false := by decide)
    (hcd : (x == ("__classdict__" : Str)) = false := by decide) : PE X (.Name x pos) (tVar i) := pe_var hN hv hd hcd
end

theorem iteF {A B : Prop} (h : B) : if false = true then A else B := by
  rw [if_neg Bool.false_ne_true]
  exact h
theorem iteT {A B : Prop} (h : A) : if true = true then A else B := by
  rw [if_pos rfl]
  exact h
theorem ite2 {c A B : Prop} [Decidable c] (h1 : c → A) (h2 : ¬ c → B) : if c then A else B := by
  by_cases h : c
  · rw [if_pos h]
    exact h1 h
  · rw [if_neg h]
    exact h2 h
def Same (H H' : Hp) : Prop := ∀ b o, H b = some o → H' b = some o
theorem Same.refl (H : Hp) : Same H H := fun _ _ h => h
theorem Same.trans {H H1 H2 : Hp} (a : Same H H1) (b : Same H1 H2) : Same H H2 := fun c o h => b c o (a c o h)
theorem Same.free {H H' : Hp} (e : Same H H') {l : Addr} (h : H' l = Option.none) : H l = Option.none := by
  cases q : H l with
  | none => rfl
  | some o =>
    rw [e l o q] at h
    cases h
theorem Same.seq {K : PySem.W.Frag} {H H' : Hp} {a : Addr} {xs : List V} (e : Same H H') (h : SqL K H a xs) : SqL K H' a xs := by
  rcases h with (h | ⟨o, h⟩) | h
  · exact .inl (.inl (e _ _ h))
  · exact .inl (.inr ⟨o, e _ _ h⟩)
  · exact .inr h

end L2

namespace L2
open PySem PySem.Spec PyProof.Rows
section
variable {X : Cx}
end
section
variable {κ : Type} [DecidableEq κ]
end
end L2


namespace L2
open PySem PySem.Spec PyProof.Rows
section
variable {X : Cx}
end

def isW : V → Bool
  | .int _ => true
  | _ => false
def isI : V → Bool
  | .int _ => true
  | .bl _ => true
  | _ => false
def isB : V → Bool
  | .bl _ => true
  | _ => false
def isS : V → Bool
  | .str _ => true
  | _ => false
inductive Knd (H : Hp) : V → Prop where
  | non : Knd H .non
  | bl (b : Bool) : Knd H (.bl b)
  | int (i : Int) : Knd H (.int i)
  | str (x : Str) : Knd H (.str x)
  | lst {a : Addr} {xs : List V} (e : H a = some (.lst xs)) : Knd H (.ref a)
  | tup {a : Addr} {xs : List V} (e : H a = some (.tup xs)) : Knd H (.ref a)
theorem Knd.same {H H' : Hp} {x : V} (k : Knd H x) (s : Same H H') : Knd H' x := by
  cases k with
  | non => exact .non
  | bl b => exact .bl b
  | int i => exact .int i
  | str x => exact .str x
  | lst e => exact .lst (s _ _ e)
  | tup e => exact .tup (s _ _ e)
section
variable {K : PySem.W.Frag} {H : Hp} {x : V}
theorem kit_nI : PySem.W.kitOne K (.type "NoneType") (.type "int") = some false := by kernel_rfl
theorem kit_bI : PySem.W.kitOne K (.type "bool") (.type "int") = some true := by kernel_rfl
theorem kit_iI : PySem.W.kitOne K (.type "int") (.type "int") = some true := by kernel_rfl
theorem kit_sI : PySem.W.kitOne K (.type "str") (.type "int") = some false := by kernel_rfl
theorem kit_lI : PySem.W.kitOne K (.type "list") (.type "int") = some false := by kernel_rfl
theorem kit_tI : PySem.W.kitOne K (.type "tuple") (.type "int") = some false := by kernel_rfl
theorem kit_nB : PySem.W.kitOne K (.type "NoneType") (.type "bool") = some false := by kernel_rfl
theorem kit_bB : PySem.W.kitOne K (.type "bool") (.type "bool") = some true := by kernel_rfl
theorem kit_iB : PySem.W.kitOne K (.type "int") (.type "bool") = some false := by kernel_rfl
theorem kit_sB : PySem.W.kitOne K (.type "str") (.type "bool") = some false := by kernel_rfl
theorem kit_lB : PySem.W.kitOne K (.type "list") (.type "bool") = some false := by kernel_rfl
theorem kit_tB : PySem.W.kitOne K (.type "tuple") (.type "bool") = some false := by kernel_rfl
theorem kit_nS : PySem.W.kitOne K (.type "NoneType") (.type "str") = some false := by kernel_rfl
theorem kit_bS : PySem.W.kitOne K (.type "bool") (.type "str") = some false := by kernel_rfl
theorem kit_iS : PySem.W.kitOne K (.type "int") (.type "str") = some false := by kernel_rfl
theorem kit_sS : PySem.W.kitOne K (.type "str") (.type "str") = some true := by kernel_rfl
theorem kit_lS : PySem.W.kitOne K (.type "list") (.type "str") = some false := by kernel_rfl
theorem kit_tS : PySem.W.kitOne K (.type "tuple") (.type "str") = some false := by kernel_rfl
theorem Knd.ty (k : Knd H x) : ∃ t, TyOf K H x t ∧ PySem.W.kitOne K t (.type "int") = some (isI x) ∧ PySem.W.kitOne K t (.type "bool") = some (isB x) ∧ PySem.W.kitOne K t (.type "str") = some (isS x) := by
  cases k with
  | non => exact ⟨_, .non, kit_nI, kit_nB, kit_nS⟩
  | bl b => exact ⟨_, .bl b, kit_bI, kit_bB, kit_bS⟩
  | int i => exact ⟨_, .int i, kit_iI, kit_iB, kit_iS⟩
  | str y => exact ⟨_, .str y, kit_sI, kit_sB, kit_sS⟩
  | lst e => exact ⟨_, .lst e, kit_lI, kit_lB, kit_lS⟩
  | tup e => exact ⟨_, .tup e, kit_tI, kit_tB, kit_tS⟩
theorem isW_eq (x : V) : (if isI x = true then !isB x else false) = isW x := by cases x <;> rfl
end
def cellAt (ns : List Int) (k : Int) : Int := ns.getD k.toNat 0
theorem cellAt_in {ns : List Int} {k : Int} (h0 : 0 ≤ k) (h : k < ns.length) : atI (ns.map V.int) k = some (.int (cellAt ns k)) := by
  obtain ⟨j, rfl⟩ := Int.eq_ofNat_of_zero_le h0
  refine atI_nat ?_
  have hj : j < ns.length := by omega
  unfold cellAt
  simp [hj]
theorem cellAt_out {ns : List Int} {k : Int} (h0 : 0 ≤ k) (h : ¬ k < ns.length) : cellAt ns k = 0 := by
  unfold cellAt
  rw [List.getD_eq_getElem?_getD, List.getElem?_eq_none (by omega)]
  rfl
theorem Same.upd {H : Hp} {p : Addr} {o : HO} (h : H p = none) : Same H (upd H p o) := fun b u e => by
  rw [upd_ne (ne_of_none e h)]
  exact e
structure Wr (H H' : Hp) (p : Addr) (o : HO) : Prop where
  at_ : H' p = some o
  ne : ∀ b, b ≠ p → H' b = H b
theorem Wr.mk' {H : Hp} {p : Addr} {o : HO} : Wr H (upd H p o) p o := ⟨upd_same, fun _ h => upd_ne h⟩
theorem Wr.keep {H H' : Hp} {p b : Addr} {o u : HO} (r : Wr H H' p o) (h : H b = some u) (n : b ≠ p) : H' b = some u := (r.ne b n).trans h
abbrev NewO (H : Hp) (o : HO) (Q : VK) : Prop := ∀ p H', H p = none → Same H H' → H' p = some o → Q (.ref p) H'
theorem NewO.at {H : Hp} {o : HO} {Q : VK} (q : NewO H o Q) (p : Addr) (n : H p = none) : Q (.ref p) (upd H p o) := q p _ n (Same.upd n) upd_same
section
variable {X : Cx} {e : Expr} {es : List Expr} {t : TA} {pos : Pos}
def tTupN (t : TA) : TE := fun σ H Q => t σ H fun xs H1 => xs.length ≤ sizeLine ∧ NewO H1 (.tup xs) Q
def tLstN (t : TA) : TE := fun σ H Q => t σ H fun xs H1 => xs.length ≤ sizeLine ∧ NewO H1 (.lst xs) Q
theorem pe_tupN {x1} (h : PA X es t) : PE X (.Tuple es x1 pos) (tTupN t) := by
  intro pins s σ H Q I hq
  refine wpAny_Tuple_spliced (thn (h pos pins s σ H _ I hq) fun us s1 ⟨xs, H1, I1, r, z, q⟩ => ⟨by rw [← r.length]; exact z, ?_⟩)
  have hf : H1 s1.heap.objs.size = none := I1.hok.fresh (Nat.le_refl _)
  refine ⟨.ref s1.heap.objs.size, upd H1 s1.heap.objs.size (.tup xs), I1.laid (t' := s1.toks) (fun b u e => Heap.get?_push_of_some _ e) (Nat.le_refl _) ?_, rfl, q.at _ hf⟩
  exact ⟨z, us, r, ⟨_, Heap.get?_push_size _ rfl, rfl, _, rfl⟩⟩
theorem pe_lstN (h : PA X es t) : PE X (.List es pos) (tLstN t) := by
  intro pins s σ H Q I hq
  refine wpAny_List_spliced (thn (h pos pins s σ H _ I hq) fun us s1 ⟨xs, H1, I1, r, z, q⟩ => ⟨by rw [← r.length]; exact z, ?_⟩)
  have hf : H1 s1.heap.objs.size = none := I1.hok.fresh (Nat.le_refl _)
  refine ⟨.ref s1.heap.objs.size, upd H1 s1.heap.objs.size (.lst xs), I1.laid (t' := s1.toks) (fun b u e => Heap.get?_push_of_some _ e) (Nat.le_refl _) ?_, rfl, q.at _ hf⟩
  exact ⟨z, us, 0, r, Heap.get?_push_size _ rfl⟩
def rCatN : R2 := fun x y H Q => ∃ l b xs zs, x = .ref l ∧ y = .ref b ∧ H l = some (.lst xs) ∧ H b = some (.lst zs) ∧ xs.length + zs.length ≤ sizeLine ∧ NewO H (.lst (xs ++ zs)) Q
theorem op_catN : OpR X (binaryOp .Add) rCatN := by
  intro pins s σ H x y v u Q I rx ry ⟨l, b, xs, zs, e1, e2, h1, h2, h3, q⟩
  exact op_cat pins s σ H x y v u Q I rx ry ⟨l, b, xs, zs, e1, e2, h1, h2, h3, q.at⟩
theorem call_list_ofN : CallR X (.type "list") (fun xs H Q => ∃ p ys, xs = [.ref p] ∧ (SqL X.K H p ys ∨ SqT X.K H p ys) ∧ NewO H (.lst ys) Q) := by
  intro pins s σ H xs us Q I r ⟨p, ys, e, h, q⟩
  exact call_list_of pins s σ H xs us Q I r ⟨p, ys, e, h, q.at⟩
end
def spWhole : Sp := fun vs H Q _ => ∃ x, vs = [x] ∧ Knd H x ∧ Q (.bl (isW x)) H
def inB (x : V) (lo hi : Int) : Bool := match x with
  | .int i => decide (lo ≤ i) && decide (i ≤ hi)
  | _ => false
def spWithin : Sp := fun vs H Q _ => ∃ x lo hi, vs = [x, .int lo, .int hi] ∧ Knd H x ∧ Q (.bl (inB x lo hi)) H
def spCell (K : PySem.W.Frag) : Sp := fun vs H Q _ => ∃ a ns k, vs = [.ref a, .int k] ∧ SqL K H a (ns.map V.int) ∧ 0 ≤ k ∧ Q (.int (cellAt ns k)) H
end L2

namespace L2
open PySem
def ExO (h : Heap) (e : Addr) (C : Value) (od : Option Addr) (vs : Array Value) : Prop := ∃ oe, h.get? e = some oe ∧ oe.cls = C ∧ oe.dict = od ∧ oe.data = .fields vs ∧ 1 < vs.size
def TrO (h : Heap) (e T : Addr) (vs : Array Value) (f : Value) : Prop := vs[1]? = some (.ref T) ∧ T ≠ e ∧ ∃ oT ts, h.get? T = some oT ∧ oT.data = .fields ts ∧ ts[3]? = some f
def Air (L : Addr) (h : Heap) (e : Addr) (C : Value) (od : Option Addr) : Option Addr → Prop
  | none => ∃ vs, ExO h e C od vs ∧ vs[1]? = some .none
  | some T => ∃ vs f, ExO h e C od vs ∧ TrO h e T vs f ∧ (f = .none ∨ f = rawInt L)
def Held (f : Value) (h : Heap) (e T : Addr) (C : Value) (od : Option Addr) : Prop := ∃ vs, ExO h e C od vs ∧ TrO h e T vs f
structure Chg (fr rs : List Addr) (h h' : Heap) : Prop where
  keep : ∀ b o, b ∉ fr → b ∉ rs → h.get? b = some o → h'.get? b = some o
  slot : ∀ b o, b ∉ rs → h.get? b = some o → ∃ sl, h'.get? b = some { o with slots := sl }
  there : ∀ b o, h.get? b = some o → ∃ o', h'.get? b = some o'
theorem Chg.refl {fr rs : List Addr} {h : Heap} : Chg fr rs h h := ⟨fun _ _ _ _ e => e, fun _ o _ e => ⟨o.slots, e⟩, fun _ o e => ⟨o, e⟩⟩
theorem Chg.trans {fr rs : List Addr} {h h1 h2 : Heap} (x : Chg fr rs h h1) (y : Chg fr rs h1 h2) : Chg fr rs h h2 :=
  ⟨fun b o f r e => y.keep b o f r (x.keep b o f r e), fun b o r e => let ⟨_, e1⟩ := x.slot b o r e; let ⟨sl, e2⟩ := y.slot b _ r e1; ⟨sl, e2⟩,
   fun b o e => let ⟨_, e1⟩ := x.there b o e; y.there b _ e1⟩
theorem Chg.fresh {fr rs rs' : List Addr} {h h1 h2 : Heap} (x : Chg fr rs h h1) (y : Chg fr rs' h1 h2) (n : ∀ b ∈ rs', b ∈ rs ∨ h.get? b = none) : Chg fr rs h h2 := by
  have m : ∀ b o, b ∉ rs → h.get? b = some o → b ∉ rs' := fun b o r e z => (n b z).elim r fun q => by rw [q] at e; cases e
  exact ⟨fun b o f r e => y.keep b o f (m b o r e) (x.keep b o f r e), fun b o r e => let ⟨_, e1⟩ := x.slot b o r e; let ⟨sl, e2⟩ := y.slot b _ (m b o r e) e1; ⟨sl, e2⟩,
    fun b o e => let ⟨_, e1⟩ := x.there b o e; y.there b _ e1⟩
theorem Chg.slots {fr rs : List Addr} {h h' : Heap} (x : Heap.SlotsOnly fr h h') : Chg fr rs h h' :=
  ⟨fun b o f _ e => (x.2.1 b f).trans e, fun b o _ e => x.2.2 b o e, fun b o e => let ⟨sl, q⟩ := x.2.2 b o e; ⟨_, q⟩⟩
theorem Chg.upd {fr rs : List Addr} {h : Heap} {a : Addr} {f : Obj → Obj} (ha : a ∈ rs) (hf : ∀ o, h.get? a = some o → (f o).isFreed = false) : Chg fr rs h (h.update a f) := by
  have k : ∀ b o, b ∉ rs → h.get? b = some o → (h.update a f).get? b = some o := fun b o r e => by
    exact (Heap.get?_update_other h f (fun (q : a = b) => r (q ▸ ha))).trans e
  refine ⟨fun b o _ r e => k b o r e, fun b o r e => ⟨o.slots, k b o r e⟩, fun b o e => ?_⟩
  by_cases q : b = a
  · subst q; exact ⟨_, Heap.get?_update_self f e (hf o e)⟩
  · exact ⟨o, by rw [Heap.get?_update_other h f (Ne.symm q)]; exact e⟩
theorem Chg.push {fr rs : List Addr} {h : Heap} {o : Obj} : Chg fr rs h (h.push o) :=
  ⟨fun b u _ _ e => Heap.get?_push_of_some _ e, fun b u _ e => ⟨u.slots, Heap.get?_push_of_some _ e⟩, fun b u e => ⟨u, Heap.get?_push_of_some _ e⟩⟩
theorem mapF_dict (o : Obj) (f : Array Value → Array Value) : (o.mapFields f).dict = o.dict := by
  obtain ⟨c, d, dt, sl⟩ := o
  cases dt <;> rfl
theorem ExO.set {h : Heap} {e : Addr} {C : Value} {od : Option Addr} {vs : Array Value} (x : ExO h e C od vs) (i : Nat) (v : Value) : ExO (h.update e (Obj.mapFields (·.setIfInBounds i v))) e C od (vs.setIfInBounds i v) := by
  obtain ⟨oe, h1, h2, h3, h4, h5⟩ := x
  have hd := Obj.data_mapFields h4 (·.setIfInBounds i v)
  exact ⟨_, Heap.get?_update_self _ h1 (Obj.isFreed_of_fields hd), (Obj.cls_mapFields _ _).trans h2, (mapF_dict _ _).trans h3, hd, by simpa using h5⟩
theorem ExO.of {h h' : Heap} {e : Addr} {C : Value} {od : Option Addr} {vs : Array Value} (x : ExO h e C od vs) (k : ∀ o, h.get? e = some o → h'.get? e = some o) : ExO h' e C od vs :=
  let ⟨oe, h1, r⟩ := x; ⟨oe, k _ h1, r⟩
section
variable {M : Model} {A : Around} {E : Value → Shared → Prop} {s : Shared} {env : Env} {outer : List Env} {L e T : Addr} {C : Value} {od : Option Addr} {base : Heap}
theorem ExO.nofr {h : Heap} {l : List Env} {vs : Array Value} (x : ExO h e C od vs) (hl : h.FunFrames base l) : e ∉ l.filterMap (·.frame) := fun hm => by
  obtain ⟨_, o, ho, hn⟩ := hl.mem hm
  obtain ⟨oe, h1, _, _, h4, _⟩ := x
  rw [h1] at ho
  cases ho
  exact hn _ h4
theorem entry_ok {head : Value} {hn : Bool} {vs : Array Value} {Q : Unit → Shared → Prop} (hfr : A.frames = some (env :: outer)) (hl : s.heap.FunFrames base (env :: outer)) (hf : env.frame = some L) (x : ExO s.heap e C od vs)
    (q : ∀ h' T, Chg ((env :: outer).filterMap (·.frame)) [e] s.heap h' → Held (rawInt L) h' e T C od → s.heap.objs.size ≤ T → Q () { s with heap := h' }) :
    wpAny M A (do let a ← frameOf env; let pl ← entryPlaceOf L hn; let b ← EntryCells.newEntry head a .none (rawInt L) .none pl; setField (.ref e) 1 b) Q E s := by
  have ne := x.nofr hl
  refine wpAny_bind (wpAny_frameOf_fun hfr hl hf fun h1 so => wpAny_bind (wpAny_entryPlaceOf fun pl hp => ?_))
  unfold EntryCells.newEntry newFields
  refine wpAny_bind (wpAny_newObj_type ?_ (hp.sizeOk5 _ _ _ _ _))
  have x1 : ExO h1 e C od vs := x.of fun o z => (so.2.1 e ne).trans z
  have x2 := x1.of (h' := h1.push _) fun o z => Heap.get?_push_of_some { cls := .type "traceback", dict := none, data := .fields ([head, .ref L, .none, rawInt L, .none] ++ (if pl.isEmpty then List.replicate 6 Value.none else pl)).toArray } z
  obtain ⟨oe, a1, a2, a3, a4, a5⟩ := id x2
  refine wpAny_setField a1 a4 a5 ?_
  have hlt : e < h1.objs.size := let ⟨_, z, _⟩ := x1; Heap.lt_size z
  have fresh : s.heap.objs.size ≤ h1.objs.size := Nat.le_of_eq so.1.symm
  refine q _ h1.objs.size (((Chg.slots so).trans Chg.push).trans (Chg.upd (List.mem_singleton.mpr rfl) fun o z => ?_)) ⟨_, x2.set 1 _, ?_, Nat.ne_of_gt hlt, { cls := .type "traceback", dict := none, data := .fields ([head, .ref L, .none, rawInt L, .none] ++ (if pl.isEmpty then List.replicate 6 Value.none else pl)).toArray }, _, ?_, rfl, ?_⟩ fresh
  · rw [a1] at z
    cases z
    exact Obj.isFreed_of_fields (Obj.data_mapFields a4 _)
  · simp [a5]
  · rw [Heap.get?_update_other _ _ (Nat.ne_of_lt hlt)]
    exact Heap.get?_push_size h1 rfl
  · first | (simp; done) | (rcases hp with rfl | ⟨_, _, _, _, _, _, _, rfl⟩ <;> simp)
theorem note_ok {tr : Option Addr} {Q : Unit → Shared → Prop} (hfr : A.frames = some (env :: outer)) (hl : s.heap.FunFrames base (env :: outer)) (hf : env.frame = some L) (x : Air L s.heap e C od tr)
    (q : ∀ h' T, Chg ((env :: outer).filterMap (·.frame)) (e :: tr.toList) s.heap h' → Held (rawInt L) h' e T C od → (T ∈ tr ∨ s.heap.objs.size ≤ T) → Q () { s with heap := h' }) :
    wpAny M A (noteFrame (.ref e) env) Q E s := by
  unfold noteFrame
  simp only [hf]
  cases tr with
  | none =>
    obtain ⟨vs, x, h1⟩ := x
    obtain ⟨oe, a1, a2, a3, a4, a5⟩ := id x
    refine wpAny_bind (wpAny_field a1 a4 h1 ?_)
    rw [if_neg (by decide)]
    exact entry_ok hfr hl hf x fun h' T c hd n => q h' T c hd (.inr n)
  | some T =>
    obtain ⟨vs, f, x, ⟨t1, t2, oT, ts, t3, t4, t5⟩, hfl⟩ := x
    obtain ⟨oe, a1, a2, a3, a4, a5⟩ := id x
    refine wpAny_bind (wpAny_field a1 a4 t1 ?_)
    rw [if_pos (by simp)]
    refine wpAny_bind (wpAny_field t3 t4 t5 ?_)
    rcases hfl with rfl | rfl
    · rw [if_neg (by simp [rawInt])]
      refine wpAny_bind (wpAny_setField t3 t4 (Array.getElem?_eq_some_iff.mp t5).1 ?_)
      have k : ∀ b o, b ≠ T → s.heap.get? b = some o → (s.heap.update T (Obj.mapFields (·.setIfInBounds 3 Value.none))).get? b = some o := fun b o n z => (Heap.get?_update_other _ _ (Ne.symm n)).trans z
      have hl2 : (s.heap.update T (Obj.mapFields (·.setIfInBounds 3 Value.none))).FunFrames base (env :: outer) := hl.of_keeps fun b o z nf => ⟨o, k b o (fun w => by subst w; rw [t3] at z; cases z; exact nf _ t4) z, rfl⟩
      refine entry_ok (s := { s with heap := s.heap.update T (Obj.mapFields (·.setIfInBounds 3 Value.none)) }) hfr hl2 hf (x.of fun o z => k e o (Ne.symm t2) z) fun h' T' c hd n => q h' T' ?_ hd ?_
      · refine (Chg.upd (a := T) (by simp) fun o z => ?_).fresh c fun b hb => .inl ?_
        · rw [t3] at z
          cases z
          exact Obj.isFreed_of_fields (Obj.data_mapFields t4 _)
        · rw [List.mem_singleton.mp hb]
          exact List.mem_cons_self
      · exact .inr (Nat.le_trans (Nat.le_of_eq (Heap.size_after_update ..).symm) n)
    · rw [if_pos (by simp)]
      exact wpAny_pure (q _ T .refl ⟨vs, x, t1, t2, oT, ts, t3, t4, t5⟩ (.inl rfl))
theorem flight_ok {f : Value} {fr : Option Addr} {Q : Unit → Shared → Prop} (x : Held f s.heap e T C od)
    (q : ∀ h', Chg [] [T] s.heap h' → Held (fr.elim .none fun f => rawInt f) h' e T C od → Q () { s with heap := h' }) : wpAny M A (setFlight (.ref e) fr) Q E s := by
  obtain ⟨vs, x, t1, t2, oT, ts, t3, t4, t5⟩ := x
  obtain ⟨oe, a1, a2, a3, a4, a5⟩ := id x
  have hz := (Array.getElem?_eq_some_iff.mp t5).1
  unfold setFlight
  refine wpAny_bind (wpAny_field a1 a4 t1 ?_)
  rw [if_pos (by simp)]
  have hd := Obj.data_mapFields t4 (·.setIfInBounds 3 (fr.elim .none fun f => rawInt f))
  refine wpAny_setField t3 t4 hz (q _ (Chg.upd (by simp) fun o z => ?_) ⟨vs, x.of fun o z => ?_, t1, t2, _, _, Heap.get?_update_self _ t3 (Obj.isFreed_of_fields hd), hd, by simp [hz]⟩)
  · rw [t3] at z
    cases z
    exact Obj.isFreed_of_fields hd
  · exact (Heap.get?_update_other _ _ t2).trans z
theorem Held.air {f : Value} {h : Heap} (x : Held f h e T C od) (hf : f = .none ∨ f = rawInt L) : Air L h e C od (some T) := let ⟨vs, a, b⟩ := x; ⟨vs, f, a, b, hf⟩
theorem leave_ok {tr : Option Addr} {Q : Unit → Shared → Prop} (hfr : A.frames = some (env :: outer)) (hl : s.heap.FunFrames base (env :: outer)) (hf : env.frame = some L) (x : Air L s.heap e C od tr)
    (q : ∀ h' T, Chg ((env :: outer).filterMap (·.frame)) (e :: tr.toList) s.heap h' → Held .none h' e T C od → (T ∈ tr ∨ s.heap.objs.size ≤ T) → Q () { s with heap := h' }) : wpAny M A (leaving env (.ref e)) Q E s := by
  unfold leaving
  refine wpAny_bind (note_ok hfr hl hf x fun h' T c hd n => flight_ok hd fun h2 c2 hd2 => q h2 T ?_ hd2 n)
  refine c.fresh (rs' := [T]) ⟨fun b o _ r z => c2.keep b o (by simp) r z, c2.slot, c2.there⟩ fun b hb => ?_
  rw [List.mem_singleton.mp hb]
  exact n.imp (fun z => List.mem_cons_of_mem _ (by cases tr with | none => cases z | some t => cases z; exact List.mem_singleton.mpr rfl)) Heap.get?_none_of_le
end
end L2

namespace L2
open PySem PySem.Spec PyProof.Rows
section
variable {P : Program} {w : World} {H : Hp} {h h' : Heap} {a : Addr} {o : HO}
theorem ObjOk.there (x : ObjOk P w H h a o) : ∃ ob, h.get? a = some ob := by
  cases o with
  | lst xs => obtain ⟨_, _, _, _, e⟩ := x; exact ⟨_, e⟩
  | tup xs => obtain ⟨_, _, _, _, e, _⟩ := x; exact ⟨_, e⟩
  | dK kvs => obtain ⟨_, _, _, _, o, _, _, e, _⟩ := x; exact ⟨_, e⟩
  | dT kvs => obtain ⟨_, _, _, _, o, _, _, e, _⟩ := x; exact ⟨_, e⟩
  | set S n => obtain ⟨o, _, _, _, e, _⟩ := x; exact ⟨_, e⟩
  | ins C dx fs => obtain ⟨_, _, _, e, _⟩ := x; exact ⟨_, e⟩
  | own y => exact x
  | xd fs => obtain ⟨_, ⟨_, _, _, e, _⟩, _⟩ := x; exact ⟨_, e⟩
  | rng lo hi => obtain ⟨_, _, _, e⟩ := x; exact ⟨_, e⟩
  | frz ob u => exact ⟨_, x.1⟩
  | tbl ps => exact ⟨_, show h.get? a = some _ from x⟩
  | met f y => exact ⟨_, show h.get? a = some _ from x⟩
  | ext φ => exact x.2.1
theorem HOk.free (x : HOk P w H h) (e : h.get? a = none) : H a = none := by
  cases q : H a with
  | none => rfl
  | some o =>
    obtain ⟨_, z⟩ := (x a o q).there
    rw [e] at z
    cases z
theorem HOk.chg {fr rs : List Addr} (x : HOk P w H h) (c : Chg fr rs h h') (hf : ∀ b ∈ fr, H b = none) (hr : ∀ b ∈ rs, H b = none) : HOk P w H h' := by
  intro a o e
  refine (x a o e).stay (fun b u hb z => ?_) (fun _ q => q) fun _ _ q => q
  have n : H b ≠ none := by
    rcases hb with rfl | q
    · rw [e]; intro y; cases y
    · rw [q]; intro y; cases y
  exact c.keep b u (fun m => n (hf b m)) (fun m => n (hr b m)) z
end
def Recs (h : Heap) (rs : List Addr) : Prop := ∀ b ∈ rs, ∃ o vs, h.get? b = some o ∧ o.data = .fields vs
theorem Air.recs {L e : Addr} {h : Heap} {C : Value} {od tr : Option Addr} (x : Air L h e C od tr) : Recs h (e :: tr.toList) := by
  intro b hb
  cases tr with
  | none =>
    obtain ⟨vs, ⟨oe, a1, _, _, a4, _⟩, _⟩ := x
    have e' : b = e := by simpa using hb
    subst e'
    exact ⟨_, _, a1, a4⟩
  | some T =>
    obtain ⟨vs, f, ⟨oe, a1, _, _, a4, _⟩, ⟨_, _, oT, ts, t3, t4, _⟩, _⟩ := x
    have e' : b = e ∨ b = T := by simpa using hb
    rcases e' with rfl | rfl
    · exact ⟨_, _, a1, a4⟩
    · exact ⟨_, _, t3, t4⟩
def Ours (X : Cx) (pins : List (Addr × Obj)) (H : Hp) (rs : List Addr) : Prop := ∀ b ∈ rs, (X.s₀.heap.get? b = none ∨ b ∈ X.ex) ∧ H b = none ∧ ∀ p ∈ X.pn ++ pins, p.1 ≠ b
section
variable {X : Cx} {pins : List (Addr × Obj)} {σ : St} {H : Hp} {s : Shared} {h' : Heap} {rs : List Addr}
theorem Inv.chg {t' : Nat} (I : Inv X pins σ H s) (c : Chg (frs X.stack) rs s.heap h') (o : Ours X pins H rs) (rc : Recs s.heap rs) : Inv X pins σ H { s with heap := h', toks := t' } := by
  obtain ⟨m, hn, hv⟩ := I.loc
  have nl : X.env.locals ∉ rs := fun z => by
    obtain ⟨ob, vs, e, d⟩ := rc _ z
    obtain ⟨o', es, ep, ho, hd, _⟩ := hn
    rw [e] at ho
    cases ho
    rw [d] at hd
    cases hd
  have nc : ∀ c v, s.heap.IsCell c v → c ∉ rs := fun c v q z => by
    obtain ⟨ob, vs, e, d⟩ := rc _ z
    obtain ⟨o', ho, hd⟩ := q
    rw [e] at ho
    cases ho
    rw [d] at hd
    cases hd
  have cellk : ∀ c v, s.heap.IsCell c v → h'.IsCell c v := fun a v q => by
    have n := nc a v q
    obtain ⟨o', ho, hd⟩ := q
    obtain ⟨sl, z⟩ := c.slot a o' n ho
    exact ⟨_, z, hd⟩
  have old : ∀ b ob, X.s₀.heap.get? b = some ob → b ∉ X.ex → b ∉ rs := fun b ob q ne z => by
    rcases (o b z).1 with y | y
    · rw [q] at y; cases y
    · exact ne y
  have ns' : h'.Ns X.env.locals m := by
    obtain ⟨o', es, ep, ho, r⟩ := hn
    obtain ⟨sl, z⟩ := c.slot _ o' nl ho
    exact ⟨_, es, ep, z, r⟩
  refine ⟨I.ok, I.os, I.bare, ⟨fun b ob q n nf ne => ?_, fun b ob q n hf ne => ?_, I.base.free, fun b ob q ne => ?_, I.base.tups, I.base.frzs, I.base.tbls⟩,
    ⟨m, ns', fun i x v e1 e2 e3 => ?_⟩, fun x a e => ?_, I.free, I.freeC, fun p hp => ?_, I.hok.chg c I.stkFree fun b hb => (o b hb).2.1, I.len⟩
  · refine c.keep b ob (fun z => ?_) (old b ob q ne) (I.base.keep b ob q n nf ne)
    rcases List.mem_cons.mp (I.stkSub b z) with rfl | y
    · exact absurd (Heap.lt_size q) (Nat.not_lt.mpr I.ok.above)
    · exact nf y
  · obtain ⟨sl, z⟩ := I.base.slot b ob q n hf ne
    obtain ⟨sl', z'⟩ := c.slot b _ (old b ob q ne) z
    exact ⟨sl', z'⟩
  · obtain ⟨o', z⟩ := I.base.there b ob q ne
    exact c.there b o' z
  · obtain ⟨u, r, lk⟩ := hv i x v e1 e2 e3
    refine ⟨u, r, lk.imp id fun ⟨k, cc, l, q⟩ => ⟨k, cc, l, cellk _ _ q⟩⟩
  · obtain ⟨v, q⟩ := I.cell x a e
    exact ⟨v, cellk _ _ q⟩
  · obtain ⟨p1, p2, p3, p4, p5⟩ := I.pin p hp
    refine ⟨c.keep _ _ (fun z => ?_) (fun z => (o _ z).2.2 p hp rfl) p1, p2, p3, p4, p5⟩
    rcases List.mem_cons.mp (I.stkSub _ z) with y | y
    · exact p3 y
    · exact p4 y
end
def CXe (P : Program) (w : World) : CXT := fun outer H s E e s' => ∃ ea T C od H', e = .ref ea ∧ s'.os = s.os ∧ AllBare s'.gens ∧ Un (frs outer) [] H H' s.heap s'.heap ∧ HOk P w H' s'.heap ∧
  Held .none s'.heap ea T C od ∧ (s.heap.get? ea = none ∧ s.heap.get? T = none) ∧ (H' ea = none ∧ H' T = none) ∧ E C od H'
def Takes (X : Cx) (ES : St → XK) : Prop := ∀ (pins : List (Addr × Obj)) (σ : St) (H : Hp) (s : Shared) (ea : Addr) (tr : Option Addr) (C : Value) (od : Option Addr),
  Inv X pins σ H s → Air X.env.locals s.heap ea C od tr → Ours X pins H (ea :: tr.toList) → ES σ C od H → X.xe (.ref ea) s
def PassesS (CX : CXT) (X : Cx) (ES : St → XK) : Prop := ∀ (pins : List (Addr × Obj)) (σ : St) (H : Hp) (s : Shared) (e : Value) (s' : Shared), Inv X pins σ H s → CX X.stack H s (ES σ) e s' → X.xe e s'
theorem Takes.passes {X : Cx} {ES : St → XK} (t : Takes X ES) : PassesS (CXe X.prog X.w) X ES := by
  intro pins σ H s e s' I ⟨ea, T, C, od, H', e1, ho, hg, u, hok, hd, ⟨f1, f2⟩, ⟨g1, g2⟩, q⟩
  subst e1
  refine t pins σ H' s' ea (some T) C od (I.call' ho u hok hg fun b hb => by cases hb) (hd.air (.inl rfl)) (fun b hb => ?_) q
  have key : ∀ b, s.heap.get? b = none → H' b = none → (X.s₀.heap.get? b = none ∨ b ∈ X.ex) ∧ H' b = none ∧ ∀ p ∈ X.pn ++ pins, p.1 ≠ b := fun b f g => by
    refine ⟨?_, g, fun p hp z => ?_⟩
    · by_cases y : b ∈ X.ex
      · exact .inr y
      · refine .inl ?_
        cases z : X.s₀.heap.get? b with
        | none => rfl
        | some ob =>
          obtain ⟨o', z'⟩ := I.base.there b ob z y
          rw [f] at z'
          cases z'
    · have y := (I.pin p hp).1
      rw [z, f] at y
      cases y
  have e' : b = ea ∨ b = T := by simpa using hb
  rcases e' with rfl | rfl
  · exact key _ f1 g1
  · exact key _ f2 g2
theorem takes_fn {P : Program} {w : World} {K : PySem.W.Frag} {mg : Str → Option Value} {base : Heap} {N : List Str} {qual : Str} {scope : Scope} {f : Addr} {cd : Value} {A : Around} {outer : List Env} {s : Shared} {H : Hp} {E : XK} :
    Takes (cxOf (CXe P w) P w K mg base N qual scope f cd A outer s H E) (fun _ => E) := by
  intro pins σ H' s' ea tr C od I air ours q
  refine leave_ok (base := base) I.ok.frames I.stack rfl air fun h' T c hd n => ?_
  have I2 := I.chg (t' := s'.toks) c ours air.recs
  have out : ∀ b, s'.heap.objs.size ≤ b → s.heap.get? b = none := fun b z => by
    cases y : s.heap.get? b with
    | none => rfl
    | some ob =>
      obtain ⟨o', y'⟩ := I.base.there b ob y (by intro m; cases m)
      exact absurd (Heap.lt_size y') (Nat.not_lt.mpr z)
  have own : ∀ b, b ∈ ea :: tr.toList → s.heap.get? b = none ∧ H' b = none := fun b hb => ⟨(ours b hb).1.elim id (fun z => by cases z), (ours b hb).2.1⟩
  have hT : s.heap.get? T = none ∧ H' T = none := by
    rcases n with z | z
    · exact own T (List.mem_cons_of_mem _ (by cases tr with | none => cases z | some t => cases z; exact List.mem_singleton.mpr rfl))
    · exact ⟨out T z, I.hok.fresh z⟩
  exact ⟨ea, T, C, od, H', rfl, I.os, I.bare, I2.base, I2.hok, hd, ⟨(own ea (List.mem_cons_self)).1, hT.1⟩, ⟨(own ea (List.mem_cons_self)).2, hT.2⟩, q⟩
end L2

namespace L2
open PySem PySem.Spec PyProof.Rows
def tMakeS (C : Addr) (sp : Sp) (dvs : List V) (ES : St → XK) (t : TA) : TE := fun σ H Q => t σ H fun vs H1 => ∀ x dx, H1 x = none → H1 dx = none → dx ≠ x →
  sp (.ref x :: (vs ++ dvs)) (upd (upd H1 dx (.own x)) x (.ins C dx [])) (fun v H2 => v = .non ∧ Q (.ref x) H2) (ES σ)
theorem takes_never {X : Cx} : Takes X (fun _ _ _ _ => False) := fun _ _ _ _ _ _ _ _ _ _ _ h => h.elim
section
variable {X : Cx} {k : Nat} {f C : Addr} {fd : FuncData} {ps : List Str} {sp : Sp} {dvs : List V} {ds : List Value} {E : XK} {ES : St → XK} {x m : Str} {p pos apos : Pos} {e o : Expr} {es : List Expr} {ta : TE} {t : TA}
theorem run_makeS {pins : List (Addr × Obj)} {σ : St} {H : Hp} {s : Shared} {Q : VK} {us : List Value} {vs : List V} (M : Mk X.K C f) (F : FnOk X.prog X.w X.K X.mg X.base (CXe X.prog X.w) k f fd ps sp) (hr : Room (k + 1) X.A) (hb : Binds X.K fd ps ds) (hd : Vals dvs ds)
    (tk : Takes X ES) (I : Inv X pins σ H s) (r : Vals vs us)
    (h : ∀ x dx, H x = none → H dx = none → dx ≠ x → sp (.ref x :: (vs ++ dvs)) (upd (upd H dx (.own x)) x (.ins C dx [])) (fun v H2 => v = .non ∧ Q (.ref x) H2) (ES σ)) :
    wpAny (model X.prog X.w) X.A (call (.ref C) us) (EP X pins σ Q) X.xe s := by
  have hq := h (s.heap.objs.size + 1) s.heap.objs.size (I.hok.fresh (Nat.le_succ _)) (I.hok.fresh (Nat.le_refl _)) (Nat.ne_of_lt (Nat.lt_succ_self _))
  have I2 := Inv.made (C := C) I
  have r2 : Vals (V.ref (s.heap.objs.size + 1) :: (vs ++ dvs)) (Value.ref (s.heap.objs.size + 1) :: (us ++ ds)) := .cons rfl (r.append hd)
  have hl : (Value.ref (s.heap.objs.size + 1) :: us ++ ds).length = ps.length := by
    have e := r2.length
    rw [F.len _ _ _ _ hq] at e
    exact e.symm
  refine wpAny_call (make_map (f := f) I.kIn M.makes M.init (beq_iff_eq.mp M.fn) (codeAny_mono (F.run _ X.stack _ _ ⟨Value.ref (s.heap.objs.size + 1) :: us, []⟩ (Value.ref (s.heap.objs.size + 1) :: (us ++ ds)) _ _ (ES σ) (hr.make C us [])
    (I2.env0.make C us []) (hb _ (Value.ref (s.heap.objs.size + 1) :: us) I2.kIn hl) r2 hq) fun r s' hq' => ?_))
  cases r with
  | error e => exact tk.passes pins σ _ _ e s' I2 hq'
  | ok fl =>
    cases fl with
    | ret u =>
      obtain ⟨v, H', I3, rv, ev, q3⟩ := I2.after hq'
      subst ev
      exact ⟨rv, ⟨V.ref (s.heap.objs.size + 1), H', I3, rfl, q3⟩⟩
    | next => exact False.elim hq'
    | brk => exact False.elim hq'
    | cont => exact False.elim hq'
theorem pe_makeS (tk : Takes X ES) (M : Mk X.K C f) (F : FnOk X.prog X.w X.K X.mg X.base (CXe X.prog X.w) k f fd ps sp) (hr : Room (k + 1) X.A) (hg : Gl X x) (hm : X.mg x = some (.ref C)) (hb : Binds X.K fd ps ds) (hd : Vals dvs ds)
    (ha : PA X (e :: es) t) (hdb : (x == ("__debug__" : Str)) = false := by decide) (he : starEach (e :: es) X.env = (false, eval e X.env) :: starEach es X.env := by rfl) (hpl : (backTo pos (starEach es X.env)).any (·.1) = false := by rfl) :
    PE X (.Call (.Name x p) (e :: es) [] pos) (tMakeS C sp dvs ES t) := by
  intro pins s σ H Q I h
  refine wpAny_Call_Name_kw (ld_glob I hg hm ?_ hdb)
  refine PySem.W.callWith_K (h₀ := X.base) I.ok.mod.kin M.kp (thn (ha pos pins s σ H _ I h) fun us s1 ⟨vs, H1, I1, r, q⟩ => ⟨I1.kIn, ?_⟩) he hpl
  exact run_makeS M F hr hb hd tk I1 r q
end
structure FunD (K : PySem.W.Frag) (x qual : Str) (st : Stmt) (dV : Value) (f : Addr) (fd : FuncData) : Prop where
  ex : ∃ (oc : Value) (od : Option Addr) (kV doc pm : Value) (an : Option Addr) (cdv ct : Value) (osl : Array (Option Value)),
    fd = PySem.W.fnOf x qual (defArgs st) (defBody st) (defScope st) dV kV doc pm an cdv ct ∧ K.lookup f = some ⟨oc, od, .func fd, osl⟩ ∧ PySem.W.codeIn K cdv qual = true
section
variable {P : Program} {w : World} {K : PySem.W.Frag} {mg : Str → Option Value} {base : Heap} {dV : Value}
theorem Fun.d {x qual : Str} {st : Stmt} {f : Addr} {fd : FuncData} (F : Fun K x qual st f fd) : FunD K x qual st .none f fd := ⟨F.ex⟩
theorem FunD.mk' {x qual : Str} {st : Stmt} {f : Addr} {oc : Value} {od an : Option Addr} {osl : Array (Option Value)} {kV doc pm cdv ct : Value} (l : K.lookup f = some ⟨oc, od, .func (PySem.W.fnOf x qual (defArgs st) (defBody st) (defScope st) dV kV doc pm an cdv ct), osl⟩)
    (c : PySem.W.codeIn K cdv qual = true) : FunD K x qual st dV f (PySem.W.fnOf x qual (defArgs st) (defBody st) (defScope st) dV kV doc pm an cdv ct) := ⟨⟨oc, od, kV, doc, pm, an, cdv, ct, osl, rfl, l, c⟩⟩
theorem FunD.okE {x qual : Str} {st : Stmt} {f : Addr} {fd : FuncData} {N ps : List Str} {k : Nat} {sp : Sp} (F : FunD K x qual st dV f fd) (S : FnScope N ps (defScope st)) (len : ∀ vs H Q E, sp vs H Q E → vs.length = ps.length)
    (hbody : ∀ (cdv : Value) (A : Around) (outer : List Env) (s : Shared) (H : Hp) (vs : List V) (Q : VK) (E : XK), Room k (A.deeper (envOfC qual (defScope st) s.heap.objs.size f cdv)) → sp vs H Q E →
      ∃ t, PSs (cxOf (CXe P w) P w K mg base N qual (defScope st) f cdv A outer s H E) (defBody st) t ∧ t { nx := fun _ H' => Q .non H', rt := Q } (start N vs) H) : FnOk P w K mg base (CXe P w) (k + 1) f fd ps sp := by
  obtain ⟨oc, od, kV, doc, pm, an, cdv, ct, osl, rfl, lk, hcd⟩ := F.ex
  exact fn_of lk hcd S len fun A outer s H vs Q E hr hsp => hbody cdv A outer s H vs Q E hr hsp
theorem FunD.ok0 {x qual : Str} {st : Stmt} {f : Addr} {fd : FuncData} {N ps : List Str} {k : Nat} {sp : Sp} (F : FunD K x qual st dV f fd) (S : FnScope N ps (defScope st)) (len : ∀ vs H Q E, sp vs H Q E → vs.length = ps.length)
    (hbody : ∀ (cdv : Value) (A : Around) (outer : List Env) (s : Shared) (H : Hp) (vs : List V) (Q : VK) (E : XK), Room k (A.deeper (envOfC qual (defScope st) s.heap.objs.size f cdv)) → sp vs H Q E →
      ∃ t, PSs (cxOf CX0 P w K mg base N qual (defScope st) f cdv A outer s H E).nox (defBody st) t ∧ t { nx := fun _ H' => Q .non H', rt := Q } (start N vs) H) : FnOk P w K mg base CX0 (k + 1) f fd ps sp := by
  obtain ⟨oc, od, kV, doc, pm, an, cdv, ct, osl, rfl, lk, hcd⟩ := F.ex
  refine fn_of lk hcd S len fun A outer s H vs Q E hr hsp => ?_
  obtain ⟨t, h, q⟩ := hbody cdv A outer s H vs Q E hr hsp
  exact ⟨t, h.nox, q⟩
end
abbrev bmVE : List Value := [.type "ValueError", .type "Exception", .type "BaseException", .type "object"]
abbrev XCls (K : PySem.W.Frag) (C : Addr) : Prop := PySem.W.excIn K C bmVE "ValueError.__new__" = true
theorem xcls_at {K : PySem.W.Frag} {C : Addr} (q : XCls K C) : ∃ bm N nm qn bs hd sn sub ab col dd k0 k1 k2 k3 k5, K.lookup C = some (excClassObj nm qn C N bs bm hd sn sub ab col dd k0 k1 k2 k3 k5 "ValueError.__new__") ∧
    PySem.W.tailIn K bmVE bm = true ∧ PySem.W.nsOkIn K N = true ∧ PySem.W.nsIn K N "__init__" = some none := by
  unfold XCls PySem.W.excIn at q
  split at q
  · rename_i dd cd sl ho
    split at q
    · rename_i C' bm k0 k1 k2 k3 n k5 hm hs
      obtain ⟨nm, bs, mro, ns, qn, hd, sn, sub, ab, col, del⟩ := cd
      obtain ⟨l⟩ := sl
      simp only [Bool.and_eq_true, beq_iff_eq, Bool.not_eq_true'] at q hm hs
      obtain ⟨⟨⟨⟨⟨e1, e2⟩, e3⟩, e4⟩, e5⟩, e6⟩ := q
      subst e1 e2 e3 hm hs
      exact ⟨bm, ns, nm, qn, bs, hd, sn, sub, ab, col, dd, k0, k1, k2, k3, k5, ho, e4, e5, e6⟩
    · cases q
  · cases q
def tRaise (ES : St → XK) (C : Addr) (t : TA) : TS := fun _ σ H => t σ H fun vs H1 => vs.length ≤ sizeLine ∧ ES σ (.ref C) none H1
section
variable {X : Cx} {ES : St → XK} {C : Addr} {x : Str} {np cpos pos : Pos} {e : Expr} {es : List Expr} {t : TA}
theorem made_air {pins : List (Addr × Obj)} {σ : St} {H : Hp} {s : Shared} {h' : Heap} {ea : Addr} {C : Value} {vs : List Value} (I : Inv X pins σ H s) (m : Heap.MadeExcOf s.heap h' ea C vs) :
    Air X.env.locals h' ea C none none ∧ Ours X pins H [ea] := by
  obtain ⟨t, m1, m2, m3⟩ := m.there
  refine ⟨⟨_, ⟨_, m1, rfl, rfl, rfl, by simp⟩, rfl⟩, fun b hb => ?_⟩
  rw [List.mem_singleton.mp hb]
  refine ⟨?_, I.hok.free m.new, fun p hp z => ?_⟩
  · by_cases y : ea ∈ X.ex
    · exact .inr y
    · refine .inl ?_
      cases z : X.s₀.heap.get? ea with
      | none => rfl
      | some ob =>
        obtain ⟨o', z'⟩ := I.base.there ea ob z y
        rw [m.new] at z'
        cases z'
  · have y := (I.pin p hp).1
    rw [z, m.new] at y
    cases y
theorem ps_raise (tk : Takes X ES) (hc : X.calm = true) (hg : Gl X x) (hm : X.mg x = some (.ref C)) (hx : XCls X.K C) (ha : PA X (e :: es) t) (hdb : (x == ("__debug__" : Str)) = false := by decide)
    (he : starEach (e :: es) X.env = (false, eval e X.env) :: starEach es X.env := by rfl) (hpl : (backTo cpos (starEach es X.env)).any (·.1) = false := by rfl) :
    PS X (.Raise (some (.Call (.Name x np) (e :: es) [] cpos)) none pos) (tRaise ES C t) := by
  intro pins s σ H D I hq
  obtain ⟨bm, N, nm, qn, bs, hd, sn, sub, ab, col, dd, k0, k1, k2, k3, k5, lk, tl, ok, ni⟩ := xcls_at hx
  have kb := I.mod.kin
  have T0 := PySem.W.tail_of_in kb tl
  have hN : X.base.Ns N (X.base.nsMap N) := .of_isNs (PySem.W.isNs_of_in kb ok)
  have hni := PySem.W.nsMap_none_of_in kb ok ni
  have hplain : (backTo cpos (starEach (e :: es) X.env)).any (·.1) = false := by
    rw [he]
    show (false || (backTo cpos (starEach es X.env)).any (·.1)) = false
    rw [hpl]
    rfl
  refine wpAny_Raise_call_subT (C := C) (nm := nm) (q := qn) (N := N) (bs := bs) (bm := bm) (hdct := hd) (sn := sn) (sub := sub) (ab := ab) (col := col) (dd := dd) (k0 := k0) (k1 := k1) (k2 := k2) (k3 := k3) (k5 := k5) (mN := X.base.nsMap N)
    PySem.F.excBase_ValueError (T0.hasType (by decide)) (I.ok.hd hc) hplain hni (ld_glob I hg hm ⟨rfl, ?_⟩ hdb)
  have h0 := ha cpos pins s σ H _ I hq
  rw [he] at h0 ⊢
  refine PySem.Calls.evalArgs_plain (wpAny_mono h0 (fun us s1 h1 => ?_) fun _ _ y => y)
  obtain ⟨vs, H1, I1, r, hz, hE⟩ := h1
  refine ⟨rfl, by rw [← r.length]; exact hz, I1.bk _ _ (kb _ _ lk), ?_, T0.keeps I1.bk, fun h' ea m => ?_⟩
  · obtain ⟨o', es', ep', z, rr⟩ := hN
    exact ⟨o', es', ep', I1.bk _ _ z, rr⟩
  · obtain ⟨air, ours⟩ := made_air I1 m
    refine tk pins σ H1 { s1 with heap := h' } ea none (.ref C) none (I1.kept (t' := s1.toks) m.keeps) air ours hE
end
end L2

namespace L2
open PySem PySem.Spec PyProof.Rows
abbrev Cx.tr (X : Cx) (pins : List (Addr × Obj)) (XE : Value → Shared → Prop) : Cx := { X with pn := X.pn ++ pins, xe := XE }
abbrev Cx.sui (X : Cx) (e : Addr) : Cx := { X with A := X.A.mark (some (.ref e)), calm := false, xe := fun _ _ => False }
theorem Chg.mono {fr fr' rs rs' : List Addr} {h h' : Heap} (c : Chg fr rs h h') (f : ∀ b ∈ fr, b ∈ fr') (r : ∀ b ∈ rs, b ∈ rs') : Chg fr' rs' h h' :=
  ⟨fun b o a z e => c.keep b o (fun y => a (f b y)) (fun y => z (r b y)) e, fun b o z e => c.slot b o (fun y => z (r b y)) e, c.there⟩
theorem Held.recs {f : Value} {e T : Addr} {h : Heap} {C : Value} {od : Option Addr} (x : Held f h e T C od) : Recs h [e, T] := by
  obtain ⟨vs, ⟨oe, a1, _, _, a4, _⟩, _, _, oT, ts, t3, t4, _⟩ := x
  intro b hb
  have e' : b = e ∨ b = T := by simpa using hb
  rcases e' with rfl | rfl
  · exact ⟨_, _, a1, a4⟩
  · exact ⟨_, _, t3, t4⟩
section
variable {X : Cx} {pins : List (Addr × Obj)} {σ : St} {H : Hp} {s : Shared} {XE : Value → Shared → Prop}
theorem Inv.tr (I : Inv X pins σ H s) (XE : Value → Shared → Prop) : Inv (X.tr pins XE) [] σ H s :=
  have ok := I.ok
  ⟨⟨ok.mod, ok.kind, ok.glob, ok.blt, ok.above, ok.inj, ok.has, ok.cab, ok.hd, ok.frames, ok.stk, ok.exf, ok.bs, ok.bsz, ok.noex, ok.exfs, ok.funs, ok.frf⟩, I.os, I.bare, I.base, I.loc, I.cell, I.free, I.freeC, fun p hp => I.pin p (by simpa using hp), I.hok, I.len⟩
theorem Inv.untr {ps : List (Addr × Obj)} (I : Inv (X.tr pins XE) ps σ H s) : Inv X pins σ H s :=
  have ok := I.ok
  ⟨⟨ok.mod, ok.kind, ok.glob, ok.blt, ok.above, ok.inj, ok.has, ok.cab, ok.hd, ok.frames, ok.stk, ok.exf, ok.bs, ok.bsz, ok.noex, ok.exfs, ok.funs, ok.frf⟩, I.os, I.bare, I.base, I.loc, I.cell, I.free, I.freeC, fun p hp => I.pin p (List.mem_append_left _ hp), I.hok, I.len⟩
theorem Inv.sui (I : Inv X pins σ H s) (e : Addr) : Inv (X.sui e) pins σ H s :=
  have ok := I.ok
  ⟨⟨ok.mod, ok.kind, ok.glob, ok.blt, ok.above, ok.inj, ok.has, ok.cab, (fun z => by cases z), ok.frames, ok.stk, ok.exf, ok.bs, ok.bsz, ok.noex, ok.exfs, ok.funs, ok.frf⟩, I.os, I.bare, I.base, I.loc, I.cell, I.free, I.freeC, I.pin, I.hok, I.len⟩
theorem Inv.unsui {e : Addr} (hc : X.calm = true → X.A.handled = none) (I : Inv (X.sui e) pins σ H s) : Inv X pins σ H s :=
  have ok := I.ok
  ⟨⟨ok.mod, ok.kind, ok.glob, ok.blt, ok.above, ok.inj, ok.has, ok.cab, hc, ok.frames, ok.stk, ok.exf, ok.bs, ok.bsz, ok.noex, ok.exfs, ok.funs, ok.frf⟩, I.os, I.bare, I.base, I.loc, I.cell, I.free, I.freeC, I.pin, I.hok, I.len⟩
theorem SP.untr {D : Ends} {f : Flow} {s' : Shared} (h : SP (X.tr pins XE) [] D f s') : SP X pins D f s' := by
  cases f with
  | next => obtain ⟨σ', H', I, q⟩ := h; exact ⟨σ', H', I.untr, q⟩
  | brk => obtain ⟨σ', H', I, q⟩ := h; exact ⟨σ', H', I.untr, q⟩
  | cont => obtain ⟨σ', H', I, q⟩ := h; exact ⟨σ', H', I.untr, q⟩
  | ret u => obtain ⟨v, σ', H', I, r, q⟩ := h; exact ⟨v, σ', H', I.untr, r, q⟩
theorem SP.unsui {e : Addr} {D : Ends} {f : Flow} {s' : Shared} (hc : X.calm = true → X.A.handled = none) (h : SP (X.sui e) pins D f s') : SP X pins D f s' := by
  cases f with
  | next => obtain ⟨σ', H', I, q⟩ := h; exact ⟨σ', H', I.unsui hc, q⟩
  | brk => obtain ⟨σ', H', I, q⟩ := h; exact ⟨σ', H', I.unsui hc, q⟩
  | cont => obtain ⟨σ', H', I, q⟩ := h; exact ⟨σ', H', I.unsui hc, q⟩
  | ret u => obtain ⟨v, σ', H', I, r, q⟩ := h; exact ⟨v, σ', H', I.unsui hc, r, q⟩
theorem SP.mono {D D' : Ends} {f : Flow} {s' : Shared} (h : SP X pins D f s') (hn : ∀ σ H, D.nx σ H → D'.nx σ H) (hr : ∀ v H, D.rt v H → D'.rt v H) (hb : ∀ σ H, D.bk σ H → D'.bk σ H) (hc : ∀ σ H, D.ct σ H → D'.ct σ H) : SP X pins D' f s' := by
  cases f with
  | next => obtain ⟨σ', H', I, q⟩ := h; exact ⟨σ', H', I, hn _ _ q⟩
  | brk => obtain ⟨σ', H', I, q⟩ := h; exact ⟨σ', H', I, hb _ _ q⟩
  | cont => obtain ⟨σ', H', I, q⟩ := h; exact ⟨σ', H', I, hc _ _ q⟩
  | ret u => obtain ⟨v, σ', H', I, r, q⟩ := h; exact ⟨v, σ', H', I, r, hr _ _ q⟩
end
def IsExc (ea : Addr) (C : Value) (od : Option Addr) : Heap → Prop := fun h => ∃ o vs, h.get? ea = some o ∧ o.cls = C ∧ o.dict = od ∧ o.data = .fields vs
abbrev XO (ea : Addr) (C : Value) (od : Option Addr) : HO := .ext (IsExc ea C od)
abbrev TH := Ends → St → Hp → Addr → Value → Option Addr → Prop
def PHs (X : Cx) (hs : List ExceptHandler) (t : TH) : Prop := ∀ (pins : List (Addr × Obj)) (s : Shared) (σ : St) (H : Hp) (D : Ends) (ea T : Addr) (C : Value) (od : Option Addr),
  Inv X pins σ H s → Held .none s.heap ea T C od → Ours X pins H [ea, T] → t D σ H ea C od → wpAny (model X.prog X.w) X.A (handleBy (.ref ea) X.env hs) (SP X pins D) X.xe s
section
variable {X : Cx} {ES : St → XK}
theorem ph_nil (tk : Takes X ES) (hf : X.env.frame = some X.env.locals := by rfl) : PHs X [] (fun _ σ H _ C od => ES σ C od H) := by
  intro pins s σ H D ea T C od I hd ours q
  refine wpAny_handleBy_nil ?_
  unfold PySem.passOn
  have rc := hd.recs
  obtain ⟨vs, x, t1, t2, oT, ts, t3, t4, t5⟩ := id hd
  obtain ⟨oe, a1, a2, a3, a4, a5⟩ := id x
  refine wpAny_bind (wpAny_field a1 a4 t1 ?_)
  rw [if_neg (by simp)]
  refine wpAny_bind (flight_ok hd fun h' c hd2 => wpAny_throw ?_)
  rw [hf] at hd2
  exact tk pins σ H { s with heap := h' } ea (some T) C od (I.chg (t' := s.toks) (rs := [ea, T]) (c.mono (by simp) (by simp)) ours rc) (hd2.air (.inr rfl)) ours q
theorem Inv.pinX {pins : List (Addr × Obj)} {σ : St} {H : Hp} {s : Shared} {ea T : Addr} {C : Value} {od : Option Addr} {f : Value} (I : Inv X pins σ H s) (hd : Held f s.heap ea T C od) (ours : Ours X pins H [ea, T]) :
    ∃ oe oT, Inv X (pins ++ [(ea, oe), (T, oT)]) σ H s ∧ ∀ h' : Heap, h'.get? ea = some oe → h'.get? T = some oT → Held f h' ea T C od := by
  have rc := hd.recs
  obtain ⟨vs, ⟨oe, a1, a2, a3, a4, a5⟩, t1, t2, oT, ts, t3, t4, t5⟩ := hd
  refine ⟨oe, oT, I.pins_of fun p hp => ?_, fun h' z1 z2 => ⟨vs, ⟨oe, z1, a2, a3, a4, a5⟩, t1, t2, oT, ts, z2, t4, t5⟩⟩
  have nl : ∀ b o ws, s.heap.get? b = some o → o.data = .fields ws → b ≠ X.env.locals ∧ b ∉ X.fs := fun b o ws e d => by
    refine ⟨fun z => ?_, fun z => ?_⟩
    · obtain ⟨m, ⟨o', es, ep, ho, hd', _⟩, _⟩ := I.loc
      rw [← z, e] at ho
      cases ho
      rw [d] at hd'
      cases hd'
    · obtain ⟨_, o', ho, hn⟩ := I.funs.mem z
      rw [e] at ho
      cases ho
      exact hn _ d
  rcases List.mem_append.mp hp with z | z
  · exact I.pin p (List.mem_append_right _ z)
  · have z : p = (ea, oe) ∨ p = (T, oT) := by simpa using z
    rcases z with rfl | rfl
    · exact ⟨a1, (ours ea (by simp)).2.1, (nl _ _ _ a1 a4).1, (nl _ _ _ a1 a4).2, fun v q => by rw [a4] at q; cases q⟩
    · exact ⟨t3, (ours T (by simp)).2.1, (nl _ _ _ t3 t4).1, (nl _ _ _ t3 t4).2, fun v q => by rw [t4] at q; cases q⟩
theorem clause_test {ty : Expr} {c : V} {cv : Value} {pins : List (Addr × Obj)} {s : Shared} {σ : St} {H : Hp} {ea T : Addr} {C : Value} {od : Option Addr} {b : Bool} {R : Result → Shared → Prop} {pos : Pos} (hc : PE (X.sui ea) ty (tC c)) (rc : RelV c cv)
    (I : Inv X pins σ H s) (hh : X.calm = true → X.A.handled = none) (hd : Held .none s.heap ea T C od) (ours : Ours X pins H [ea, T]) (hx : PySem.W.exmOne X.K C cv = some b) (q : ∀ s', Inv X pins σ H s' → Held .none s'.heap ea T C od → R (.ok (if b then .brk else .next)) s') :
    codeAny (model X.prog X.w) (X.A.mark (some (.ref ea))) (.handlers (.ref ea) [.ExceptHandler (some ty) none [] pos] X.env) R s := by
  obtain ⟨oe, oT, I1, back⟩ := I.pinX hd ours
  refine codeAny_handlers_test (wpAny_mono (hc _ s σ H (fun v H' => v = c ∧ H' = H) (I1.sui ea) ⟨rfl, rfl⟩) (fun u s1 h1 => ?_) fun _ _ z => z.elim)
  obtain ⟨v, H', I2, r, e1, e2⟩ := h1
  subst e1 e2
  have e3 : u = cv := by
    cases v with
    | non => exact r.trans rc.symm
    | bl b => exact r.trans rc.symm
    | ref a => exact r.trans rc.symm
    | ty n => exact r.trans rc.symm
    | int i => obtain ⟨t, e⟩ := r; obtain ⟨t', e'⟩ := rc; subst e'; unfold PySem.W.exmOne at hx; split at hx <;> cases hx
    | str i => obtain ⟨t, e⟩ := r; obtain ⟨t', e'⟩ := rc; subst e'; unfold PySem.W.exmOne at hx; split at hx <;> cases hx
    | byt i => obtain ⟨t, e⟩ := r; obtain ⟨t', e'⟩ := rc; subst e'; unfold PySem.W.exmOne at hx; split at hx <;> cases hx
    | flt i => obtain ⟨t, e⟩ := r; obtain ⟨t', e'⟩ := rc; subst e'; unfold PySem.W.exmOne at hx; split at hx <;> cases hx
  subst e3
  have p1 := (I2.pin (ea, oe) (by simp)).1
  have p2 := (I2.pin (T, oT) (by simp)).1
  have hd1 := back _ p1 p2
  obtain ⟨vs, ⟨oe', z1, z2, _⟩, _⟩ := id hd1
  have LT : PySem.W.Looks (model X.prog X.w) s1.heap (typeOf (.ref ea)) C := by
    rw [← z2]
    exact (PySem.W.Looks.ld z1).andThen .now
  have I3 : Inv X pins σ H' s1 := (Inv.unsui hh I2).unpinned
  exact (PySem.W.exm_one I2.kIn LT hx).here (q s1 I3 hd1)
theorem Inv.track {pins : List (Addr × Obj)} {σ : St} {H : Hp} {s : Shared} {ea : Addr} {C : Value} {od : Option Addr} {o : Obj} {vs : Array Value} (I : Inv X pins σ H s) (e : s.heap.get? ea = some o) (e1 : o.cls = C) (e2 : o.dict = od) (e3 : o.data = .fields vs)
    (ours : Ours X pins H [ea]) : Inv X pins σ (upd H ea (XO ea C od)) s := by
  have w := ours ea (by simp)
  have ne : ∀ b o', X.s₀.heap.get? b = some o' → b ∉ X.ex → b ≠ ea := fun b o' z n y => by
    subst y
    rcases w.1 with q | q
    · rw [z] at q; cases q
    · exact n q
  have nt : ∀ b u, H b = some u → b ≠ ea := fun b u z y => by rw [y, w.2.1] at z; cases z
  have nl : ea ≠ X.env.locals := fun z => by
    obtain ⟨m, ⟨o', es, ep, ho, hd', _⟩, _⟩ := I.loc
    rw [← z, e] at ho
    cases ho
    rw [e3] at hd'
    cases hd'
  refine ⟨I.ok, I.os, I.bare, ⟨I.base.keep, I.base.slot, fun b o' z n x => ?_, I.base.there, fun b xs z => ?_, fun b o' u z => ?_, fun b ps z => ?_⟩, I.loc, I.cell, ?_, fun x c z => ?_, fun p hp => ?_, fun a u z => ?_, I.len⟩
  · rw [upd_ne (ne b o' z x)]
    exact I.base.free b o' z n x
  · have := I.base.tups b xs z
    rw [upd_ne (nt _ _ this)]
    exact this
  · have := I.base.frzs b o' u z
    rw [upd_ne (nt _ _ this)]
    exact this
  · obtain ⟨more, this⟩ := I.base.tbls b ps z
    exact ⟨more, by rw [upd_ne (nt _ _ this)]; exact this⟩
  · rw [upd_ne (Ne.symm nl)]
    exact I.free
  · have nc : c ≠ ea := fun y => by
      obtain ⟨v, o', ho, hd⟩ := I.cell x c z
      rw [y, e] at ho
      cases ho
      rw [e3] at hd
      cases hd
    rw [upd_ne nc]
    exact I.freeC x c z
  · obtain ⟨p1, p2, p3, p4, p5⟩ := I.pin p hp
    exact ⟨p1, by rw [upd_ne (w.2.2 p hp)]; exact p2, p3, p4, p5⟩
  · by_cases y : a = ea
    · subst y
      rw [upd_same] at z
      cases z
      exact ⟨⟨o, vs, e, e1, e2, e3⟩, ⟨o, e⟩, fun h1 h2 ⟨o1, ws, f1, f2⟩ k => ⟨o1, ws, k _ f1, f2⟩⟩
    · rw [upd_ne y] at z
      refine (I.hok a u z).stay (fun _ _ _ g => g) (fun b g => ?_) fun b xs g => ?_
      · rw [upd_ne (nt _ _ g)]; exact g
      · rw [upd_ne (nt _ _ g)]; exact g
theorem Inv.goes {M : Model} {A : Around} {E : Value → Shared → Prop} {pins : List (Addr × Obj)} {σ : St} {H : Hp} {s : Shared} {i : Nat} {n : Str} {pos : Pos} {Q : Unit → Shared → Prop} (I : Inv X pins σ H s) (hN : X.N.Nodup) (hi : X.N[i]? = some n)
    (hk : X.env.kindOf n = some .local) (q : ∀ s', Inv X pins (σ.set i none) H s' → Q () s') : wpAny M A (do bindName X.env n .none; unbindBehindTheSuite X.env n pos) Q E s := by
  obtain ⟨m, hn, hv⟩ := I.loc
  refine wpAny_nameGoes_keeps hk hn (by rw [I.ok.kind]; rfl) fun h' v hn' sb => q _ ?_
  have k : ∀ b o, b ≠ X.env.locals → s.heap.get? b = some o → h'.get? b = some o := fun b o z e => (sb.2 b z).trans e
  have cl : ∀ x c, X.env.cells.lookup x = some c → ∀ w, s.heap.IsCell c w → h'.IsCell c w := fun x c z w ⟨o, ho, hd⟩ => ⟨o, k c o (I.cne x c z) ho, hd⟩
  have below : ∀ b o, X.s₀.heap.get? b = some o → b ≠ X.env.locals := fun b o z y => absurd (Heap.lt_size z) (Nat.not_lt.mpr (y ▸ I.ok.above))
  refine ⟨I.ok, I.os, I.bare, ⟨fun b o z a f x => k b o (below b o z) (I.base.keep b o z a f x), fun b o z a f x => ?_, I.base.free, fun b o z x => ?_, I.base.tups, I.base.frzs, I.base.tbls⟩,
    ⟨_, hn', fun j x v' e1 e2 e3 => ?_⟩, fun x c z => ?_, I.free, I.freeC, fun p hp => ?_, fun a u z => ?_, by rw [List.length_set]; exact I.len⟩
  · obtain ⟨sl, y⟩ := I.base.slot b o z a f x
    exact ⟨sl, k b _ (below b o z) y⟩
  · obtain ⟨o', y⟩ := I.base.there b o z x
    exact ⟨o', k b _ (below b o z) y⟩
  · have ne : j ≠ i := fun y => by
      subst y
      rw [List.getElem?_set_self'] at e2
      cases y : σ[j]? with
      | none => rw [y] at e2; cases e2
      | some u => rw [y] at e2; cases e2
    rw [List.getElem?_set_ne (Ne.symm ne)] at e2
    have nx : x ≠ n := fun y => by
      subst y
      exact ne (nodup_ix hN e1 hi)
    obtain ⟨u, r, lk⟩ := hv j x v' e1 e2 e3
    refine ⟨u, r, ?_⟩
    rcases lk with ⟨z1, z2⟩ | ⟨z1, c, z2, z3⟩
    · refine .inl ⟨z1, ?_⟩
      show (if x = n then v else m x) = some u
      rw [if_neg nx]
      exact z2
    · exact .inr ⟨z1, c, z2, cl x c z2 _ z3⟩
  · obtain ⟨w, y⟩ := I.cell x c z
    exact ⟨w, cl x c z _ y⟩
  · obtain ⟨p1, p2, p3, p4, p5⟩ := I.pin p hp
    exact ⟨k _ _ p3 p1, p2, p3, p4, p5⟩
  · refine (I.hok a u z).stay (fun b u' hb g => k b u' (fun y => ?_) g) (fun _ g => g) fun _ _ g => g
    have f := I.free
    rw [← y] at f
    rcases hb with rfl | w
    · rw [z] at f; cases f
    · rw [w] at f; cases f
theorem ph_as {ty : Expr} {c : V} {cv : Value} {n : Str} {i : Nat} {b₀ : Stmt} {suite : List Stmt} {pos : Pos} {rest : List ExceptHandler} {ts : TS} {tr : TH} (hN : X.N.Nodup) (hi : X.N[i]? = some n) (hk : X.env.kindOf n = some .local) (hl : X.env.scope.names.lookup n = some .local)
    (hc : ∀ ea, PE (X.sui ea) ty (tC c)) (rc : RelV c cv) (hs : ∀ ea, PSs (X.sui ea) (b₀ :: suite) ts) (hr : PHs X rest tr) :
    PHs X (.ExceptHandler (some ty) (some n) (b₀ :: suite) pos :: rest) (fun D σ H ea C od => ∃ b, PySem.W.exmOne X.K C cv = some b ∧ if b = true then
      ts { nx := fun σ' H' => D.nx (σ'.set i none) H', rt := D.rt, bk := fun σ' H' => D.bk (σ'.set i none) H', ct := fun σ' H' => D.ct (σ'.set i none) H' } (σ.set i (some (.ref ea))) (upd H ea (XO ea C od)) else tr D σ H ea C od) := by
  intro pins s σ H D ea T C od I hd ours ⟨b, hx, q⟩
  refine wpAny_handleBy_cons (clause_test (hc ea) rc I I.ok.hd hd ours hx fun s' I' hd' => ?_) (by intro z; cases z)
  cases b with
  | false =>
    rw [if_neg (by simp)] at q
    exact hr pins s' σ H D ea T C od I' hd' ours q
  | true =>
    rw [if_pos rfl] at q
    refine codeAny_handlers_suite_as (flight_ok hd' fun h' c hd2 => ?_)
    have I2 := I'.chg (t' := s'.toks) (rs := [ea, T]) (c.mono (by simp) (by simp)) ours hd'.recs
    obtain ⟨vs, ⟨oe, a1, a2, a3, a4, _⟩, _⟩ := hd2
    have I3 := I2.track a1 a2 a3 a4 fun b hb => ours b (by rw [List.mem_singleton.mp hb]; simp)
    refine store_ok (X := X.sui ea) (v := .ref ea) (I3.sui ea) hN hi (.inl hl) rfl (fun s2 I4 => ?_) (.inr hl)
    refine wpAny_mono (hs ea pins s2 _ _ _ I4 q) (fun f s3 z => ?_) fun _ _ z => z.elim
    have z := z.unsui I.ok.hd
    show wpAny _ _ _ _ _ _
    cases f with
    | next => obtain ⟨σ', H', J, y⟩ := z; exact J.goes hN hi hk fun s4 J' => ⟨_, H', J', y⟩
    | brk => obtain ⟨σ', H', J, y⟩ := z; exact J.goes hN hi hk fun s4 J' => ⟨_, H', J', y⟩
    | cont => obtain ⟨σ', H', J, y⟩ := z; exact J.goes hN hi hk fun s4 J' => ⟨_, H', J', y⟩
    | ret u => obtain ⟨v, σ', H', J, r, y⟩ := z; exact J.goes hN hi hk fun s4 J' => ⟨v, _, H', J', r, y⟩
def tTry (tb : (St → XK) → TS) (th : TH) : TS := fun D σ H => tb (fun σ' C od H' => ∀ ea, H' ea = none → th D σ' H' ea C od) D σ H
theorem ps_try {body : List Stmt} {h₀ : ExceptHandler} {hs : List ExceptHandler} {pos : Pos} {tb : (St → XK) → TS} {th : TH}
    (hb : ∀ (pins : List (Addr × Obj)) (XE : Value → Shared → Prop) (ES : St → XK), Takes (X.tr pins XE) ES → PassesOwn (model X.prog X.w) X.A X.env XE → PSs (X.tr pins XE) body (tb ES)) (hh : PHs X (h₀ :: hs) th)
    (hfs : ∃ fr, X.stack = X.env :: fr := by exact ⟨_, rfl⟩) (hf : X.env.frame = some X.env.locals := by rfl) : PS X (.Try body (h₀ :: hs) [] [] pos) (tTry tb th) := by
  intro pins s σ H D I q
  refine wpAny_Try_except (wpAny_mono (hb pins (fun e s1 => wpAny (model X.prog X.w) X.A (noteFrame e X.env) (fun _ s2 => wpAny (model X.prog X.w) X.A (setFlight e none) (fun _ s3 => wpAny (model X.prog X.w) X.A (handleBy e X.env (h₀ :: hs)) (SP X pins D) X.xe s3) X.xe s2) X.xe s1)
    (fun σ' C od H' => ∀ ea, H' ea = none → th D σ' H' ea C od) ?_ PassesOwn.looking [] s σ H D (I.tr _) q) (fun f s1 z => ?_) fun e s1 z => z)
  · intro pins' σ' H' s' ea tr C od I' air ours y
    obtain ⟨fr, ek⟩ := hfs
    have frames : X.A.frames = some (X.env :: fr) := by rw [I.ok.frames, ek]
    have ff : s'.heap.FunFrames X.base (X.env :: fr) := by rw [← ek]; exact I'.stack
    refine note_ok frames ff hf air fun h' T c hd n => ?_
    have en : frs X.stack = (X.env :: fr).filterMap (·.frame) := by rw [ek]; rfl
    have I2 : Inv (X.tr pins _) pins' σ' H' { s' with heap := h' } := I'.chg (t' := s'.toks) (by show Chg (frs X.stack) _ _ _; rw [en]; exact c) ours air.recs
    have oT : Ours (X.tr pins fun e s1 => wpAny (model X.prog X.w) X.A (noteFrame e X.env) (fun _ s2 => wpAny (model X.prog X.w) X.A (setFlight e none) (fun _ s3 => wpAny (model X.prog X.w) X.A (handleBy e X.env (h₀ :: hs)) (SP X pins D) X.xe s3) X.xe s2) X.xe s1) pins' H' [ea, T] := by
      intro b hb
      have hb : b = ea ∨ b = T := by simpa using hb
      rcases hb with rfl | rfl
      · exact ours b (by simp)
      · rcases n with z | z
        · exact ours b (List.mem_cons_of_mem _ (by cases tr with | none => cases z | some t => cases z; exact List.mem_singleton.mpr rfl))
        · refine ⟨?_, I'.hok.fresh z, fun p hp w => ?_⟩
          · by_cases y : b ∈ X.ex
            · exact .inr y
            · refine .inl ?_
              cases w : X.s₀.heap.get? b with
              | none => rfl
              | some ob =>
                obtain ⟨o', w'⟩ := I'.base.there b ob w y
                exact absurd (Heap.lt_size w') (Nat.not_lt.mpr z)
          · have w' := (I'.pin p hp).1
            rw [w] at w'
            exact absurd (Heap.lt_size w') (Nat.not_lt.mpr z)
    refine flight_ok hd fun h2 c2 hd2 => ?_
    have I3 := I2.chg (t' := s'.toks) (rs := [ea, T]) (c2.mono (by simp) (by simp)) oT hd.recs
    exact hh pins _ σ' H' D ea T C od I3.untr hd2 (fun b hb => ⟨(oT b hb).1, (oT b hb).2.1, fun p hp => (oT b hb).2.2 p (List.mem_append_left _ hp)⟩) (y ea (ours ea (by simp)).2.1)
  · have z := z.untr
    cases f with
    | next => obtain ⟨σ', H', I', y⟩ := z; exact pss_nil pins s1 σ' H' D I' y
    | _ => exact z
end
end L2

namespace L2
open PySem PySem.Spec PyProof.Rows
section
variable {M : Model} {A : Around} {E : Value → Shared → Prop} {env : Env}
variable {nm q : Str} {C N : Addr} {bs bm : List Value} {hdct : Bool} {sn : List Str} {sub : List Value} {ab : Bool} {col : Option Bool} {dd : Option Addr} {k0 k1 k2 k3 k5 : Option Value} {newId : String}
end
section
variable {prog : Program} {w : World} {A : Around} {E : Value → Shared → Prop} {h : Heap} {g : Array GenState} {d : Drawn} {t : Nat} {os : OsState}
variable {nm q : Str} {C N : Addr} {bs bm bmB : List Value} {hdct : Bool} {sn : List Str} {sub : List Value} {ab : Bool} {col : Option Bool} {dd : Option Addr} {k0 k1 k2 k3 k5 : Option Value} {B newId initId : String}
end
end L2

namespace L2
open PySem PySem.Spec PyProof.Rows
def NewX (ea : Addr) (C : Value) (od : Option Addr) : Heap → Prop := fun h => ∃ vs sl, h.get? ea = some ⟨C, od, .fields vs, sl⟩ ∧ 1 < vs.size ∧ vs[1]? = some .none
abbrev XN (ea : Addr) (C : Value) (od : Option Addr) : HO := .ext (NewX ea C od)
def del (H : Hp) (a : Addr) : Hp := fun b => if b = a then none else H b
theorem del_ne {H : Hp} {a b : Addr} (h : b ≠ a) : del H a b = H b := if_neg h
def Young (X : Cx) (pins : List (Addr × Obj)) (a : Addr) : Prop := (X.s₀.heap.get? a = none ∨ a ∈ X.ex) ∧ ∀ p ∈ X.pn ++ pins, p.1 ≠ a
section
variable {X : Cx} {pins : List (Addr × Obj)} {σ : St} {H : Hp} {s : Shared} {a : Addr}
theorem Inv.young (I : Inv X pins σ H s) (e : s.heap.get? a = none) : Young X pins a := by
  refine ⟨?_, fun p hp z => ?_⟩
  · by_cases y : a ∈ X.ex
    · exact .inr y
    · refine .inl ?_
      cases z : X.s₀.heap.get? a with
      | none => rfl
      | some ob =>
        obtain ⟨o', z'⟩ := I.base.there a ob z y
        rw [e] at z'
        cases z'
  · have y := (I.pin p hp).1
    rw [z, e] at y
    cases y
theorem Inv.trackG {o : HO} (I : Inv X pins σ H s) (n : H a = none) (y : Young X pins a) (nl : a ≠ X.env.locals) (nc : ∀ x c, X.env.cells.lookup x = some c → c ≠ a) (new : ObjOk X.prog X.w (upd H a o) s.heap a o) : Inv X pins σ (upd H a o) s := by
  have ne : ∀ b o', X.s₀.heap.get? b = some o' → b ∉ X.ex → b ≠ a := fun b o' z x q => by
    subst q
    rcases y.1 with w | w
    · rw [z] at w; cases w
    · exact x w
  have nt : ∀ b u, H b = some u → b ≠ a := fun b u z q => by rw [q, n] at z; cases z
  refine ⟨I.ok, I.os, I.bare, ⟨I.base.keep, I.base.slot, fun b o' z m x => ?_, I.base.there, fun b xs z => ?_, fun b o' u z => ?_, fun b ps z => ?_⟩, I.loc, I.cell, ?_, fun x c z => ?_, fun p hp => ?_, fun b u z => ?_, I.len⟩
  · rw [upd_ne (ne b o' z x)]
    exact I.base.free b o' z m x
  · have w := I.base.tups b xs z
    rw [upd_ne (nt _ _ w)]
    exact w
  · have w := I.base.frzs b o' u z
    rw [upd_ne (nt _ _ w)]
    exact w
  · obtain ⟨more, w⟩ := I.base.tbls b ps z
    exact ⟨more, by rw [upd_ne (nt _ _ w)]; exact w⟩
  · rw [upd_ne (Ne.symm nl)]
    exact I.free
  · rw [upd_ne (nc x c z)]
    exact I.freeC x c z
  · obtain ⟨p1, p2, p3, p4, p5⟩ := I.pin p hp
    exact ⟨p1, by rw [upd_ne (y.2 p hp)]; exact p2, p3, p4, p5⟩
  · by_cases q : b = a
    · subst q
      rw [upd_same] at z
      cases z
      exact new
    · rw [upd_ne q] at z
      refine (I.hok b u z).stay (fun _ _ _ g => g) (fun c g => ?_) fun c xs g => ?_
      · rw [upd_ne (nt _ _ g)]; exact g
      · rw [upd_ne (nt _ _ g)]; exact g
theorem Inv.drop {φ : Heap → Prop} (I : Inv X pins σ H s) (e : H a = some (.ext φ)) : Inv X pins σ (del H a) s := by
  have nd : ∀ b u, H b = some u → (∀ ψ, u ≠ .ext ψ) → del H a b = some u := fun b u z w => by
    have q : b ≠ a := fun q => by rw [q, e] at z; cases z; exact w _ rfl
    rw [del_ne q]
    exact z
  have nn : ∀ b, H b = none → del H a b = none := fun b z => by
    unfold del
    split
    · rfl
    · exact z
  refine ⟨I.ok, I.os, I.bare, ⟨I.base.keep, I.base.slot, fun b o' z m x => nn b (I.base.free b o' z m x), I.base.there, fun b xs z => nd _ _ (I.base.tups b xs z) (fun _ q => by cases q), fun b o' u z => nd _ _ (I.base.frzs b o' u z) (fun _ q => by cases q), fun b ps z => ?_⟩,
    I.loc, I.cell, nn _ I.free, fun x c z => nn _ (I.freeC x c z), fun p hp => ?_, fun b u z => ?_, I.len⟩
  · obtain ⟨more, w⟩ := I.base.tbls b ps z
    exact ⟨more, nd _ _ w (fun _ q => by cases q)⟩
  · obtain ⟨p1, p2, p3, p4, p5⟩ := I.pin p hp
    exact ⟨p1, nn _ p2, p3, p4, p5⟩
  · have z' : H b = some u := by
      unfold del at z
      split at z
      · cases z
      · exact z
    exact (I.hok b u z').stay (fun _ _ _ g => g) (fun c g => nd _ _ g (fun _ q => by cases q)) fun c xs g => nd _ _ g (fun _ q => by cases q)
end
section
variable {X : Cx} {k : Nat} {fI C : Addr} {fd : FuncData} {ps : List Str} {sp : Sp} {dvs : List V} {ds : List Value} {ES : St → XK} {x : Str} {np cpos pos : Pos} {e : Expr} {es : List Expr} {t : TA}
end
end L2

namespace L2
open PySem PySem.Spec PyProof.Rows
structure XRd (K : PySem.W.Frag) (C : Addr) : Prop where
  ga : PySem.W.findIn K (.ref C) "__getattribute__" = some (some (.builtin "BaseException.__getattribute__"))
  gn : PySem.W.findIn K (.ref C) "__getattr__" = some none
  mb : PySem.W.mroIn K C (.type "BaseException") = some true
  hd : PySem.W.hasDictIn K C = true
  cls : PySem.W.findIn K (.ref C) "__class__" = some (some (.builtin "object.__class__"))
  cget : PySem.W.specialIn K (.builtin "object.__class__") "__get__" = some (some (.builtin "getset_descriptor.__get__"))
  ctk : PySem.W.takesIn K (.builtin "object.__class__") = some true
  mo : PySem.W.mroIn K C (.type "object") = some true
def XAny (H : Hp) (ea : Addr) (C : Value) (od : Option Addr) : Prop := H ea = some (XO ea C od) ∨ H ea = some (XN ea C od)
section
variable {X : Cx} {pins : List (Addr × Obj)} {σ : St} {H : Hp} {s : Shared} {ea C : Addr} {od : Option Addr}
theorem XAny.at {C : Value} (x : XAny H ea C od) (I : Inv X pins σ H s) : ∃ o vs, s.heap.get? ea = some o ∧ o.cls = C ∧ o.dict = od ∧ o.data = .fields vs := by
  rcases x with e | e
  · exact (I.hok ea _ e).1
  · obtain ⟨vs, sl, z, _⟩ := (I.hok ea _ e).1
    exact ⟨_, vs, z, rfl, rfl, rfl⟩
theorem getx_by {A : Around} {E : Value → Shared → Prop} {K : PySem.W.Frag} {prog : Program} {w : World} {s : Shared} {x : Addr} {ox : Obj} {od : Option Obj} {name : Str} {tk : Tok} {fill b : Bool} {Q : Value → Shared → Prop} (X : K.In s.heap) (J : PySem.W.InstAt s.heap x ox C od) (c : XRd K C)
    (h : ∀ A', wpAny (model prog w) A' (Builtin.«object.__getattribute__» ⟨[.ref x, .str name tk], []⟩) (fun fin s' => ∃ v, fin = .done (.ret v) ∧ PySem.W.handedIn v = true ∧ Q v s') (fun _ _ => False) s) : wpAny (model prog w) A (getAttrBy (.ref x) (.str name tk) fill b) Q E s := by
  obtain ⟨hh, g, d, t, os⟩ := s
  have L0 := J.type (M := model prog w)
  have L1 := PySem.W.looks_findIn (M := model prog w) X c.ga
  have L2 := PySem.W.looks_findIn (M := model prog w) X c.gn
  have SF := PySem.F.excAttr_ValueError.ga
  unfold getAttrBy
  refine wpAny_holding (wpAny_bind (L0.at (wpAny_bind (L1.at ?_))))
  show wpAny _ _ (getAttrByItsOwn (.ref x) (.str name tk) (.ref C) (.builtin "BaseException.__getattribute__") fill b) _ _ _
  unfold getAttrByItsOwn
  refine wpAny_bind ?_
  show wpAny _ _ (typeLookup (.ref C) "__getattr__") _ _ _
  refine L2.at ?_
  refine wpAny_bind (wpAny_attempt (wpAny_holding ?_))
  have e1 : callGetattribute (.ref x) (.str name tk) (.builtin "BaseException.__getattribute__") b = boundAndCalled (.builtin "BaseException.__getattribute__") (.ref x) (.str name tk) := by
    unfold callGetattribute
    rw [if_neg (by cases b <;> exact Bool.noConfusion)]
  rw [e1]
  unfold boundAndCalled
  rw [SF.bind (.ref x)]
  refine wpAny_bind (wpAny_pure ?_)
  refine wpAny_call (codeAny_call_builtin SF.plain PySem.F.entry_bexc_ga ?_)
  have su : PySem.W.Looks (model prog w) hh (isInstance (.ref x) (.type "BaseException")) true := J.type.andThen (PySem.W.looks_mroIn X c.mb)
  have hk : builtinKind "BaseException.__getattribute__" = some .slot := by decide +kernel
  have hs : splitId "BaseException.__getattribute__" = some ("BaseException", "__getattribute__") := by decide +kernel
  refine @PySem.W.check_slot (model prog w) _ _ ⟨hh, g, d, t, os⟩ "BaseException.__getattribute__" "BaseException" "__getattribute__" (.ref x) [.str name tk] [] _ hk hs su (PySem.F.args_bexc_ga (.ref x) (.str name tk)) ?_
  refine wpAny_mono (h _) (fun fin s' z => ?_) (fun _ _ z => z.elim)
  obtain ⟨v, rfl, z1, z2⟩ := z
  exact PySem.W.handed_on z1 z2
end
end L2

namespace L2
open PySem PySem.Spec PyProof.Rows
section
variable {X : Cx} {o e value : Expr} {f : Str} {pos pos' apos p : Pos} {ta tv : TE}
end
def clsV : V → Option Value
  | .ref a => some (.ref a)
  | .ty n => some (.type n)
  | _ => none
theorem clsV_rel {c : V} {cv u : Value} (h : clsV c = some cv) (r : RelV c u) : u = cv := by
  cases c <;> first | (cases h; exact r) | cases h
def KndT (K : PySem.W.Frag) (H : Hp) (x : V) (t : Value) : Prop := TyOf K H x t ∨ ∃ ea C od, x = .ref ea ∧ t = .ref C ∧ XAny H ea (.ref C) od ∧ XRd K C ∧ (od = none ∨ ∃ dx fs, od = some dx ∧ H dx = some (.xd fs))
theorem kitx_x {K : PySem.W.Frag} {x D : Addr} {ox : Obj} {od : Option Obj} (c : XRd K D) : PySem.W.KitX K (.ref x) (.ref D) (fun h => PySem.W.InstAt h x ox D od) where
  ty := fun _ _ _ I => I.type
  it := fun _ _ X _ => by
    obtain ⟨cd, hc, _⟩ := PySem.W.any_some c.hd
    unfold PySem.W.clsIn at hc
    split at hc
    · rename_i ho
      intro A' Q' E' s' k q
      unfold isType loadHead
      exact wpAny_bind (wpAny_loadPart (k _ _ (X _ _ ho)) (wpAny_pure q))
    · cases hc
  ne := fun h tp dd its n sl X htp => by
    obtain ⟨cd, hc, _⟩ := PySem.W.any_some c.hd
    refine Bool.eq_false_iff.mpr fun q => ?_
    have e : D = tp := Value.ref.inj (beq_iff_eq.mp q)
    subst e
    unfold PySem.W.clsIn at hc
    split at hc
    · rename_i ho
      have z := (X _ _ ho).symm.trans htp
      cases z
    · cases hc
  ca := fun {prog w _ _ _ s} X I k => by
    have hf : PySem.W.findObj K D od "__class__" = some (.bind (.builtin "getset_descriptor.__get__") (.builtin "object.__class__")) := by
      obtain ⟨cd, hc, _⟩ := PySem.W.any_some c.hd
      unfold PySem.W.findObj
      rw [hc, Option.bind_some, c.cls, Option.bind_some]
      dsimp only
      rw [c.cget, Option.bind_some]
      dsimp only
      rw [c.ctk, Option.bind_some]
    unfold getAttr? getAttrBy?
    refine wpAny_bind (wpAny_mkText (wpAny_bind (wpAny_attempt (getx_by (s := { s with toks := s.toks + 1 }) X I c fun A' => ?_))))
    have L0 := I.type (M := model prog w)
    have L1 := PySem.W.looks_find (M := model prog w) X I hf
    obtain ⟨hh, gg, d, t, os⟩ := s
    refine wpAny_bind (wpAny_pure (wpAny_bind (wpAny_pure (wpAny_bind (L0.at (wpAny_bind (L1.at ?_)))))))
    show wpAny _ _ (holding [.builtin "object.__class__"] (call (.builtin "getset_descriptor.__get__") [.builtin "object.__class__", .ref x, .ref D]) >>= ret) _ _ _
    exact wpAny_bind (wpAny_holding (wpAny_call (PySem.W.class_get (s := ⟨hh, gg, d, t + 1, os⟩) (ox := ox) (od := od) X I c.mo (wpAny_pure ⟨_, rfl, rfl, wpAny_pure k⟩))))
theorem call_isinstC {X : Cx} : CallR X (.builtin "isinstance") (fun xs H Q => ∃ x c cv t b, xs = [x, c] ∧ clsV c = some cv ∧ KndT X.K H x t ∧ PySem.W.kitOne X.K t cv = some b ∧ Q (.bl b) H) := by
  intro pins s σ H xs us Q I r h
  obtain ⟨x, c, cv, t, b, rfl, hc, ty, e, q⟩ := h
  obtain ⟨u, w', rfl, ru, rw'⟩ := vals2 r
  cases clsV_rel hc rw'
  rcases ty with ty | ⟨ea, C, od, rfl, rfl, hx, ca, hd⟩
  · exact isinst_ok I ru ty e fun tk => ⟨.bl b, H, I.tok tk, rfl, q⟩
  · obtain rfl : u = Value.ref ea := ru
    obtain ⟨o, vs, e1, e2, e3, e4⟩ := hx.at I
    have hno : PySem.W.notCls o = true := by rw [PySem.W.notCls, e4]
    have J : ∃ oD, PySem.W.InstAt s.heap ea o C oD := by
      rcases hd with rfl | ⟨dx, fs, rfl, hdx⟩
      · exact ⟨none, e1, e2, hno, by rw [e3]; exact True.intro⟩
      · obtain ⟨mA, n1, rl⟩ := I.hok dx _ hdx
        obtain ⟨oD, g1, g2⟩ := lookIn_ns n1
        exact ⟨some oD, e1, e2, hno, by rw [e3]; exact g1⟩
    obtain ⟨oD, J⟩ := J
    exact PySem.W.kia_one (kitx_x ca) I.kIn J e (fun z => nomatch z) fun tk => ⟨.bl b, H, I.tok tk, rfl, q⟩
abbrev TJ := St → Hp → Str → VK → Prop
section
variable {X : Cx} {e : Expr} {es : List Expr} {te : TE} {t : TJ} {pos : Pos}
end
section
variable {X : Cx} {x : Str} {p pos apos : Pos} {e : Expr} {es : List Expr} {t : TA} {W : Addr}
end
end L2

namespace L2
open PySem
structure Keep (F : List Addr) (H H' : Hp) : Prop where
  k : ∀ b o, b ∉ F → H b = some o → H' b = some o
  tp : ∀ b xs, H b = some (.tup xs) → H' b = some (.tup xs)
theorem Keep.refl {F : List Addr} {H : Hp} : Keep F H H := ⟨fun _ _ _ e => e, fun _ _ e => e⟩
theorem Keep.trans {F : List Addr} {H H1 H2 : Hp} (a : Keep F H H1) (b : Keep F H1 H2) : Keep F H H2 := ⟨fun x o n e => b.k x o n (a.k x o n e), fun x xs e => b.tp x xs (a.tp x xs e)⟩
theorem Keep.mono {F F' : List Addr} {H H' : Hp} (a : Keep F H H') (s : ∀ b ∈ F, b ∈ F') : Keep F' H H' := ⟨fun x o n e => a.k x o (fun m => n (s x m)) e, a.tp⟩
theorem Keep.upd {F : List Addr} {H : Hp} {p : Addr} {o u : HO} (h : H p = some u) (nt : ∀ xs, u ≠ .tup xs) (m : p ∈ F) : Keep F H (upd H p o) := by
  refine ⟨fun b x n e => ?_, fun b xs e => ?_⟩
  · rw [upd_ne (fun (z : b = p) => n (z ▸ m))]; exact e
  · rw [upd_ne (ne_of e h (fun z => nt xs z.symm))]; exact e
theorem Keep.new {F : List Addr} {H : Hp} {p : Addr} {o : HO} (h : H p = none) : Keep F H (L2.upd H p o) := by
  refine ⟨fun b x n e => ?_, fun b xs e => ?_⟩
  · rw [upd_ne (ne_of_none e h)]; exact e
  · rw [upd_ne (ne_of_none e h)]; exact e
theorem Keep.same {F : List Addr} {H H' : Hp} (s : Same H H') : Keep F H H' := ⟨fun b o _ e => s b o e, fun b xs e => s b _ e⟩
theorem Keep.none {F : List Addr} {H H' : Hp} (a : Keep F H H') {b : Addr} (n : b ∉ F) (e : H' b = Option.none) : H b = Option.none := by
  cases q : H b with
  | none => rfl
  | some o => rw [a.k b o n q] at e; cases e
structure CM where
  bl : Int
  pg : Int
  mo : Int
  lim : List (Key × V)
  bo : List V
  cl : List Int
  dc : List Int
  br : List Bool
  lf : Option Int
  rc : List (Str × Int × Bool)
structure CA where
  dx : Addr
  li : Addr
  bo : Addr
  cl : Addr
  dc : Addr
  br : Addr
  rc : Addr
def lfV : Option Int → V
  | .none => .non
  | .some i => .int i
def chF (a : CA) (m : CM) : List (Str × V) := [("blocks", .int m.bl), ("pages", .int m.pg), ("most", .int m.mo), ("limits", .ref a.li), ("borne", .ref a.bo), ("clearings", .ref a.cl), ("deed_counts", .ref a.dc), ("broken", .ref a.br), ("deeds_left", lfV m.lf), ("record", .ref a.rc)]
def trip (H : Hp) (v : V) (d : Str × Int × Bool) : Prop := ∃ p, v = .ref p ∧ H p = some (.tup [.str d.1, .int d.2.1, .bl d.2.2])
abbrev Recd (H : Hp) : List V → List (Str × Int × Bool) → Prop := Paired (trip H)
theorem Recd.keep {F : List Addr} {H H' : Hp} (k : Keep F H H') {rs : List V} {ds : List (Str × Int × Bool)} (r : Recd H rs ds) : Recd H' rs ds := Paired.mapP r fun v d ⟨p, e, h⟩ => ⟨p, e, k.tp _ _ h⟩
theorem _root_.PySem.Paired.len {α β : Type} {F : α → β → Prop} : ∀ {l₁ : List α} {l₂ : List β}, Paired F l₁ l₂ → l₁.length = l₂.length
  | _, _, .nil => rfl
  | _, _, .cons _ t => congrArg (· + 1) t.len
theorem Paired.snoc {α β : Type} {F : α → β → Prop} : ∀ {l₁ : List α} {l₂ : List β} {a : α} {b : β}, Paired F l₁ l₂ → F a b → Paired F (l₁ ++ [a]) (l₂ ++ [b])
  | _, _, _, _, .nil, h => .cons h .nil
  | _, _, _, _, .cons r t, h => .cons r (Paired.snoc t h)
def foot (c : Addr) (a : CA) : List Addr := [c, a.bo, a.cl, a.dc, a.br, a.rc]
structure ChipAt (C : Addr) (H : Hp) (c : Addr) (a : CA) (m : CM) : Prop where
  ins : H c = some (.ins C a.dx (chF a m))
  li : H a.li = some (.dK m.lim)
  bo : H a.bo = some (.lst m.bo)
  cl : H a.cl = some (.lst (m.cl.map V.int))
  dc : H a.dc = some (.lst (m.dc.map V.int))
  br : H a.br = some (.lst (m.br.map V.bl))
  rc : ∃ rs, H a.rc = some (.lst rs) ∧ Recd H rs m.rc
  nd : [a.bo, a.cl, a.dc, a.br, a.rc].Nodup
structure CM.Ok (m : CM) : Prop where
  bl1 : 2 ≤ m.bl
  bl2 : m.bl ≤ 16
  pg1 : 1 ≤ m.pg
  pg2 : m.pg ≤ 16
  nbo : (m.bo.length : Int) = m.bl * m.pg
  ncl : (m.cl.length : Int) = m.bl
  ndc : (m.dc.length : Int) = m.bl
  nbr : (m.br.length : Int) = m.bl
  lim : ∀ b v, valV m.lim (Sum.inl b) = some v → ∃ n, v = .int n
  nrc : m.rc.length ≤ 1000000
section
variable {C c : Addr} {a : CA} {m : CM} {H H' : Hp}
theorem ChipAt.ne (h : ChipAt C H c a m) : c ≠ a.bo ∧ c ≠ a.cl ∧ c ≠ a.dc ∧ c ≠ a.br ∧ c ≠ a.rc := by
  obtain ⟨rs, e, _⟩ := h.rc
  exact ⟨ne_of h.ins h.bo (by intro z; cases z), ne_of h.ins h.cl (by intro z; cases z), ne_of h.ins h.dc (by intro z; cases z), ne_of h.ins h.br (by intro z; cases z), ne_of h.ins e (by intro z; cases z)⟩
theorem ChipAt.keep {F : List Addr} (h : ChipAt C H c a m) (k : Keep F H H') (n : ∀ b ∈ a.li :: foot c a, b ∉ F) : ChipAt C H' c a m := by
  obtain ⟨rs, e, r⟩ := h.rc
  exact ⟨k.k _ _ (n _ (by simp [foot])) h.ins, k.k _ _ (n _ (by simp)) h.li, k.k _ _ (n _ (by simp [foot])) h.bo, k.k _ _ (n _ (by simp [foot])) h.cl, k.k _ _ (n _ (by simp [foot])) h.dc, k.k _ _ (n _ (by simp [foot])) h.br,
    ⟨rs, k.k _ _ (n _ (by simp [foot])) e, r.keep k⟩, h.nd⟩
theorem ChipAt.same (h : ChipAt C H c a m) (s : Same H H') : ChipAt C H' c a m := h.keep (F := []) (Keep.same s) (by simp)
end
inductive Out where
  | done | noPlace | dark
  | failed (b : Int)
  | written (p : Int)
def CM.new (bl pg mo : Int) (lim : List (Key × V)) : CM := ⟨bl, pg, mo, lim, List.replicate (bl * pg).toNat .non, List.replicate bl.toNat 0, List.replicate bl.toNat 0, List.replicate bl.toNat false, none, []⟩
def CM.rd (m : CM) (x : V) : V × Out := match x with
  | .int p => if 0 ≤ p ∧ p ≤ m.bl * m.pg - 1 then (if m.lf = some 0 then (.non, .dark) else (m.bo.getD p.toNat .non, .done)) else (.non, .noPlace)
  | _ => (.non, .noPlace)
def limM (bl : Int) : List (V × V) → List (Key × V) → Option (List (Key × V))
  | [], acc => some acc
  | (b, d) :: r, acc => match b with
    | .int i => if 0 ≤ i ∧ i ≤ bl - 1 then (if (valV acc (Sum.inl i)).isSome = true then none else if inB d 0 1000000 = true then limM bl r (putK acc (Sum.inl i) d) else none) else none
    | _ => none
def pairAt (H : Hp) (v : V) (d : V × V) : Prop := ∃ p, v = .ref p ∧ H p = some (.tup [d.1, d.2]) ∧ Knd H d.1 ∧ Knd H d.2
theorem pairAt.same {H H' : Hp} (s : Same H H') {v : V} {d : V × V} (h : pairAt H v d) : pairAt H' v d := let ⟨p, e, h1, k1, k2⟩ := h; ⟨p, e, s _ _ h1, k1.same s, k2.same s⟩
theorem Paired.at {α β : Type} {F : α → β → Prop} : ∀ {l₁ : List α} {l₂ : List β} {i : Nat} {a : α}, Paired F l₁ l₂ → l₁[i]? = some a → ∃ b, l₂[i]? = some b ∧ F a b
  | _, _, 0, _, .cons r _, e => by simp at e; subst e; exact ⟨_, rfl, r⟩
  | _, _, i + 1, _, .cons _ t, e => by
    have e2 := List.getElem?_cons_succ.symm.trans e
    obtain ⟨b, h1, h2⟩ := Paired.at t e2
    exact ⟨b, List.getElem?_cons_succ.trans h1, h2⟩
  | _, _, _, _, .nil, e => by simp at e
def Up (x : Addr) (H H' : Hp) : Prop := ∀ b o, b ≠ x → H b = some o → H' b = some o
section
variable {x C dx : Addr} {fs : List (Str × V)} {H H' : Hp}
theorem Up.knd (u : Up x H H') (hx : H x = some (.ins C dx fs)) {v : V} (k : Knd H v) : Knd H' v := by
  cases k with
  | non => exact .non
  | bl b => exact .bl b
  | int i => exact .int i
  | str x => exact .str x
  | lst e => exact .lst (u _ _ (ne_of e hx (by intro z; cases z)) e)
  | tup e => exact .tup (u _ _ (ne_of e hx (by intro z; cases z)) e)
theorem Up.seq (u : Up x H H') (hx : H x = some (.ins C dx fs)) {K : PySem.W.Frag} {a : Addr} {xs : List V} (h : SqL K H a xs) : SqL K H' a xs := by
  rcases h with (h | ⟨o, h⟩) | h
  · exact .inl (.inl (u _ _ (ne_of h hx (by intro z; cases z)) h))
  · exact .inl (.inr ⟨o, u _ _ (ne_of h hx (by intro z; cases z)) h⟩)
  · exact .inr h
theorem Up.of {o : HO} (s : Same H H') : Up x H (upd H' x o) := fun b u n e => by rw [upd_ne n]; exact s b u e
theorem Up.trans {H2 : Hp} (a : Up x H H') (b : Up x H' H2) : Up x H H2 := fun c o n e => b c o n (a c o n e)
theorem Up.free (u : Up x H H') {b : Addr} (n : b ≠ x) (e : H' b = none) : H b = none := by
  cases q : H b with
  | none => rfl
  | some o => rw [u b o n q] at e; cases e
end
def CM.made (bl pg mo : V) (its : List (V × V)) : Option CM := if inB bl 2 16 = true ∧ inB pg 1 16 = true then (if inB mo 0 1000000 = true then (match bl, pg, mo with
  | .int b, .int p, .int m => (limM b its []).map fun l => CM.new b p m l
  | _, _, _ => none) else none) else none
end L2

namespace L2
open PySem PySem.Spec PyProof.Rows
def tMid (t u : TS) : TS := fun D σ H => ∃ M : St → Hp → Prop, t { D with nx := M } σ H ∧ ∀ σ' H', M σ' H' → u D σ' H'
def tMidE (t : TE) : TE := fun σ H Q => ∃ M : VK, t σ H M ∧ ∀ v H', M v H' → Q v H'
section
variable {X : Cx} {st : Stmt} {rest : List Stmt} {t u : TS} {e : Expr} {te : TE} {tt : TT}
theorem pss_mid (h1 : PS X st t) (h2 : PSs X rest u) : PSs X (st :: rest) (tMid t u) := by
  intro pins s σ H D I ⟨M, a, b⟩
  refine wpAny_bind (thn (h1 pins s σ H _ I a) fun f s1 z => ?_)
  cases f with
  | next => obtain ⟨σ', H', I', q⟩ := z; exact h2 pins s1 σ' H' D I' (b σ' H' q)
  | brk => exact wpAny_pure z
  | cont => exact wpAny_pure z
  | ret v => exact wpAny_pure z
theorem pe_mid (h : PE X e te) : PE X e (tMidE te) := fun pins s σ H Q I ⟨M, a, b⟩ => thn (h pins s σ H M I a) fun c s1 ⟨v, H', I', r, q⟩ => ⟨v, H', I', r, b v H' q⟩
end
theorem dec_ii {a b : Int} : decide (V.int a = V.int b) = decide (a = b) := by
  by_cases e : a = b
  · subst e; simp
  · rw [decide_eq_false e, decide_eq_false (fun z => e (by injection z))]
theorem dec_bb {a b : Bool} : decide (V.bl a = V.bl b) = decide (a = b) := by
  by_cases e : a = b
  · subst e; simp
  · rw [decide_eq_false e, decide_eq_false (fun z => e (by injection z))]
theorem ChipAt.some {C : Addr} {H : Hp} {c : Addr} {a : CA} {m : CM} (h : ChipAt C H c a m) {b : Addr} (hb : b ∈ a.li :: foot c a) : ∃ o, H b = some o := by
  have hb : b = a.li ∨ b = c ∨ b = a.bo ∨ b = a.cl ∨ b = a.dc ∨ b = a.br ∨ b = a.rc := by simpa [foot] using hb
  obtain ⟨rs, e, _⟩ := h.rc
  rcases hb with rfl | rfl | rfl | rfl | rfl | rfl | rfl
  · exact ⟨_, h.li⟩
  · exact ⟨_, h.ins⟩
  · exact ⟨_, h.bo⟩
  · exact ⟨_, h.cl⟩
  · exact ⟨_, h.dc⟩
  · exact ⟨_, h.br⟩
  · exact ⟨_, e⟩
theorem SqL.through {K : PySem.W.Frag} {H0 : Hp} {sa : Addr} {xs : List V} {F : List Addr} (h : SqL K H0 sa xs) (f : ∀ b ∈ F, H0 b = none) {H' : Hp} (k : Keep F H0 H') : SqL K H' sa xs := by
  rcases h with (h | ⟨o, h⟩) | h
  · exact .inl (.inl (k.k _ _ (fun z => by rw [f _ z] at h; cases h) h))
  · exact .inl (.inr ⟨o, k.k _ _ (fun z => by rw [f _ z] at h; cases h) h⟩)
  · exact .inr h
theorem mod_in (x n : Int) (h : 0 < n) : 0 ≤ x % n ∧ x % n < n := ⟨Int.emod_nonneg _ (by omega), Int.emod_lt_of_pos _ h⟩
end L2

namespace L2
open PySem PySem.Spec PyProof.Rows
section
variable {X : Cx} {pins : List (Addr × Obj)} {σ : St} {H : Hp} {s : Shared} {h' : Heap}
theorem Inv.turnedN {t' : Nat} {fp : List Addr} (I : Inv X pins σ H s) (k : ∀ b o, b ∉ fp → s.heap.get? b = some o → h'.get? b = some o) (hf : ∀ b ∈ fp, FpOk X pins H b) : Inv X pins σ H { s with heap := h', toks := t' } := by
  have nit : ∀ b u, H b = some u → b ∉ fp := fun b u e z => by rw [(hf b z).1] at e; cases e
  refine I.step (g' := s.gens) (d' := s.drawn) (ch := fp) (fun b hb => ?_) (fun b o _ _ hc e _ => k b o hc e) (fun b o _ _ hc e _ => ⟨o.slots, k b o hc e⟩) (fun _ _ _ _ n => n)
    (fun b o hc e => ⟨o, k b o hc e⟩) (fun _ _ e => e) (fun _ _ _ e => e) (fun b ps e => ⟨#[], by rw [e]; simp⟩) (fun m hm => ?_) (fun b u e => ?_) I.bare
  · obtain ⟨f0, f1, f2, f3, f4, f5⟩ := hf b hb
    exact ⟨f3, f1, f4, f5⟩
  · obtain ⟨o, es, ep, ho, r⟩ := hm
    exact ⟨o, es, ep, k _ o (fun z => (hf _ z).2.1 rfl) ho, r⟩
  · refine (I.hok b u e).stay (fun c v hc q => k c v ?_ q) (fun _ q => q) fun _ _ q => q
    rcases hc with z | z
    · rw [z]; exact nit b u e
    · exact nit c _ z
end
def Itz (K : PySem.W.Frag) (l1 l2 : Addr) : It :=
  ⟨fun i H => ∃ xs ys x y, SqL K H l1 xs ∧ SqL K H l2 ys ∧ xs[i]? = some x ∧ ys[i]? = some y,
   fun i H v H' => ∃ T x y, v = .ref T ∧ H T = none ∧ H' = upd H T (.tup [x, y]) ∧ (∀ xs, SqL K H l1 xs → xs[i]? = some x) ∧ ∀ ys, SqL K H l2 ys → ys[i]? = some y,
   fun i H => ∃ xs ys, SqL K H l1 xs ∧ SqL K H l2 ys ∧ (xs.length ≤ i ∨ ys.length ≤ i)⟩
theorem turn_zip {P : Program} {w : World} {K : PySem.W.Frag} {elts : List Expr} {x1} {pos : Pos} (z TI TO i1 i2 l1 l2 : Addr) (D : ZipApart z TI TO i1 i2 l1 l2) :
    Turn P w K (.Tuple elts x1 pos) (Itz K l1 l2) [z, TI, TO, i1, i2] z (fun i h => IsZip h z TI TO .none ∧ IsPair h TI (.ref i1) (.ref i2) ∧ (∃ a b, IsPair h TO a b) ∧ h.IsListIter i1 l1 i ∧ h.IsListIter i2 l2 i) where
  mem := by simp
  obj := fun i h st b hb => by
    obtain ⟨a1, a2, ⟨p, q, a3⟩, ⟨o4, e4, c4, d4⟩, ⟨o5, e5, c5, d5⟩⟩ := st
    simp only [List.mem_cons, List.not_mem_nil, or_false] at hb
    rcases hb with rfl | rfl | rfl | rfl | rfl
    · exact ⟨_, a1, fun v z => by cases z⟩
    · exact ⟨_, a2, fun v z => by cases z⟩
    · exact ⟨_, a3, fun v z => by cases z⟩
    · exact ⟨_, e4, fun v z => by rw [d4] at z; cases z⟩
    · exact ⟨_, e5, fun v z => by rw [d5] at z; cases z⟩
  keep := fun i h h' st k => by
    obtain ⟨a1, a2, ⟨p, q, a3⟩, a4, a5⟩ := st
    exact ⟨k z (by simp) _ a1, k TI (by simp) _ a2, ⟨p, q, k TO (by simp) _ a3⟩, a4.at fun o e => k i1 (by simp) o e, a5.at fun o e => k i2 (by simp) o e⟩
  item := by
    intro X hP hw hK hc i pins s σ H E I hf st hg
    subst hP hw hK
    obtain ⟨xs, ys, x, y, hq1, hq2, hx, hy⟩ := hg
    obtain ⟨its1, rv1, p1, hz1⟩ := I.list hq1
    obtain ⟨u1, hu1, ru1⟩ := rv1.get hx
    obtain ⟨its2, rv2, p2, hz2⟩ := I.list hq2
    obtain ⟨u2, hu2, ru2⟩ := rv2.get hy
    obtain ⟨a1, a2, ⟨p, q, a3⟩, a4, a5⟩ := st
    refine wpAny_pyNext_zip_item D a1 a2 a3 a4 a5 p1.isList p2.isList (x := u1) (y := u2) (by simpa using hu1) (by simpa using hu2) fun h' b1 b2 b3 b4 b5 b6 b7 => ?_
    refine ⟨_, rfl, wpAny_letOwnedTupleGo_zip (s := { s with heap := h' }) b1 fun h'' c1 c2 => ?_⟩
    have lt : ∀ {c o}, s.heap.get? c = some o → s.heap.objs.size ≠ c := fun e => Nat.ne_of_gt (Heap.lt_size e)
    have kk : ∀ b o, b ∉ [z, TI, TO, i1, i2] → s.heap.get? b = some o → h''.get? b = some o := fun b o hb e => by
      simp only [List.mem_cons, List.not_mem_nil, or_false, not_or] at hb
      exact c2.extBut _ _ hb.1 (b7 b o hb.1 hb.2.2.1 hb.2.2.2.1 hb.2.2.2.2 e)
    have I1 : Inv X pins σ H { s with heap := h'' } := I.turnedN (t' := s.toks) kk hf
    have fr : H s.heap.objs.size = none := I.hok.fresh (Nat.le_refl _)
    have yg := I.young (a := s.heap.objs.size) (Heap.get?_none_of_le (Nat.le_refl _))
    have pr : IsPair h'' s.heap.objs.size u1 u2 := c2.extBut _ _ (lt a1) b5
    have I2 := I1.trackG (o := .tup [x, y]) fr yg (Nat.ne_of_gt I.lt) (fun x' c' w q' => by
      obtain ⟨v, o', ho, _⟩ := I.cell x' c' w
      exact absurd (Heap.lt_size ho) (by rw [q']; exact Nat.lt_irrefl _)) ⟨by rw [sizeLine_eq, List.length_cons, List.length_cons, List.length_nil]; omega, [u1, u2], .cons ru1 (.cons ru2 .nil), ⟨_, pr, rfl, _, rfl⟩⟩
    refine ⟨.ref s.heap.objs.size, _, I2, rfl, ⟨_, x, y, rfl, fr, rfl, fun xs' h => by rw [I.list_inj h hq1]; exact hx, fun ys' h => by rw [I.list_inj h hq2]; exact hy⟩,
      ⟨c1, c2.extBut _ _ D.TIz (b7 _ _ D.TIz D.TITO D.TIi1 D.TIi2 a2), ⟨_, _, c2.extBut _ _ D.TOz b2⟩, b3.extBut c2.extBut D.i1z, b4.extBut c2.extBut D.i2z⟩, fun b hb => ?_⟩
    have ob : ∃ o, s.heap.get? b = some o := by
      obtain ⟨o4, e4, _⟩ := a4
      obtain ⟨o5, e5, _⟩ := a5
      simp only [List.mem_cons, List.not_mem_nil, or_false] at hb
      rcases hb with rfl | rfl | rfl | rfl | rfl
      · exact ⟨_, a1⟩
      · exact ⟨_, a2⟩
      · exact ⟨_, a3⟩
      · exact ⟨_, e4⟩
      · exact ⟨_, e5⟩
    obtain ⟨o, e⟩ := ob
    rw [upd_ne (Ne.symm (lt e))]
    exact (hf b hb).1
  done := by
    intro X hP hw hK hc i pins s σ H E I hf st hg
    subst hP hw hK
    obtain ⟨xs, ys, hq1, hq2, hx⟩ := hg
    obtain ⟨its1, rv1, p1, hz1⟩ := I.list hq1
    obtain ⟨its2, rv2, p2, hz2⟩ := I.list hq2
    obtain ⟨a1, a2, ⟨p, q, a3⟩, a4, a5⟩ := st
    have e1 := rv1.length
    have e2 := rv2.length
    refine wpAny_pyNext_zip_end (I.ok.hd hc) D a1 a2 a3 a4 a5 p1.isList p2.isList (hx.elim (fun h => .inl (by simp; omega)) fun h => .inr (by simp; omega)) fun h' k => ⟨rfl, I.turnedN (t' := s.toks) (fun b o hb e => ?_) hf⟩
    simp only [List.mem_cons, List.not_mem_nil, or_false, not_or] at hb
    exact k b o hb.1 hb.2.2.1 hb.2.2.2.1 hb.2.2.2.2 e
  self := fun _ _ _ _ _ st h => wpAny_pyIter_zip st.1 h
section
variable {X : Cx}
def iZip (K : PySem.W.Frag) (ta : TA) : TI := fun σ H R => ta σ H fun vs H1 => ∃ a b, vs = [.ref a, .ref b] ∧ (∃ xs, SqL K H1 a xs) ∧ (∃ ys, SqL K H1 b ys) ∧ R (Itz K a b) H1
theorem pi_zip {a b : Expr} {ta : TA} {p pos : Pos} {elts : List Expr} {x1} {pz : Pos} (hg : Gl X "zip") (hm : X.mg "zip" = none) (ha : PA X [a, b] ta) (hs : starEach [a, b] X.env = [(false, eval a X.env), (false, eval b X.env)] := by rfl) (hs2 : starEach [b] X.env = [(false, eval b X.env)] := by rfl) :
    PI X (.Tuple elts x1 pz) (.Call (.Name "zip" p) [a, b] [] pos) (iZip X.K ta) := by
  intro pins s σ H R I h
  refine Call_ (ld_blt I hg hm (u := .type "zip") (by kernel_rfl) (PyProof.Rows.callWith_type1 (thn (ha pos pins s σ H _ I h) fun us s1 ⟨vs, H1, I1, r1, q1⟩ => ?_) (by rw [hs, hs2]) (by rw [hs2]; rfl)))
  obtain ⟨a, b, e, ⟨xs, hq1⟩, ⟨ys, hq2⟩, q⟩ := q1
  subst e
  obtain ⟨u, u', rfl, ru, ru'⟩ := vals2 r1
  cases ru
  cases ru'
  obtain ⟨its1, rv1, p1, hz1⟩ := I1.list hq1
  obtain ⟨its2, rv2, p2, hz2⟩ := I1.list hq2
  refine call_zip_2 p1.isList p2.isList fun h' a1 a2 a3 a4 a5 a6 k => ?_
  have n1 : @LT.lt Nat _ a s1.heap.objs.size := by obtain ⟨o, n, e, _⟩ := p1; exact Heap.lt_size e
  have n2 : @LT.lt Nat _ b s1.heap.objs.size := by obtain ⟨o, n, e, _⟩ := p2; exact Heap.lt_size e
  refine wpAny_pyIter_zip a1 ?_
  have I2 : Inv X pins σ H1 { s1 with heap := h' } := I1.kept (t' := s1.toks) k
  refine ⟨_, [s1.heap.objs.size + 4, s1.heap.objs.size + 2, s1.heap.objs.size + 3, s1.heap.objs.size, s1.heap.objs.size + 1], _, _, H1, rfl, I2, turn_zip _ _ _ _ _ a b ⟨?_, ?_, ?_, ?_, ?_, ?_, ?_, ?_, ?_, ?_, ?_, ?_, ?_, ?_, ?_, ?_, ?_, ?_⟩, ⟨a1, a2, ⟨_, _, a3⟩, a4, a5⟩, fun c hc => ?_, q⟩
  case refine_19 =>
    have hc' : s1.heap.objs.size ≤ c := by
      simp only [List.mem_cons, List.not_mem_nil, or_false] at hc
      rcases hc with rfl | rfl | rfl | rfl | rfl <;> omega
    exact I1.fpOk hc' (I1.hok.fresh hc')
  all_goals (show @Ne Nat _ _; first | exact (fun h => absurd (show (_ : Nat) = _ from h) (by omega)))
end
end L2
namespace L2
open PySem
theorem call_isinstK {X : Cx} {K : PySem.W.Frag} (e : X.K = K) : CallR X (.builtin "isinstance") (fun xs H Q => ∃ x c cv t b, xs = [x, c] ∧ clsV c = some cv ∧ KndT K H x t ∧ PySem.W.kitOne K t cv = some b ∧ Q (.bl b) H) := by
  subst e
  exact call_isinstC
end L2
namespace L2
open PySem
theorem star_tup {es rest : List Expr} {x1} {p : Pos} {env : Env} : starEach (.Tuple es x1 p :: rest) env = (false, eval (.Tuple es x1 p) env) :: starEach rest env := rfl
theorem star_lst {es rest : List Expr} {p : Pos} {env : Env} : starEach (.List es p :: rest) env = (false, eval (.List es p) env) :: starEach rest env := rfl
end L2

namespace L2
open PySem PySem.Spec PyProof.Rows
inductive Eqv (K : PySem.W.Frag) (H : Hp) : Nat → V → V → Prop where
  | flat {n : Nat} {x : V} (f : flatV x = true) : Eqv K H n x x
  | lst {n : Nat} {a b : Addr} {xs ys : List V} (ha : SqL K H a xs) (hb : SqL K H b ys) (hl : xs.length = ys.length) (hi : ∀ (i : Nat) x y, xs[i]? = some x → ys[i]? = some y → Eqv K H n x y) : Eqv K H (n + 1) (.ref a) (.ref b)
  | tup {n : Nat} {a b : Addr} {xs ys : List V} (ha : SqT K H a xs) (hb : SqT K H b ys) (hl : xs.length = ys.length) (hi : ∀ (i : Nat) x y, xs[i]? = some x → ys[i]? = some y → Eqv K H n x y) : Eqv K H (n + 1) (.ref a) (.ref b)
theorem eqV_self {x : V} (f : flatV x = true) : eqV x x = true := by
  cases x with
  | non => rfl
  | bl b => cases b <;> rfl
  | int i => show (i == i) = true; exact beq_self_eq_true i
  | str z => show (z == z) = true; exact beq_self_eq_true z
  | _ => exact absurd (show false = true from f) Bool.false_ne_true
theorem all_true {n : Nat} : (List.range n).all (fun _ => true) = true := by simp
section
variable {X : Cx} {pins : List (Addr × Obj)} {σ : St} {H : Hp} {s : Shared}
theorem Vals.atN {xs : List V} {us : List Value} (r : Vals xs us) {j : Nat} (h : j < us.length) : ∃ x, xs[j]? = some x ∧ RelV x us[j] := by
  have e : xs[j]? = some (xs[j]'(by rw [r.length]; exact h)) := List.getElem?_eq_getElem _
  obtain ⟨u, hu, ru⟩ := r.get e
  rw [List.getElem?_eq_getElem h] at hu
  cases hu
  exact ⟨_, e, ru⟩
theorem Eqv.at (I : Inv X pins σ H s) {n : Nat} {y x : V} (h : Eqv X.K H n y x) : ∀ {A : Around} {u v : Value}, RelV y u → RelV x v → A.units + n < cLine → SeqAt.EqAt A s u v true := by
  induction h with
  | flat f =>
    intro A u v ru rv _
    have e := eqAt_V (A := A) (s := s) ru rv f f
    rw [eqV_self f] at e
    exact e
  | @lst n a b xs ys ha hb hl hi ih =>
    intro A u v ru rv hu
    cases ru
    cases rv
    by_cases hab : a = b
    · subst hab
      exact SeqAt.EqAt.same _
    · obtain ⟨i1, r1, p1, _⟩ := I.list ha
      obtain ⟨i2, r2, p2, _⟩ := I.list hb
      have l1 := r1.length
      have l2 := r2.length
      refine SeqAt.EqAt.of_refs hab ?_
      have e := SeqAt.RcAt.lists (A := A) (e := fun _ => true) p1.isList p2.isList (by simp; omega) (by omega) (fun j h1 h2 => ?_)
      · rw [all_true] at e
        exact e
      · obtain ⟨x1, e1, q1⟩ := r1.atN (j := j) (by simpa using h1)
        obtain ⟨x2, e2, q2⟩ := r2.atN (j := j) (by simpa using h2)
        exact ih j x1 x2 e1 e2 (by simpa using q1) (by simpa using q2) (by show A.units + 1 + n < cLine; omega)
  | @tup n a b xs ys ha hb hl hi ih =>
    intro A u v ru rv hu
    cases ru
    cases rv
    by_cases hab : a = b
    · subst hab
      exact SeqAt.EqAt.same _
    · obtain ⟨i1, r1, p1, _⟩ := I.tuple ha
      obtain ⟨i2, r2, p2, _⟩ := I.tuple hb
      have l1 := r1.length
      have l2 := r2.length
      refine SeqAt.EqAt.of_refs hab ?_
      have e := SeqAt.RcAt.tuples (A := A) (e := fun _ => true) (show s.heap.IsTuple a i1.toArray from p1) (show s.heap.IsTuple b i2.toArray from p2) (by omega) (fun j h1 h2 => ?_)
      · rw [all_true, Bool.true_and, show (i1.toArray.size == i2.toArray.size) = true by simp; omega] at e
        exact e
      · obtain ⟨x1, e1, q1⟩ := r1.atN (j := j) (by simpa using h1)
        obtain ⟨x2, e2, q2⟩ := r2.atN (j := j) (by simpa using h2)
        exact ih j x1 x2 e1 e2 (by simpa using q1) (by simpa using q2) (by show A.units + 1 + n < cLine; omega)
theorem scal_self {x : V} (f : flatV x = true) : scal x x = true := by
  cases x with
  | non => rfl
  | bl b => rfl
  | int i => rfl
  | str z => rfl
  | _ => exact absurd (show false = true from f) Bool.false_ne_true
def rSame (K : PySem.W.Frag) (r : Bool) : R2 := fun x y H Q => Eqv K H 6 x y ∧ Q (.bl r) H
theorem op_eqS (hu : X.A.units + 64 < cLine) : OpR X (compareOp .Eq) (rSame X.K true) := by
  intro pins s σ H x y v u Q I rx ry ⟨h, q⟩
  cases h with
  | flat f => exact op_eq pins s σ H x x v u Q I rx ry ⟨scal_self f, by rw [decide_eq_true rfl]; exact q⟩
  | @lst _ a b xs ys ha hb hl hi =>
    cases rx
    cases ry
    obtain ⟨i1, r1, p1, _⟩ := I.list ha
    obtain ⟨i2, r2, p2, _⟩ := I.list hb
    have l1 := r1.length
    have l2 := r2.length
    refine SeqAt.eq_listAt (e := fun _ => true) p1.isList p2.isList (by simp; omega) (by omega) (fun j h1 h2 => ?_) ⟨.bl true, H, I, by rw [all_true]; rfl, q⟩
    obtain ⟨x1, e1, q1⟩ := r1.atN (j := j) (by simpa using h1)
    obtain ⟨x2, e2, q2⟩ := r2.atN (j := j) (by simpa using h2)
    exact (hi j x1 x2 e1 e2).at I (by simpa using q1) (by simpa using q2) (by show X.A.units + 1 + 5 < cLine; omega)
  | @tup _ a b xs ys ha hb hl hi =>
    cases rx
    cases ry
    obtain ⟨i1, r1, p1, _⟩ := I.tuple ha
    obtain ⟨i2, r2, p2, _⟩ := I.tuple hb
    have l1 := r1.length
    have l2 := r2.length
    refine SeqAt.eq_tupleAt (e := fun _ => true) (show s.heap.IsTuple a i1.toArray from p1) (show s.heap.IsTuple b i2.toArray from p2) (by omega) (fun j h1 h2 => ?_) ⟨.bl true, H, I, by rw [all_true, Bool.true_and, show (i1.toArray.size == i2.toArray.size) = true by simp; omega]; rfl, q⟩
    obtain ⟨x1, e1, q1⟩ := r1.atN (j := j) (by simpa using h1)
    obtain ⟨x2, e2, q2⟩ := r2.atN (j := j) (by simpa using h2)
    exact (hi j x1 x2 e1 e2).at I (by simpa using q1) (by simpa using q2) (by show X.A.units + 1 + 5 < cLine; omega)
theorem op_neS (hu : X.A.units + 64 < cLine) : OpR X (compareOp .NotEq) (rSame X.K false) := by
  intro pins s σ H x y v u Q I rx ry ⟨h, q⟩
  cases h with
  | flat f => exact op_ne pins s σ H x x v u Q I rx ry ⟨scal_self f, by rw [decide_eq_true rfl]; exact q⟩
  | @lst _ a b xs ys ha hb hl hi =>
    cases rx
    cases ry
    obtain ⟨i1, r1, p1, _⟩ := I.list ha
    obtain ⟨i2, r2, p2, _⟩ := I.list hb
    have l1 := r1.length
    have l2 := r2.length
    refine SeqAt.RcNeAt.lists (e := fun _ => true) p1.isList p2.isList (by simp; omega) (by omega) (fun j h1 h2 => ?_) _ _ _ _ ⟨.bl false, H, I, by rw [all_true]; rfl, q⟩
    obtain ⟨x1, e1, q1⟩ := r1.atN (j := j) (by simpa using h1)
    obtain ⟨x2, e2, q2⟩ := r2.atN (j := j) (by simpa using h2)
    exact (hi j x1 x2 e1 e2).at I (by simpa using q1) (by simpa using q2) (by show X.A.units + 1 + 5 < cLine; omega)
  | @tup _ a b xs ys ha hb hl hi =>
    cases rx
    cases ry
    obtain ⟨i1, r1, p1, _⟩ := I.tuple ha
    obtain ⟨i2, r2, p2, _⟩ := I.tuple hb
    have l1 := r1.length
    have l2 := r2.length
    refine SeqAt.RcNeAt.tuples (e := fun _ => true) (show s.heap.IsTuple a i1.toArray from p1) (show s.heap.IsTuple b i2.toArray from p2) (by omega) (fun j h1 h2 => ?_) _ _ _ _ ⟨.bl false, H, I, by rw [all_true, Bool.true_and, show (i1.toArray.size == i2.toArray.size) = true by simp; omega]; rfl, q⟩
    obtain ⟨x1, e1, q1⟩ := r1.atN (j := j) (by simpa using h1)
    obtain ⟨x2, e2, q2⟩ := r2.atN (j := j) (by simpa using h2)
    exact (hi j x1 x2 e1 e2).at I (by simpa using q1) (by simpa using q2) (by show X.A.units + 1 + 5 < cLine; omega)
end
end L2


namespace L2
open PySem
theorem eqv_flatT {K : PySem.W.Frag} {H : Hp} {n : Nat} {a b : Addr} {xs : List V} (ha : SqT K H a xs) (hb : SqT K H b xs) (f : ∀ x ∈ xs, flatV x = true) : Eqv K H (n + 1) (.ref a) (.ref b) :=
  .tup ha hb rfl fun i x y hx hy => by
    have e := Option.some.inj (hx.symm.trans hy)
    subst e
    exact .flat (f x (List.mem_of_getElem? hx))
end L2

namespace L2
open PySem PySem.Spec PyProof.Rows
def clOf (env : Env) : List (Str × NameKind) → List (Str × Addr) → List (Str × Addr)
  | [], cs => cs
  | (n, k) :: r, cs => clOf env r (if (k == NameKind.free) = true then (match env.cells.lookup n with | some a => (n, a) :: cs | none => cs) else cs)
theorem closure_of {scope : Scope} {env : Env} (h : ∀ y ∈ scope.names, y.2 = .free → ∃ c, env.cells.lookup y.1 = some c) : closureFor scope env = pure (clOf env scope.names []) := by
  unfold closureFor
  have go : ∀ (l : List (Str × NameKind)) (cs : List (Str × Addr)), (∀ y ∈ l, y.2 = .free → ∃ c, env.cells.lookup y.1 = some c) →
      (forIn l cs fun x r => (match x with | (name, kind) => if (kind == NameKind.free) = true then do let a ← cellOf env name; pure (ForInStep.yield ((name, a) :: r)) else pure (ForInStep.yield r) : Sem (ForInStep (List (Str × Addr))))) = pure (clOf env l cs) := by
    intro l
    induction l with
    | nil => intro cs _; rfl
    | cons y r ih =>
      intro cs hl
      obtain ⟨n, k⟩ := y
      rw [List.forIn_cons]
      by_cases hk : (k == NameKind.free) = true
      · obtain ⟨c, e⟩ := hl (n, k) List.mem_cons_self (by simpa using hk)
        have e2 : cellOf env n = pure c := by unfold cellOf; rw [e]
        show (bind (if (k == NameKind.free) = true then _ else _) _ : Sem _) = _
        rw [if_pos hk, e2]
        show (forIn r ((n, c) :: cs) _ : Sem _) = pure (clOf env r (if (k == NameKind.free) = true then (match env.cells.lookup n with | some a => (n, a) :: cs | none => cs) else cs))
        rw [if_pos hk, e]
        exact ih _ fun y hy => hl y (List.mem_cons_of_mem _ hy)
      · show (bind (if (k == NameKind.free) = true then _ else _) _ : Sem _) = _
        rw [if_neg hk]
        show (forIn r cs _ : Sem _) = pure (clOf env r (if (k == NameKind.free) = true then (match env.cells.lookup n with | some a => (n, a) :: cs | none => cs) else cs))
        rw [if_neg hk]
        exact ih _ fun y hy => hl y (List.mem_cons_of_mem _ hy)
  exact (congrArg (fun z : Sem (List (Str × Addr)) => z >>= fun s => pure s) (go scope.names [] h)).trans rfl
theorem clOf_sub {env : Env} {x : Str} {c : Addr} : ∀ (l : List (Str × NameKind)) (cs : List (Str × Addr)), (cs.lookup x = some c → env.cells.lookup x = some c) → (clOf env l cs).lookup x = some c → env.cells.lookup x = some c
  | [], cs, hcs, h => hcs h
  | (n, k) :: r, cs, hcs, h => by
    refine clOf_sub r _ ?_ h
    intro q
    split at q
    · cases e : env.cells.lookup n with
      | none => rw [e] at q; exact hcs q
      | some a =>
        rw [e] at q
        have q : List.lookup x ((n, a) :: cs) = some c := q
        rw [List.lookup_cons] at q
        cases z : x == n with
        | true =>
          rw [z] at q
          have z' : x = n := by simpa using z
          rw [z', e, ← q]
        | false =>
          rw [z] at q
          exact hcs q
    · exact hcs q
theorem clOf_has {env : Env} {x : Str} {c : Addr} (e : env.cells.lookup x = some c) : ∀ (l : List (Str × NameKind)) (cs : List (Str × Addr)), ((x, NameKind.free) ∈ l ∨ cs.lookup x = some c) → (clOf env l cs).lookup x = some c
  | [], cs, h => h.resolve_left (by simp)
  | (n, k) :: r, cs, h => by
    refine clOf_has e r _ ?_
    by_cases hn : (x == n) = true
    · have z' : x = n := by simpa using hn
      by_cases hk : (k == NameKind.free) = true
      · refine .inr ?_
        rw [if_pos hk, ← z', e]
        show List.lookup x ((x, c) :: cs) = some c
        simp
      · rcases h with h | h
        · rcases List.mem_cons.mp h with q | q
          · cases q
            exact absurd (by simp) hk
          · exact .inl q
        · rw [if_neg hk]; exact .inr h
    · have nx : x ≠ n := fun z => hn (by simp [z])
      rcases h with h | h
      · rcases List.mem_cons.mp h with q | q
        · cases q
          exact absurd rfl nx
        · exact .inl q
      · refine .inr ?_
        split
        · cases en : env.cells.lookup n with
          | none => exact h
          | some a =>
            show List.lookup x ((n, a) :: cs) = some c
            have hn : (x == n) = false := by simpa using nx
            rw [List.lookup_cons, hn]
            exact h
        · exact h
theorem rel_free {env : Env} {x : Str} : ∀ {names : List (Str × NameKind)}, (∀ y ∈ names, y.2 ≠ .cell) →
    ((names.map fun (n, k) => if (k == NameKind.free && env.scope.kind == .function && env.kindOf n == some .cell) then (n, NameKind.cell) else (n, k)).lookup x = some .cell ∨
     (names.map fun (n, k) => if (k == NameKind.free && env.scope.kind == .function && env.kindOf n == some .cell) then (n, NameKind.cell) else (n, k)).lookup x = some .free) → (x, NameKind.free) ∈ names
  | [], _, h => by simp at h
  | (n, k) :: r, hc, h => by
    have ih := @rel_free env x r fun y hy => hc y (List.mem_cons_of_mem _ hy)
    rw [List.map_cons] at h
    by_cases hq : (k == NameKind.free && env.scope.kind == .function && env.kindOf n == some .cell) = true
    · have hk : k = .free := by
        rw [Bool.and_eq_true, Bool.and_eq_true] at hq
        simpa using hq.1.1
      simp only [if_pos hq, List.lookup_cons] at h
      cases hx : x == n with
      | true =>
        have e : x = n := by simpa using hx
        rw [e, hk]
        exact List.mem_cons_self
      | false =>
        simp only [hx] at h
        exact List.mem_cons_of_mem _ (ih h)
    · simp only [if_neg hq, List.lookup_cons] at h
      cases hx : x == n with
      | true =>
        simp only [hx] at h
        have e : x = n := by simpa using hx
        rcases h with h | h
        · cases h
          exact absurd rfl (hc _ List.mem_cons_self)
        · cases h
          rw [e]
          exact List.mem_cons_self
      | false =>
        simp only [hx] at h
        exact List.mem_cons_of_mem _ (ih h)
theorem rel_cell {env : Env} {x : Str} (hk : env.scope.kind = .function) (he : env.kindOf x = some .cell) : ∀ {names : List (Str × NameKind)}, names.lookup x = some .free →
    (names.map fun (n, k) => if (k == NameKind.free && env.scope.kind == .function && env.kindOf n == some .cell) then (n, NameKind.cell) else (n, k)).lookup x = some .cell
  | [], h => by simp at h
  | (n, k) :: r, h => by
    have ih := @rel_cell env x hk he r
    rw [List.map_cons]
    rw [List.lookup_cons] at h
    cases hx : x == n with
    | true =>
      simp only [hx] at h
      have e : x = n := by simpa using hx
      cases h
      subst e
      show List.lookup x ((if (NameKind.free == NameKind.free && env.scope.kind == ScopeKind.function && env.kindOf x == some NameKind.cell) = true then (x, NameKind.cell) else (x, NameKind.free)) :: _) = _
      rw [if_pos (by rw [hk, he]; rfl), List.lookup_cons]
      simp
    | false =>
      simp only [hx] at h
      show List.lookup x ((if (k == NameKind.free && env.scope.kind == ScopeKind.function && env.kindOf n == some NameKind.cell) = true then (n, NameKind.cell) else (n, k)) :: _) = _
      by_cases hq : (k == NameKind.free && env.scope.kind == .function && env.kindOf n == some .cell) = true
      · rw [if_pos hq, List.lookup_cons]
        simp only [hx]
        exact ih h
      · rw [if_neg hq, List.lookup_cons]
        simp only [hx]
        exact ih h
abbrev cxBlk (X : Cx) (N : List Str) (scope : Scope) (C : Addr) (fp : List Addr) (s : Shared) (H : Hp) (xe : Value → Shared → Prop) : Cx :=
  { X with N := N, s₀ := s, H₀ := H, env := compEnvC scope (clOf X.env scope.names []) C X.env, outer := X.stack, ex := fp, fn := fun _ => false, pn := [], xe := xe }
def pick (ix : List Nat) (σ : St) : St := ix.map fun i => σ.getD i none
def capOk (XN : List Str) (kd : Str → Option NameKind) (names : List (Str × NameKind)) (N : List Str) (ix : List Nat) : Bool :=
  (List.range ix.length).all fun j => match N[j]?, ix[j]? with
    | some x, some i => decide (XN[i]? = some x) && decide (names.lookup x = some .free) && decide (kd x = some .cell)
    | _, _ => false
theorem capOk_at {XN : List Str} {kd : Str → Option NameKind} {names : List (Str × NameKind)} {N : List Str} {ix : List Nat} (h : capOk XN kd names N ix = true) {j : Nat} (hj : j < ix.length) {x : Str} (hx : N[j]? = some x) :
    ∃ i, ix[j]? = some i ∧ XN[i]? = some x ∧ names.lookup x = some .free ∧ kd x = some .cell := by
  unfold capOk at h
  rw [List.all_eq_true] at h
  have q := h j (List.mem_range.mpr hj)
  rw [hx, List.getElem?_eq_getElem hj] at q
  simp only [Bool.and_eq_true, decide_eq_true_eq] at q
  exact ⟨_, List.getElem?_eq_getElem hj, q.1.1, q.1.2, q.2⟩
theorem inv_blk {X : Cx} {pins : List (Addr × Obj)} {σ : St} {H : Hp} {s : Shared} (I : Inv X pins σ H s) {N : List Str} {ix : List Nat} {scope : Scope} {fp : List Addr} {xe : Value → Shared → Prop} (hf : ∀ b ∈ fp, FpOk X pins H b) (ho : ∀ b ∈ fp, ∃ o, s.heap.get? b = some o)
    (hk : scope.kind = .function) (hc : ∀ y ∈ scope.names, y.2 ≠ .cell) (hfr : ∀ y ∈ scope.names, y.2 = .free → X.env.kindOf y.1 = some .cell) (hcap : capOk X.N X.env.kindOf scope.names N ix = true) (hN : ix.length ≤ N.length) {h₁ : Heap} {tk n : Nat} {m : Str → Option Value}
    (hn : h₁.Ns (s.heap.objs.size + 1) m) (hkp : ∀ b u, s.heap.get? b = some u → h₁.get? b = some u) (hD : h₁.get? s.heap.objs.size = some { cls := .type "list", data := .seq ([] : List Value).toArray n }) :
    Inv (cxBlk X N scope (s.heap.objs.size + 1) fp s H xe) [] (pick ix σ ++ List.replicate (N.length - ix.length) none) (upd H s.heap.objs.size (.lst [])) { s with heap := h₁, toks := tk } := by
  have fresh : H s.heap.objs.size = none := I.hok.fresh (Nat.le_refl _)
  have fresh1 : H (s.heap.objs.size + 1) = none := I.hok.fresh (Nat.le_succ _)
  have cel : ∀ x c, (clOf X.env scope.names []).lookup x = some c → X.env.cells.lookup x = some c := fun x c e => clOf_sub _ _ (by intro q; simp at q) e
  have clt : ∀ x c, (clOf X.env scope.names []).lookup x = some c → c < s.heap.objs.size := fun x c e => by
    obtain ⟨v, q⟩ := I.cell x c (cel x c e)
    exact q.lt
  refine ⟨⟨I.ok.mod, hk, I.ok.glob, I.ok.blt, Nat.le_succ _, fun x y c h1 h2 => I.ok.inj x y c (cel x c h1) (cel y c h2), fun x hx => ?_, fun x c h => absurd h Bool.false_ne_true, I.ok.hd, I.ok.frames, .inl rfl, fun b hb => ⟨?_, fun x c e => ?_⟩, I.bs, Nat.le_trans I.ok.bsz I.sz, fun b o e hb => ?_, fun b hb z => ?_, I.stack, I.stkFree⟩,
    rfl, I.bare, Un.laid hkp (Nat.le_refl _) fresh, ⟨m, hn, fun i x v e1 e2 e3 => ?_⟩, fun x c e => ?_, ?_, fun x c e => ?_, fun p hp => ?_, I.hok.laid hkp (Nat.le_refl _) ⟨by simp, [], n, .nil, hD⟩, ?_⟩
  · have hx : (x, NameKind.free) ∈ scope.names := rel_free hc hx
    obtain ⟨c, e⟩ := I.ok.has x (.inl (hfr _ hx rfl))
    exact ⟨c, clOf_has e _ _ (.inl hx)⟩
  · obtain ⟨o, e⟩ := ho b hb
    exact Nat.ne_of_lt (Nat.lt_succ_of_lt (Heap.lt_size e))
  · exact (hf b hb).2.2.2.2.1 x c (cel x c e)
  · rcases (hf b hb).2.2.2.1 with z | z
    · exact I.ok.noex b o e z
    · exact absurd (Nat.lt_of_lt_of_le (Heap.lt_size e) (Nat.le_trans I.ok.bsz z)) (Nat.lt_irrefl _)
  · rcases List.mem_cons.mp (I.stkSub b z) with z | z
    · exact (hf b hb).2.1 z
    · exact (hf b hb).2.2.1 z
  · have hi : i < ix.length := by
      by_cases hi : i < ix.length
      · exact hi
      · rw [List.getElem?_append_right (by simpa [pick] using hi), List.getElem?_replicate] at e2
        split at e2 <;> cases e2
    obtain ⟨i0, q1, q2, q3, q4⟩ := capOk_at hcap hi e1
    rw [List.getElem?_append_left (by simpa [pick] using hi)] at e2
    have e2 : σ[i0]? = some (some v) := by
      unfold pick at e2
      rw [List.getElem?_map, q1] at e2
      have e2 : σ.getD i0 none = some v := Option.some.inj e2
      rw [List.getD_eq_getElem?_getD] at e2
      cases z : σ[i0]? with
      | none => rw [z] at e2; cases e2
      | some y => rw [z] at e2; exact congrArg some e2
    obtain ⟨mX, _, lX⟩ := I.loc
    obtain ⟨u, r, l⟩ := lX i0 x v q2 e2 (.inr (.inl q4))
    refine ⟨u, r, .inr ⟨.inl (rel_cell I.ok.kind q4 q3), ?_⟩⟩
    rcases l with ⟨l, _⟩ | ⟨_, c, e, z⟩
    · rw [q4] at l; cases l
    · obtain ⟨o, e', d⟩ := z
      exact ⟨c, clOf_has e _ _ (.inl (PySem.mem_of_lookup q3)), o, hkp _ _ e', d⟩
  · obtain ⟨v, o, e', d⟩ := I.cell x c (cel x c e)
    exact ⟨v, o, hkp _ _ e', d⟩
  · show upd H s.heap.objs.size (.lst []) (s.heap.objs.size + 1) = none
    rw [upd_ne (Nat.ne_of_gt (Nat.lt_succ_self _))]
    exact fresh1
  · rw [upd_ne (Nat.ne_of_lt (clt x c e))]
    exact I.freeC x c (cel x c e)
  · exact absurd (show p ∈ ([] : List (Addr × Obj)) from hp) (by simp)
  · show _ = N.length
    rw [List.length_append, List.length_replicate]
    simp only [pick, List.length_map]
    omega
def PIf (X : Cx) (ifs : List Expr) (t : TT) : Prop :=
  ∀ (pins : List (Addr × Obj)) (s : Shared) (σ : St) (H : Hp) (Q : Bool → Hp → Prop), Inv X pins σ H s → t σ H Q →
    wpAny (model X.prog X.w) X.A (forIn ifs true fun c r => if r = true then do let ok ← isTrue c X.env (eval c X.env); pure (ForInStep.yield ok) else pure (ForInStep.yield r)) (TP X pins σ Q) X.xe s
def tNoIf : TT := fun _ H Q => Q true H
theorem tNoIf_at {A B : Hp → Prop} {σ : St} {H : Hp} (h : A H) : tNoIf σ H (fun b H6 => if b = true then A H6 else B H6) := by
  show if true = true then A H else B H
  rw [if_pos rfl]
  exact h
theorem pif_nil {X : Cx} : PIf X [] tNoIf := fun pins s σ H Q I h => wpAny_pure ⟨H, I, h⟩
theorem pif_one {X : Cx} {c : Expr} {t : TT} (hc : PT X c t) : PIf X [c] t := fun pins s σ H Q I h => by
  rw [List.forIn_cons]
  show wpAny _ _ (bind (if true = true then _ else _) _) _ _ _
  rw [if_pos rfl]
  refine wpAny_bind (wpAny_bind (thn (hc pins s σ H Q I h) fun b s1 q => ?_))
  exact wpAny_pure (wpAny_pure q)
def tLC (wi : TI) (g : TG) (tc : TT) (te : TE) (ix : List Nat) (k : Nat) : TE := fun σ H Q => wi σ H fun J H1 => ∀ D H2, H1 D = none → Same H1 H2 → H2 D = some (.lst []) →
  ∃ W : Nat → Nat → Hp → Prop, (∃ m, W 0 m H2) ∧ ∀ i m H3, W i m H3 → (J.stop i H3 ∧ Q (.ref D) H3) ∨
    (J.go i H3 ∧ ∃ N : Hp → Prop, (∀ H', N H' → ∃ m', m' < m ∧ W (i + 1) m' H') ∧ ∀ x H4, J.yld i H3 x H4 → g x (pick ix σ ++ List.replicate k none) H4 fun σ5 H5 => tc σ5 H5 fun b H6 =>
      if b = true then te σ5 H6 (fun v H7 => ∃ vs, H7 D = some (.lst vs) ∧ vs.length < sizeLine ∧ N (upd H7 D (.lst (vs ++ [v])))) else N H6)
def Own (g : TG) (k : Nat) : Prop := ∀ x σ H Q, g x σ H Q → g x σ H fun σ' H' => Q σ' H' ∧ σ'.length = σ.length ∧ ∀ j, j < k → σ'[j]? = σ[j]?
def OwnS (g : TGs) (k : Nat) : Prop := ∀ (xs : List V) (σ : St) (H : Hp) (Q : St → Hp → Prop) (σ0 : St), σ.length = σ0.length → (∀ j, j < k → σ[j]? = σ0[j]?) → g xs σ H Q → g xs σ H fun σ' H' => Q σ' H' ∧ σ'.length = σ0.length ∧ ∀ j, j < k → σ'[j]? = σ0[j]?
theorem own_nil {k : Nat} : OwnS gNil k := fun xs σ H Q σ0 h1 h2 ⟨e, q⟩ => ⟨e, q, h1, h2⟩
theorem own_cons {i k : Nat} {u : TGs} (h : k ≤ i) (hu : OwnS u k) : OwnS (gCons (gName i) u) k := fun xs σ H Q σ0 h1 h2 ⟨v, r, e, q⟩ =>
  ⟨v, r, e, hu r (σ.set i (some v)) H Q σ0 (List.length_set.trans h1) (fun j hj => by rw [List.getElem?_set_ne (by omega)]; exact h2 j hj) q⟩
theorem own_tup {K : PySem.W.Frag} {n k : Nat} {g : TGs} (h : OwnS g k) : Own (gTup K n g) k := fun x σ H Q ⟨a, xs, e1, e2, e3, q⟩ => ⟨a, xs, e1, e2, e3, h xs σ H Q σ rfl (fun _ _ => rfl) q⟩
theorem own_name {i k : Nat} (h : k ≤ i) : Own (gName i) k := fun x σ H Q q => ⟨q, List.length_set, fun j hj => by rw [List.getElem?_set_ne (by omega)]⟩
theorem lc_loop {P : Program} {w : World} {A : Around} {R : Result → Shared → Prop} {s : Shared} {elt tg iter : Expr} {ifs : List Expr} {sc : Scope} {pos : Pos} {it acc : Value} {env : Env} (J : Nat → Shared → Prop)
    (turn : ∀ n s1, J n s1 → wpAny (model P w) A (pyNext it) (fun r s2 => match r with
      | none => R (.ok .next) s2
      | some v => wpAny (model P w) A (letOwnedTupleGo tg it v) (fun _ s3 => wpAny (model P w) A (assign tg env v) (fun _ s4 =>
          wpAny (model P w) A (forIn ifs true fun c r => if r = true then do let ok ← isTrue c env (eval c env); pure (ForInStep.yield ok) else pure (ForInStep.yield r)) (fun ok s5 =>
            if ok = true then wpAny (model P w) A (eval elt env) (fun x s6 => wpAny (model P w) A (call (.builtin "list.append") [acc, x]) (fun _ s7 => ∃ m, m < n ∧ J m s7) (notedBy (model P w) A env fun e s' => R (.error e) s') s6) (notedBy (model P w) A env fun e s' => R (.error e) s') s5
            else ∃ m, m < n ∧ J m s5) (notedBy (model P w) A env fun e s' => R (.error e) s') s4) (notedBy (model P w) A env fun e s' => R (.error e) s') s3) (notedBy (model P w) A env fun e s' => R (.error e) s') s2) (notedBy (model P w) A env fun e s' => R (.error e) s') s1)
    (n : Nat) (h : J n s) : codeAny (model P w) A (.compLoop (.ListComp elt [⟨tg, iter, ifs, 0⟩] sc pos) 0 it acc env) R s := by
  refine codeAny_loop rfl J (fun m s1 hJ => ?_) n h
  show wpAny _ A ((compTurn _ 0 it acc env).onRaise (fun x => do noteFrame x env; theTreesLotGoes x)) _ _ s1
  refine wpAny_noted ?_
  rw [compTurn_list]
  refine wpAny_bind (wpAny_standAt (wpAny_bind (thn (turn m s1 hJ) fun r s2 h2 => ?_)))
  cases r with
  | none => exact wpAny_pure h2
  | some v =>
    refine wpAny_bind (thn h2 fun _ s3 h3 => wpAny_bind (thn h3 fun _ s4 h4 => wpAny_bind (thn h4 fun ok s5 h5 => ?_)))
    cases ok with
    | false => exact wpAny_pure ⟨rfl, h5⟩
    | true => exact wpAny_bind (wpAny_bind (thn h5 fun x s6 h6 => wpAny_bind (thn h6 fun _ s7 h7 => wpAny_pure (wpAny_pure ⟨rfl, h7⟩))))
theorem pe_lc {X : Cx} {elt iter tg : Expr} {ifs : List Expr} {scope : Scope} {pos : Pos} {wi : TI} {g : TG} {tc : TT} {te : TE} (N : List Str) (ix : List Nat) (hcalm : X.calm = true) (hi : PI X tg iter wi)
    (hg : ∀ C fp s H xe, PG (cxBlk X N scope C fp s H xe) tg g) (hif : ∀ C fp s H xe, PIf (cxBlk X N scope C fp s H xe) ifs tc) (he : ∀ C fp s H xe, PE (cxBlk X N scope C fp s H xe) elt te)
    (hk : scope.kind = .function) (hc : ∀ y ∈ scope.names, y.2 ≠ .cell) (hfr : ∀ y ∈ scope.names, y.2 = .free → X.env.kindOf y.1 = some .cell) (hcap : capOk X.N X.env.kindOf scope.names N ix = true) (hN : ix.length ≤ N.length)
    (hnames : ∀ x ∈ scope.names, x.2 = .local → scope.names.lookup x.1 = some .local) (hown : Own g ix.length) (hs : ∀ x, foldedSetIterable iter X.env x = pure x := by intro _; rfl) :
    PE X (.ListComp elt [⟨tg, iter, ifs, 0⟩] scope pos) (tLC wi g tc te ix (N.length - ix.length)) := by
  intro pins s σ H Q I h
  rw [eval_ListComp]
  refine wpAny_comprehension_free (use := none) (cl := clOf X.env scope.names []) rfl hs (closure_of fun y hy hyf => I.ok.has _ (.inl (hfr y hy hyf))) hk hnames (thn (hi pins s σ H _ I h) fun v s1 h1 => thn h1 fun itv s2 h2 => ?_)
  obtain ⟨it, fp, tn, J, H2, e, I2, T, st2, f2, q2⟩ := h2
  subst e
  refine wpAny_newObj_type (wpAny_newFunctionEnv hc (by intro y hy; simp at hy) (fun h₁ hns₁ hsb₁ => ?_) hk)
  dsimp only at hns₁ hsb₁ ⊢
  rw [Heap.size_push] at hns₁ hsb₁ ⊢
  have old : ∀ b o, s2.heap.get? b = some o → h₁.get? b = some o := fun b o e => hsb₁.extBut b o (Nat.ne_of_lt (Nat.lt_succ_of_lt (Heap.lt_size e))) (Heap.get?_push_of_some _ (Heap.get?_push_of_some _ e))
  have hacc : h₁.get? s2.heap.objs.size = some { cls := .type "list", data := .seq ([] : List Value).toArray } := hsb₁.extBut _ _ (Nat.ne_of_lt (Nat.lt_succ_self _)) (Heap.get?_push_of_some _ (Heap.get?_push_size _ rfl))
  have fob : ∀ b ∈ fp, ∃ o, s2.heap.get? b = some o := fun b hb => let ⟨o, e, _⟩ := T.obj _ _ st2 b hb; ⟨o, e⟩
  have fresh : H2 s2.heap.objs.size = none := I2.hok.fresh (Nat.le_refl _)
  obtain ⟨W, ⟨m0, w0⟩, turn⟩ := q2 s2.heap.objs.size (upd H2 s2.heap.objs.size (.lst [])) fresh (Same.upd fresh) upd_same
  have fin : ∀ {pY σ' H' s'}, Inv (cxBlk X N scope (s2.heap.objs.size + 1) fp s2 H2 (notedBy (model X.prog X.w) X.A (compEnvC scope (clOf X.env scope.names []) (s2.heap.objs.size + 1) X.env) fun e s' => compPost (model X.prog X.w) X.A X.xe none (EP X pins σ Q) (.ref s2.heap.objs.size) (s2.heap.objs.size + 1) (.error e) s')) pY σ' H' s' → Q (.ref s2.heap.objs.size) H' →
      compPost (model X.prog X.w) X.A X.xe none (EP X pins σ Q) (.ref s2.heap.objs.size) (s2.heap.objs.size + 1) (.ok .next) s' := fun {pY σ' H' s'} J q => by
    obtain ⟨m, hm, _⟩ := id J.loc
    refine ⟨m, hm, fun h' sb => ⟨.ref s2.heap.objs.size, H', ?_, rfl, q⟩⟩
    have eb : ∀ b o, b ≠ s2.heap.objs.size + 1 → s'.heap.get? b = some o → h'.get? b = some o := fun b o nb e => sb.extBut b o nb e
    have low : ∀ b o, s2.heap.get? b = some o → b ≠ s2.heap.objs.size + 1 := fun b o e => Nat.ne_of_lt (Nat.lt_succ_of_lt (Heap.lt_size e))
    have u := J.base
    have nC : H' (s2.heap.objs.size + 1) = none := J.free
    refine I2.call' (ch := fp) (s' := { s' with heap := h' }) J.os ⟨fun b o e n1 n2 n3 => eb b o (low b o e) (u.keep b o e n1 n2 n3), fun b o e n1 n2 n3 => ?_, u.free, fun b o e n1 => ?_, u.tups, u.frzs, u.tbls⟩ (fun b o e => ?_) J.bare fun b hb => ⟨(f2 b hb).2.2.2.1, (f2 b hb).2.1, (f2 b hb).2.2.2.2.1, (f2 b hb).2.2.2.2.2⟩
    · obtain ⟨sl, q1⟩ := u.slot b o e n1 n2 n3
      exact ⟨sl, eb b _ (low b o e) q1⟩
    · obtain ⟨o', q1⟩ := u.there b o e n1
      exact ⟨o', eb b _ (low b o e) q1⟩
    · refine (J.hok b o e).stay (fun c v hc q1 => eb c v ?_ q1) (fun _ q1 => q1) fun _ _ q1 => q1
      rcases hc with rfl | z
      · exact ne_of_none e nC
      · exact ne_of_none z nC
  have IY : Inv (cxBlk X N scope (s2.heap.objs.size + 1) fp s2 H2 (notedBy (model X.prog X.w) X.A (compEnvC scope (clOf X.env scope.names []) (s2.heap.objs.size + 1) X.env) fun e s' => compPost (model X.prog X.w) X.A X.xe none (EP X pins σ Q) (.ref s2.heap.objs.size) (s2.heap.objs.size + 1) (.error e) s')) [] (pick ix σ ++ List.replicate (N.length - ix.length) none) (upd H2 s2.heap.objs.size (.lst [])) { s2 with heap := h₁, toks := s2.toks + ([] : List (Str × Value)).length } :=
    inv_blk I2 f2 fob hk hc hfr hcap hN hns₁ old hacc
  generalize hY : cxBlk X N scope (s2.heap.objs.size + 1) fp s2 H2 (notedBy (model X.prog X.w) X.A (compEnvC scope (clOf X.env scope.names []) (s2.heap.objs.size + 1) X.env) fun e s' => compPost (model X.prog X.w) X.A X.xe none (EP X pins σ Q) (.ref s2.heap.objs.size) (s2.heap.objs.size + 1) (.error e) s') = Y at IY fin
  have hgY : PG Y tg g := hY ▸ hg _ _ _ _ _
  have hifY : PIf Y ifs tc := hY ▸ hif _ _ _ _ _
  have heY : PE Y elt te := hY ▸ he _ _ _ _ _
  have hP : Y.prog = X.prog := by rw [← hY]
  have hw : Y.w = X.w := by rw [← hY]
  have hK : Y.K = X.K := by rw [← hY]
  have hcl : Y.calm = true := by rw [← hY]; exact hcalm
  have stat : ∀ {H' : Hp}, (∀ b ∈ fp, H' b = none) → ∀ b ∈ fp, FpOk Y [] H' b := fun {H'} hn b hb => by
    rw [← hY]
    refine ⟨hn b hb, ?_, fun z => ?_, .inl hb, fun x c e => ?_, fun p hp => absurd (show p ∈ ([] : List (Addr × Obj)) from hp) (by simp)⟩
    · obtain ⟨o, e⟩ := fob b hb
      exact Nat.ne_of_lt (Nat.lt_succ_of_lt (Heap.lt_size e))
    · rcases List.mem_cons.mp (I2.stkSub b z) with z | z
      · exact (f2 b hb).2.1 z
      · exact (f2 b hb).2.2.1 z
    · exact (f2 b hb).2.2.2.2.1 x c (clOf_sub _ _ (by intro q; simp at q) e)
  have loop : codeAny (model X.prog X.w) X.A (.compLoop (.ListComp elt [⟨tg, iter, ifs, 0⟩] scope pos) 0 (.ref it) (.ref s2.heap.objs.size) (compEnvC scope (clOf X.env scope.names []) (s2.heap.objs.size + 1) X.env))
      (compPost (model X.prog X.w) X.A X.xe none (EP X pins σ Q) (.ref s2.heap.objs.size) (s2.heap.objs.size + 1)) { s2 with heap := h₁, toks := s2.toks + ([] : List (Str × Value)).length } := by
    refine lc_loop (fun n s' => ∃ i H', Inv Y [] (pick ix σ ++ List.replicate (N.length - ix.length) none) H' s' ∧ tn i s'.heap ∧ (∀ b ∈ fp, H' b = none) ∧ W i n H') ?_ m0
      ⟨0, _, IY, T.keep _ _ _ st2 (fun b hb o e => old b o e), fun b hb => by obtain ⟨o, e⟩ := fob b hb; rw [upd_ne (Nat.ne_of_lt (Heap.lt_size e))]; exact (f2 b hb).1, w0⟩
    rintro n s3 ⟨i, H3, I3, st3, fr3, w3⟩
    rcases turn i n H3 w3 with ⟨stop, qn⟩ | ⟨go, NN, hNN, step⟩
    · have d := T.done Y hP hw hK hcl i [] s3 _ H3 Y.xe I3 (stat fr3) st3 stop
      subst hY
      refine thn d fun r s4 ⟨hr, I4⟩ => ?_
      subst hr
      exact fin I4 qn
    · have d := T.item Y hP hw hK hcl i [] s3 _ H3 Y.xe I3 (stat fr3) st3 go
      have again : ∀ {p5 : List (Addr × Obj)} {s5 s8 : Shared} {σ6 : St} {H8 : Hp}, p5 = pinsAt fp s5.heap → tn (i + 1) s5.heap → σ6.length = (pick ix σ ++ List.replicate (N.length - ix.length) none).length → (∀ j, j < ix.length → σ6[j]? = (pick ix σ ++ List.replicate (N.length - ix.length) none)[j]?) → Inv Y ([] ++ p5) σ6 H8 s8 → NN H8 →
          ∃ m', m' < n ∧ ∃ i H', Inv Y [] (pick ix σ ++ List.replicate (N.length - ix.length) none) H' s8 ∧ tn i s8.heap ∧ (∀ b ∈ fp, H' b = none) ∧ W i m' H' := fun {p5 s5 s8 σ6 H8} e5 st5 l6 k6 I8 q8 => by
        subst e5
        obtain ⟨m', hm, w8⟩ := hNN _ q8
        refine ⟨m', hm, i + 1, H8, I8.unpinned.weak l6.symm (fun j v e => ?_), T.keep _ _ _ st5 fun b hb o e => (I8.pin (b, o) (List.mem_append_right _ (List.mem_append_right _ (mem_pinsAt hb e)))).1, fun b hb => ?_, w8⟩
        · by_cases hj : j < ix.length
          · rw [k6 j hj]; exact e
          · rw [List.getElem?_append_right (by simpa [pick] using hj), List.getElem?_replicate] at e
            split at e <;> cases e
        · obtain ⟨o, e, _⟩ := T.obj _ _ st5 b hb
          exact (I8.pin (b, o) (List.mem_append_right _ (List.mem_append_right _ (mem_pinsAt hb e)))).2.1
      have tail : ∀ (r : Option Value) (s4 : Shared), (∃ u, r = some u ∧ wpAny (model Y.prog Y.w) Y.A (letOwnedTupleGo tg (.ref it) u) (fun _ s2 => ∃ x H', Inv Y [] (pick ix σ ++ List.replicate (N.length - ix.length) none) H' s2 ∧ RelV x u ∧ J.yld i H3 x H' ∧ tn (i + 1) s2.heap ∧ ∀ b ∈ fp, H' b = none) Y.xe s4) →
          (match r with
          | none => compPost (model X.prog X.w) X.A X.xe none (EP X pins σ Q) (.ref s2.heap.objs.size) (s2.heap.objs.size + 1) (.ok .next) s4
          | some v => wpAny (model Y.prog Y.w) Y.A (letOwnedTupleGo tg (.ref it) v) (fun _ s₁ => wpAny (model Y.prog Y.w) Y.A (assign tg Y.env v) (fun _ s₂ =>
              wpAny (model Y.prog Y.w) Y.A (forIn ifs true fun c r => if r = true then do let ok ← isTrue c Y.env (eval c Y.env); pure (ForInStep.yield ok) else pure (ForInStep.yield r)) (fun ok s₃ =>
                if ok = true then wpAny (model Y.prog Y.w) Y.A (eval elt Y.env) (fun x s₄ =>
                  wpAny (model Y.prog Y.w) Y.A (call (.builtin "list.append") [.ref s2.heap.objs.size, x]) (fun _ s₅ => ∃ m, m < n ∧ ∃ i H', Inv Y [] (pick ix σ ++ List.replicate (N.length - ix.length) none) H' s₅ ∧ tn i s₅.heap ∧ (∀ b ∈ fp, H' b = none) ∧ W i m H') Y.xe s₄) Y.xe s₃
                else ∃ m, m < n ∧ ∃ i H', Inv Y [] (pick ix σ ++ List.replicate (N.length - ix.length) none) H' s₃ ∧ tn i s₃.heap ∧ (∀ b ∈ fp, H' b = none) ∧ W i m H') Y.xe s₂) Y.xe s₁) Y.xe s4) := by
        rintro r s4 ⟨u, rfl, h4⟩
        dsimp only
        refine thn h4 fun _ s5 ⟨x, H5, I5, r5, y5, st5, fr5⟩ => ?_
        have I5' := I5.pinned (stat fr5) (T.obj _ _ st5)
        refine thn (hgY _ s5 _ H5 x u _ I5' r5 (hown _ _ _ _ (step x H5 y5))) fun _ s6 ⟨σ6, H6, I6, q6, l6, k6⟩ => ?_
        refine thn (hifY _ s6 σ6 H6 _ I6 q6) fun b s7 ⟨H7, I7, q7⟩ => ?_
        cases b with
        | false =>
          rw [if_neg (by decide)] at q7 ⊢
          exact again rfl st5 l6 k6 I7 q7
        | true =>
          rw [if_pos rfl] at q7 ⊢
          refine thn (heY _ s7 σ6 H7 _ I7 q7) fun y s8 ⟨v, H8, I8, r8, vs, e8, hz, q8⟩ => ?_
          refine thn (mt_append (X := Y) _ s8 σ6 H8 (.ref s2.heap.objs.size) [v] (.ref s2.heap.objs.size) [y] (fun _ H9 => NN H9) I8 rfl (.cons r8 .nil) ⟨s2.heap.objs.size, vs, v, rfl, rfl, e8, hz, q8⟩) fun _ s9 ⟨_, H9, I9, _, q9⟩ => ?_
          exact again rfl st5 l6 k6 I9 q9
      subst hY
      exact thn d tail
  exact codeAny_compStart_list loop (T.self X.A 0 _ _ _ (T.keep _ _ _ st2 fun b hb o e => old b o e) loop)
def blkOk (XN : List Str) (kd : Str → Option NameKind) (sc : Scope) (N : List Str) (ix : List Nat) : Bool :=
  decide (sc.kind = .function) && sc.names.all (fun y => decide (y.2 ≠ .cell) && (decide (y.2 ≠ .free) || decide (kd y.1 = some .cell)) && (decide (y.2 ≠ .local) || decide (sc.names.lookup y.1 = some .local))) && capOk XN kd sc.names N ix && decide (ix.length ≤ N.length)
theorem pe_comp {X : Cx} {elt iter tg : Expr} {ifs : List Expr} {scope : Scope} {pos : Pos} {wi : TI} {g : TG} {tc : TT} {te : TE} (N : List Str) (ix : List Nat) (hcalm : X.calm = true) (hi : PI X tg iter wi)
    (hg : ∀ C fp s H xe, PG (cxBlk X N scope C fp s H xe) tg g) (hif : ∀ C fp s H xe, PIf (cxBlk X N scope C fp s H xe) ifs tc) (he : ∀ C fp s H xe, PE (cxBlk X N scope C fp s H xe) elt te)
    (ok : blkOk X.N X.env.kindOf scope N ix = true) (hown : Own g ix.length) (hs : ∀ x, foldedSetIterable iter X.env x = pure x := by intro _; rfl) :
    PE X (.ListComp elt [⟨tg, iter, ifs, 0⟩] scope pos) (tLC wi g tc te ix (N.length - ix.length)) := by
  unfold blkOk at ok
  rw [Bool.and_eq_true, Bool.and_eq_true, Bool.and_eq_true, List.all_eq_true] at ok
  obtain ⟨⟨⟨h1, h2⟩, h3⟩, h4⟩ := ok
  have h2' : ∀ y ∈ scope.names, y.2 ≠ .cell ∧ (y.2 ≠ .free ∨ X.env.kindOf y.1 = some .cell) ∧ (y.2 ≠ .local ∨ scope.names.lookup y.1 = some .local) := fun y hy => by
    have q := h2 y hy
    rw [Bool.and_eq_true, Bool.and_eq_true, Bool.or_eq_true, Bool.or_eq_true, decide_eq_true_eq, decide_eq_true_eq, decide_eq_true_eq, decide_eq_true_eq, decide_eq_true_eq] at q
    exact ⟨q.1.1, q.1.2, q.2⟩
  exact pe_lc N ix hcalm hi hg hif he (of_decide_eq_true h1) (fun y hy => (h2' y hy).1) (fun y hy e => (h2' y hy).2.1.resolve_left (fun z => z e)) h3 (of_decide_eq_true h4) (fun y hy e => (h2' y hy).2.2.resolve_left (fun z => z e)) hown hs
theorem lc_range {lo : Int} {n : Nat} {D : Addr} {H2 : Hp} {g : TG} {tc : TT} {te : TE} {σ0 : St} {Q : VK} (Pv : Nat → Hp → Prop) (h0 : Pv 0 H2)
    (hs : ∀ (i : Nat) H, i < n → Pv i H → g (.int (lo + i)) σ0 H fun σ5 H5 => tc σ5 H5 fun b H6 => if b = true then te σ5 H6 (fun v H7 => ∃ vs, H7 D = some (.lst vs) ∧ vs.length < sizeLine ∧ Pv (i + 1) (upd H7 D (.lst (vs ++ [v])))) else Pv (i + 1) H6) (hd : ∀ H, Pv n H → Q (.ref D) H) :
    ∃ W : Nat → Nat → Hp → Prop, (∃ m, W 0 m H2) ∧ ∀ i m H3, W i m H3 → ((Itr lo n).stop i H3 ∧ Q (.ref D) H3) ∨
      ((Itr lo n).go i H3 ∧ ∃ N : Hp → Prop, (∀ H', N H' → ∃ m', m' < m ∧ W (i + 1) m' H') ∧ ∀ x H4, (Itr lo n).yld i H3 x H4 → g x σ0 H4 fun σ5 H5 => tc σ5 H5 fun b H6 =>
        if b = true then te σ5 H6 (fun v H7 => ∃ vs, H7 D = some (.lst vs) ∧ vs.length < sizeLine ∧ N (upd H7 D (.lst (vs ++ [v])))) else N H6) := by
  refine ⟨fun i m H => m = n - i ∧ i ≤ n ∧ Pv i H, ⟨n, by simp, Nat.zero_le _, h0⟩, ?_⟩
  rintro i m H ⟨rfl, hi, p⟩
  by_cases hlt : i < n
  · refine .inr ⟨hlt, Pv (i + 1), fun H' z => ⟨n - (i + 1), by omega, rfl, by omega, z⟩, ?_⟩
    rintro x H4 ⟨rfl, rfl⟩
    exact hs i _ hlt p
  · obtain rfl : i = n := by omega
    exact .inl ⟨Nat.le_refl _, hd _ p⟩
theorem lc_list {K : PySem.W.Frag} {a : Addr} {xs : List V} {D : Addr} {H2 : Hp} {g : TG} {tc : TT} {te : TE} {σ0 : St} {Q : VK} (Pv : Nat → Hp → Prop) (h0 : Pv 0 H2) (hl : ∀ i H, Pv i H → SqL K H a xs)
    (hs : ∀ (i : Nat) x H, xs[i]? = some x → Pv i H → g x σ0 H fun σ5 H5 => tc σ5 H5 fun b H6 => if b = true then te σ5 H6 (fun v H7 => ∃ vs, H7 D = some (.lst vs) ∧ vs.length < sizeLine ∧ Pv (i + 1) (upd H7 D (.lst (vs ++ [v])))) else Pv (i + 1) H6) (hd : ∀ H, Pv xs.length H → Q (.ref D) H) :
    ∃ W : Nat → Nat → Hp → Prop, (∃ m, W 0 m H2) ∧ ∀ i m H3, W i m H3 → ((Itl K a).stop i H3 ∧ Q (.ref D) H3) ∨
      ((Itl K a).go i H3 ∧ ∃ N : Hp → Prop, (∀ H', N H' → ∃ m', m' < m ∧ W (i + 1) m' H') ∧ ∀ x H4, (Itl K a).yld i H3 x H4 → g x σ0 H4 fun σ5 H5 => tc σ5 H5 fun b H6 =>
        if b = true then te σ5 H6 (fun v H7 => ∃ vs, H7 D = some (.lst vs) ∧ vs.length < sizeLine ∧ N (upd H7 D (.lst (vs ++ [v])))) else N H6) := by
  refine ⟨fun i m H => m = xs.length - i ∧ i ≤ xs.length ∧ Pv i H, ⟨xs.length, by simp, Nat.zero_le _, h0⟩, ?_⟩
  rintro i m H ⟨rfl, hi, p⟩
  have hq := hl i H p
  by_cases hlt : i < xs.length
  · have e1 : xs[i]? = some xs[i] := List.getElem?_eq_getElem hlt
    refine .inr ⟨⟨xs, _, hq, e1⟩, Pv (i + 1), fun H' z => ⟨xs.length - (i + 1), by omega, rfl, by omega, z⟩, ?_⟩
    rintro x H4 ⟨rfl, hx⟩
    exact hs i x _ (hx xs hq) p
  · obtain rfl : i = xs.length := by omega
    exact .inl ⟨⟨xs, hq, Nat.le_refl _⟩, hd _ p⟩
theorem lc_rangeN {lo : Int} {n k : Nat} {D : Addr} {H2 : Hp} {te : TE} {σ0 : St} {Q : VK} (Pv : Nat → Hp → Prop) (h0 : Pv 0 H2)
    (hs : ∀ (i : Nat) H, i < n → Pv i H → te (σ0.set k (some (.int (lo + i)))) H (fun v H7 => ∃ vs, H7 D = some (.lst vs) ∧ vs.length < sizeLine ∧ Pv (i + 1) (upd H7 D (.lst (vs ++ [v]))))) (hd : ∀ H, Pv n H → Q (.ref D) H) :
    ∃ W : Nat → Nat → Hp → Prop, (∃ m, W 0 m H2) ∧ ∀ i m H3, W i m H3 → ((Itr lo n).stop i H3 ∧ Q (.ref D) H3) ∨
      ((Itr lo n).go i H3 ∧ ∃ N : Hp → Prop, (∀ H', N H' → ∃ m', m' < m ∧ W (i + 1) m' H') ∧ ∀ x H4, (Itr lo n).yld i H3 x H4 → gName k x σ0 H4 fun σ5 H5 => tNoIf σ5 H5 fun b H6 =>
        if b = true then te σ5 H6 (fun v H7 => ∃ vs, H7 D = some (.lst vs) ∧ vs.length < sizeLine ∧ N (upd H7 D (.lst (vs ++ [v])))) else N H6) :=
  lc_range (g := gName k) (tc := tNoIf) Pv h0 (fun i H hi p => tNoIf_at (σ := σ0.set k (some (.int (lo + i)))) (A := fun H6 => te (σ0.set k (some (.int (lo + i)))) H6 _) (B := fun H6 => Pv (i + 1) H6) (hs i H hi p)) hd
theorem lc_listN {K : PySem.W.Frag} {a : Addr} {xs : List V} {k : Nat} {D : Addr} {H2 : Hp} {te : TE} {σ0 : St} {Q : VK} (Pv : Nat → Hp → Prop) (h0 : Pv 0 H2) (hl : ∀ i H, Pv i H → SqL K H a xs)
    (hs : ∀ (i : Nat) x H, xs[i]? = some x → Pv i H → te (σ0.set k (some x)) H (fun v H7 => ∃ vs, H7 D = some (.lst vs) ∧ vs.length < sizeLine ∧ Pv (i + 1) (upd H7 D (.lst (vs ++ [v]))))) (hd : ∀ H, Pv xs.length H → Q (.ref D) H) :
    ∃ W : Nat → Nat → Hp → Prop, (∃ m, W 0 m H2) ∧ ∀ i m H3, W i m H3 → ((Itl K a).stop i H3 ∧ Q (.ref D) H3) ∨
      ((Itl K a).go i H3 ∧ ∃ N : Hp → Prop, (∀ H', N H' → ∃ m', m' < m ∧ W (i + 1) m' H') ∧ ∀ x H4, (Itl K a).yld i H3 x H4 → gName k x σ0 H4 fun σ5 H5 => tNoIf σ5 H5 fun b H6 =>
        if b = true then te σ5 H6 (fun v H7 => ∃ vs, H7 D = some (.lst vs) ∧ vs.length < sizeLine ∧ N (upd H7 D (.lst (vs ++ [v])))) else N H6) :=
  lc_list (g := gName k) (tc := tNoIf) Pv h0 hl (fun i x H hx p => tNoIf_at (σ := σ0.set k (some x)) (A := fun H6 => te (σ0.set k (some x)) H6 _) (B := fun H6 => Pv (i + 1) H6) (hs i x H hx p)) hd
end L2

namespace L2
open PySem PySem.Spec PyProof.Rows
def rEmp (K : PySem.W.Frag) : R2 := fun x y H Q => ∃ p xs e, x = .ref p ∧ y = .ref e ∧ SqL K H p xs ∧ SqL K H e [] ∧ Q (.bl (decide (xs = []))) H
theorem op_eqN {X : Cx} (hu : X.A.units + 64 < cLine) : OpR X (compareOp .Eq) (rEmp X.K) := by
  intro pins s σ H x y v u Q I rx ry ⟨p, xs, e, ex, ey, hp, he, q⟩
  subst ex ey
  cases rx
  cases ry
  obtain ⟨i1, r1, p1, _⟩ := I.list hp
  obtain ⟨i2, r2, p2, _⟩ := I.list he
  have l1 := r1.length
  have l2 := r2.length
  cases xs with
  | nil => exact SeqAt.eq_listAt (e := fun _ => true) p1.isList p2.isList (by simp at l1 l2 ⊢; omega) (by omega) (fun j h1 h2 => by simp at l1 h1; omega) ⟨.bl true, H, I, by rw [all_true]; rfl, q⟩
  | cons z zs => exact SeqAt.eq_list_lengthsAt p1.isList p2.isList (by simp at l1 l2 ⊢; omega) (by omega) ⟨.bl false, H, I, rfl, q⟩
end L2

namespace L2
open PySem PySem.Spec PyProof.Rows
section
variable {prog : Program} {w : World} {K : Type} [DecidableEq K] {knd : KeyKind prog w K} {A : Around} {E : Value → Shared → Prop} {s : Shared}
end
section
variable {X : Cx} {pins : List (Addr × Obj)} {σ : St} {H : Hp} {s : Shared} {a : Addr} {A : Around} {E : Value → Shared → Prop}
end
section
variable {X : Cx} {o e f : Expr} {apos cpos : Pos} {td ty tx : TE}
end
section
variable {K : PySem.W.Frag}
theorem for_zip {l1 l2 : Addr} {xs ys : List V} {g : TG} {tb : TS} {D : Ends} {σ : St} {H : Hp} (Pv : Nat → St → Hp → Prop) (h0 : Pv 0 σ H) (hl : ∀ i σ H, Pv i σ H → SqL K H l1 xs ∧ SqL K H l2 ys) (he : xs.length = ys.length)
    (hs : ∀ i σ H x y T, xs[i]? = some x → ys[i]? = some y → Pv i σ H → H T = none → g (.ref T) σ (upd H T (.tup [x, y])) fun σ2 H2 => tb { D with nx := Pv (i + 1), ct := Pv (i + 1), bk := D.nx } σ2 H2) (hd : ∀ σ H, Pv xs.length σ H → D.nx σ H) :
    ∃ W : Nat → Nat → St → Hp → Prop, (∃ m, W 0 m σ H) ∧ ∀ i m σ H, W i m σ H →
      ((Itz K l1 l2).stop i H ∧ D.nx σ H) ∨ ((Itz K l1 l2).go i H ∧ ∃ N : St → Hp → Prop, (∀ σ' H', N σ' H' → ∃ m', m' < m ∧ W (i + 1) m' σ' H') ∧ ∀ x H', (Itz K l1 l2).yld i H x H' → g x σ H' fun σ2 H2 => tb { D with nx := N, ct := N, bk := D.nx } σ2 H2) := by
  refine ⟨fun i m σ H => m = xs.length - i ∧ i ≤ xs.length ∧ Pv i σ H, ⟨xs.length, by simp, Nat.zero_le _, h0⟩, ?_⟩
  rintro i m σ H ⟨rfl, hi, p⟩
  obtain ⟨q1, q2⟩ := hl i σ H p
  by_cases hlt : i < xs.length
  · right
    have e1 : xs[i]? = some xs[i] := List.getElem?_eq_getElem hlt
    have e2 : ys[i]? = some (ys[i]'(by omega)) := List.getElem?_eq_getElem (by omega)
    refine ⟨⟨xs, ys, _, _, q1, q2, e1, e2⟩, Pv (i + 1), fun σ' H' z => ⟨xs.length - (i + 1), by omega, rfl, by omega, z⟩, ?_⟩
    rintro v H' ⟨T, x, y, rfl, nT, rfl, z1, z2⟩
    exact hs i σ H x y T (z1 _ q1) (z2 _ q2) p nT
  · left
    obtain rfl : i = xs.length := by omega
    exact ⟨⟨xs, ys, q1, q2, .inl (Nat.le_refl _)⟩, hd σ H p⟩
end
end L2

namespace L2
open PySem PySem.Spec PyProof.Rows
section
variable {X : Cx}
end
end L2

namespace L2
open PySem PySem.Spec PyProof.Rows
section
variable {X : Cx}
end
end L2

namespace L2
open PySem PySem.Spec PyProof.Rows
structure Mk0 (K : PySem.W.Frag) (C : Addr) : Prop where
  makes : PySem.W.makesIn K C = true
  init : PySem.W.findIn K (.ref C) "__init__" = some (some (.builtin "object.__init__"))
  kp : PySem.W.keepIn K (.ref C) = true
section
variable {X : Cx} {C : Addr} {x : Str} {p pos : Pos}
def tMk0 (C : Addr) : TE := fun σ H Q => ∀ x dx, H x = none → H dx = none → dx ≠ x → Q (.ref x) (upd (upd H dx (.own x)) x (.ins C dx []))
theorem run_bare {pins : List (Addr × Obj)} {σ : St} {H : Hp} {s : Shared} {Q : VK} (M : Mk0 X.K C) (I : Inv X pins σ H s) (h : tMk0 C σ H Q) : wpAny (model X.prog X.w) X.A (call (.ref C) []) (EP X pins σ Q) X.xe s := by
  have hq := h (s.heap.objs.size + 1) s.heap.objs.size (I.hok.fresh (Nat.le_succ _)) (I.hok.fresh (Nat.le_refl _)) (Nat.ne_of_lt (Nat.lt_succ_self _))
  have I2 := Inv.made (C := C) I
  have kin := I.kIn
  obtain ⟨hp, g, d, t, os⟩ := s
  have Y := PySem.W.makes_of (M := model X.prog X.w) kin M.makes
  have hx : ((hp.push PySem.W.emptyDict).push (PySem.W.instObj C hp.objs.size)).get? (hp.objs.size + 1) = some (PySem.W.instObj C hp.objs.size) := by
    have := Heap.get?_push_size (hp.push PySem.W.emptyDict) (o := PySem.W.instObj C hp.objs.size) rfl
    rwa [Heap.size_push] at this
  have ty : PySem.W.Looks (model X.prog X.w) ((hp.push PySem.W.emptyDict).push (PySem.W.instObj C hp.objs.size)) (typeOf (.ref (hp.objs.size + 1))) (.ref C) := (PySem.W.Looks.ld hx).andThen .now
  have top : PySem.W.Looks (model X.prog X.w) ((hp.push PySem.W.emptyDict).push (PySem.W.instObj C hp.objs.size)) (isInstance (.ref (hp.objs.size + 1)) (.type "object")) true := ty.andThen (Y.top.keeps fun b o e => Heap.get?_push_of_some _ (Heap.get?_push_of_some _ e))
  refine wpAny_call (PySem.W.make_core Y (PySem.W.looks_findIn kin M.init) (fun self => PySem.W.Looks.of_pure (PySem.W.oi_bind self)) (.inr ⟨rfl, rfl⟩) ?_)
  refine codeAny_call_builtin PySem.W.oi_plain PySem.W.entry_oi (@PySem.W.check_slot (model X.prog X.w) _ _ _ "object.__init__" "object" "__init__" (.ref (hp.objs.size + 1)) [] [] _ PySem.W.oi_kind PySem.W.oi_split top (PySem.W.oi_args (.ref (hp.objs.size + 1))) ?_)
  rw [PySem.W.oi_run]
  exact wpAny_pure ⟨rfl, ⟨.ref (hp.objs.size + 1), _, I2, rfl, hq⟩⟩
theorem pe_mk0 (M : Mk0 X.K C) (hg : Gl X x) (hm : X.mg x = some (.ref C)) (hdb : (x == ("__debug__" : Str)) = false := by decide) : PE X (.Call (.Name x p) [] [] pos) (tMk0 C) := by
  intro pins s σ H Q I h
  exact wpAny_Call_Name_kw (ld_glob I hg hm (PySem.W.callWith_K0 I.kIn M.kp (run_bare M I h)) hdb)
theorem pe_alt {e : Expr} {t1 t2 : TE} (h1 : PE X e t1) (h2 : PE X e t2) : PE X e (fun σ H Q => t1 σ H Q ∨ t2 σ H Q) := fun pins s σ H Q I h => h.elim (h1 pins s σ H Q I) (h2 pins s σ H Q I)
end
end L2

namespace L2
open PySem PySem.Spec PyProof.Rows
section
variable {X : Cx}
theorem vals_int {ns : List Int} {us : List Value} (r : Vals (ns.map V.int) us) {j : Nat} (h : j < us.length) : ∃ t, us[j] = .int (ns.getD j 0) t := by
  obtain ⟨x, e, q⟩ := r.atN h
  rw [List.getElem?_map] at e
  cases z : ns[j]? with
  | none => rw [z] at e; cases e
  | some i =>
    rw [z] at e
    obtain rfl : V.int i = x := Option.some.inj e
    obtain ⟨t, q⟩ := q
    refine ⟨t, ?_⟩
    rw [List.getD_eq_getElem?_getD, z]
    exact q
theorem all_getD {ns ms : List Int} (h : ns.length = ms.length) : (List.range ns.length).all (fun j => ns.getD j 0 == ms.getD j 0) = decide (ns = ms) := by
  rw [Bool.eq_iff_iff, List.all_eq_true, decide_eq_true_eq]
  constructor
  · intro z
    refine List.ext_getElem h fun j h1 h2 => ?_
    have := z j (List.mem_range.mpr h1)
    rw [beq_iff_eq, List.getD_eq_getElem?_getD, List.getD_eq_getElem?_getD, List.getElem?_eq_getElem h1, List.getElem?_eq_getElem h2] at this
    exact this
  · rintro rfl j _
    exact beq_self_eq_true _
def rNeTI (K : PySem.W.Frag) : R2 := fun x y H Q => ∃ (a b : Addr) (ns ms : List Int), x = .ref a ∧ y = .ref b ∧ SqT K H a (ns.map V.int) ∧ SqT K H b (ms.map V.int) ∧ ns.length = ms.length ∧ Q (.bl (!decide (ns = ms))) H
theorem op_neTI (hu : X.A.units + 64 < cLine) : OpR X (compareOp .NotEq) (rNeTI X.K) := by
  intro pins s σ H x y v u Q I rx ry h
  obtain ⟨a, b, ns, ms, rfl, rfl, ha, hb, hl, q⟩ := h
  cases rx
  cases ry
  obtain ⟨i1, r1, p1, _⟩ := I.tuple ha
  obtain ⟨i2, r2, p2, _⟩ := I.tuple hb
  have l1 := r1.length
  have l2 := r2.length
  rw [List.length_map] at l1 l2
  refine SeqAt.RcNeAt.tuples (e := fun j => ns.getD j 0 == ms.getD j 0) (show s.heap.IsTuple a i1.toArray from p1) (show s.heap.IsTuple b i2.toArray from p2) (by omega) (fun j h1 h2 => ?_) _ _ _ _ ⟨.bl _, H, I, ?_, q⟩
  · obtain ⟨t1, e1⟩ := vals_int r1 (j := j) (by simpa using h1)
    obtain ⟨t2, e2⟩ := vals_int r2 (j := j) (by simpa using h2)
    have z := SeqAt.EqAt.int_int (A := X.A.in1) (s := s) (ns.getD j 0) t1 (ms.getD j 0) t2
    rw [← e1, ← e2] at z
    simpa using z
  · rw [show min i1.toArray.size i2.toArray.size = ns.length by simp; omega, all_getD hl, show (i1.toArray.size == i2.toArray.size) = true by simp; omega, Bool.and_true]
    rfl
theorem bits_le {a : Int} {n : Nat} (h : a.natAbs < 2 ^ n) : Builtin.Int.intBits a ≤ n := by
  unfold Builtin.Int.intBits
  split
  · exact Nat.zero_le _
  · rename_i z
    have : a.natAbs ≠ 0 := by
      intro y
      exact z (by rw [beq_iff_eq]; omega)
    have := (Nat.log2_lt this).mpr h
    omega
def CMulW (i j : Int) : Prop := i.natAbs < 2 ^ 1024 ∧ j.natAbs < 2 ^ 1024
theorem op_mulW : OpR X (binaryOp .Mult) (rI CMulW fun i j => .int (i * j)) := opI fun _ _ _ _ _ _ _ hc q => mul_int q (.of_bits (Nat.le_trans (bits_le hc.1) (by decide)) (Nat.le_trans (bits_le hc.2) (by decide)))
end
end L2
namespace W1
open PySem L2
structure Tl where
  b : Int
  lv : Int
  cl : Int
  bo : Int
abbrev Tl.ns (T : Tl) : List Int := [T.b, T.lv, T.cl, T.bo]
def TlAt (H : Hp) (v : V) (T : Tl) : Prop := ∃ a, v = .ref a ∧ H a = some (.tup (T.ns.map V.int))
theorem TlAt.same {H H' : Hp} {v : V} {T : Tl} (s : Same H H') (h : TlAt H v T) : TlAt H' v T := let ⟨a, e, z⟩ := h; ⟨a, e, s _ _ z⟩
abbrev Tls (H : Hp) : List V → List Tl → Prop := Paired (TlAt H)
theorem Tls.same {H H' : Hp} {vs : List V} {ts : List Tl} (s : Same H H') (h : Tls H vs ts) : Tls H' vs ts := Paired.mapP h fun _ _ z => z.same s
theorem Tl.eq_of {A B : Tl} (h : A.ns = B.ns) : A = B := by
  cases A; cases B
  simp [Tl.ns] at h
  simp [h]
structure Tl.Ok (pg nw : Int) (T : Tl) : Prop where
  b0 : 0 ≤ T.b
  b1 : T.b < 16
  l0 : 0 ≤ T.lv
  l1 : T.lv ≤ pg
  c0 : 0 ≤ T.cl
  c1 : T.cl < 10 ^ 30
  o0 : 0 ≤ T.bo
  o1 : T.bo < nw
def unb (f : Tl → Int) (ts : List Tl) (T : Tl) : Bool := ts.all fun o => !decide (f o < f T)
theorem exists_min (f : Tl → Int) : ∀ ts : List Tl, ts ≠ [] → ∃ T ∈ ts, ∀ o ∈ ts, f T ≤ f o
  | [], h => absurd rfl h
  | [T], _ => ⟨T, List.mem_singleton.mpr rfl, fun o ho => by rw [List.mem_singleton.mp ho]; exact Int.le_refl _⟩
  | T :: U :: r, _ => by
    obtain ⟨M, hm, hl⟩ := exists_min f (U :: r) (by simp)
    by_cases h : f T ≤ f M
    · refine ⟨T, List.mem_cons_self .., fun o ho => ?_⟩
      rcases List.mem_cons.mp ho with rfl | ho
      · exact Int.le_refl _
      · have := hl o ho
        omega
    · refine ⟨M, List.mem_cons_of_mem _ hm, fun o ho => ?_⟩
      rcases List.mem_cons.mp ho with rfl | ho
      · omega
      · exact hl o ho
theorem unb_iff {f : Tl → Int} {ts : List Tl} {T : Tl} : unb f ts T = true ↔ ∀ o ∈ ts, f T ≤ f o := by
  unfold unb
  rw [List.all_eq_true]
  constructor
  · intro h o ho
    have := h o ho
    rw [Bool.not_eq_true', decide_eq_false_iff_not] at this
    omega
  · intro h o ho
    have := h o ho
    rw [Bool.not_eq_true', decide_eq_false_iff_not]
    omega
theorem exists_unb (f : Tl → Int) (ts : List Tl) (h : ts ≠ []) : ∃ i, ∃ hi : i < ts.length, unb f ts ts[i] = true ∧ ∀ j, ∀ hj : j < i, unb f ts (ts[j]'(by omega)) = false := by
  obtain ⟨T, hT, hm⟩ := exists_min f ts h
  obtain ⟨k, hk, e⟩ := List.getElem_of_mem hT
  have key : ∀ n, n < ts.length → (∃ z : n < ts.length, unb f ts ts[n] = true) → ∃ i, ∃ hi : i < ts.length, unb f ts ts[i] = true ∧ ∀ j, ∀ hj : j < i, unb f ts (ts[j]'(by omega)) = false := by
    intro n
    induction n using Nat.strongRecOn with
    | ind n ih =>
      intro hn ⟨z, hu⟩
      by_cases g : ∃ j, ∃ hj : j < n, unb f ts (ts[j]'(by omega)) = true
      · obtain ⟨j, hj, u⟩ := g
        exact ih j hj (by omega) ⟨by omega, u⟩
      · refine ⟨n, hn, hu, fun j hj => ?_⟩
        cases u : unb f ts (ts[j]'(by omega)) with
        | false => rfl
        | true => exact absurd ⟨j, hj, u⟩ g
  exact key k hk ⟨hk, unb_iff.mpr (by rw [e]; exact hm)⟩
end W1
namespace W1
open PySem L2
def pk (f : Tl → Int) (ts : List Tl) : Int := ((ts.find? (unb f ts)).map Tl.b).getD 0
theorem pk_eq {f : Tl → Int} {ts : List Tl} {i : Nat} (hi : i < ts.length) (u : unb f ts ts[i] = true) (n : ∀ j, ∀ hj : j < i, unb f ts (ts[j]'(by omega)) = false) : pk f ts = ts[i].b := by
  have e : ts.find? (unb f ts) = some ts[i] := by
    rw [List.find?_eq_some_iff_getElem]
    exact ⟨u, i, hi, rfl, fun j hj => by rw [n j hj]; rfl⟩
  unfold pk
  rw [e]
  rfl
theorem TlAt.updL {H : Hp} {l : Addr} {us us' : List V} {v : V} {T : Tl} (hl : H l = some (.lst us)) (h : TlAt H v T) : TlAt (upd H l (.lst us')) v T := by
  obtain ⟨a, e, z⟩ := h
  refine ⟨a, e, ?_⟩
  rw [upd_ne (fun y => by rw [y, hl] at z; cases z)]
  exact z
theorem TlAt.sq {K : PySem.W.Frag} {H : Hp} {v : V} {T : Tl} (h : TlAt H v T) : ∃ a, v = .ref a ∧ SqT K H a (T.ns.map V.int) := let ⟨a, e, z⟩ := h; ⟨a, e, SqT.of z⟩
theorem atI_last {α : Type} {xs : List α} (h : 0 < xs.length) : atI xs (-1) = xs[xs.length - 1]? := by
  unfold atI ixN
  rw [if_neg (by decide), if_pos (by omega)]
  show xs[((-1 : Int) + (xs.length : Int)).toNat]? = _
  congr 1
  omega
theorem eqv_tls {K : PySem.W.Frag} {H : Hp} {a b : Addr} {us : List V} {ts : List Tl} (ha : SqL K H a us) (hb : SqL K H b us) (h : Tls H us ts) : Eqv K H 6 (.ref a) (.ref b) :=
  .lst ha hb rfl fun j x y hx hy => by
    obtain rfl : x = y := Option.some.inj (hx.symm.trans hy)
    obtain ⟨O, hO, c, rfl, hc⟩ := Paired.at h hx
    refine eqv_flatT (SqT.of hc) (SqT.of hc) fun v hv => ?_
    obtain ⟨n, _, rfl⟩ := List.mem_map.mp hv
    rfl
end W1
namespace L2
open PySem PySem.Spec PyProof.Rows
theorem ix_tupK {X : Cx} {K : PySem.W.Frag} (e : X.K = K) : IxR X (rIxT K) := by
  subst e
  exact ix_tup
theorem ix_listK {X : Cx} {K : PySem.W.Frag} (e : X.K = K) : IxR X (rIxL K) := by
  subst e
  exact ix_list
end L2

namespace L2
open PySem PySem.Spec PyProof.Rows
theorem lc_core {X : Cx} {elt iter tg : Expr} {ifs : List Expr} {scope : Scope} {pos cp : Pos} {wi : TI} {g : TG} {tc : TT} {te : TE} {use : Option (Value → Sem Unit)} {QQ : Value → Shared → Prop} {pins : List (Addr × Obj)} {s : Shared} {σ : St} {H : Hp} {Q : VK} (N : List Str) (ix : List Nat) (hcalm : X.calm = true) (hi : PI X tg iter wi)
    (hg : ∀ C fp s H xe, PG (cxBlk X N scope C fp s H xe) tg g) (hif : ∀ C fp s H xe, PIf (cxBlk X N scope C fp s H xe) ifs tc) (he : ∀ C fp s H xe, PE (cxBlk X N scope C fp s H xe) elt te)
    (hk : scope.kind = .function) (hc : ∀ y ∈ scope.names, y.2 ≠ .cell) (hfr : ∀ y ∈ scope.names, y.2 = .free → X.env.kindOf y.1 = some .cell) (hcap : capOk X.N X.env.kindOf scope.names N ix = true) (hN : ix.length ≤ N.length)
    (hnames : ∀ x ∈ scope.names, x.2 = .local → scope.names.lookup x.1 = some .local) (hown : Own g ix.length) (I : Inv X pins σ H s) (h : tLC wi g tc te ix (N.length - ix.length) σ H Q)
    (hfin : ∀ (C D : Addr) (H' : Hp) (s' : Shared) (m : Str → Option Value), s'.heap.Ns C m → FpOk X pins H' C → (∀ h', Heap.SameBut C s'.heap h' → Inv X pins σ H' { s' with heap := h' }) → Q (.ref D) H' → compPost (model X.prog X.w) X.A X.xe use QQ (.ref D) C (.ok .next) s')
    (hs : ∀ x, foldedSetIterable iter X.env x = pure x := by intro _; rfl) :
    wpAny (model X.prog X.w) X.A (comprehension (.ListComp elt [⟨tg, iter, ifs, 0⟩] scope pos) scope X.env cp (newList []) false (eval iter X.env) use) QQ X.xe s := by
  refine wpAny_comprehension_free (use := use) (cl := clOf X.env scope.names []) rfl hs (closure_of fun y hy hyf => I.ok.has _ (.inl (hfr y hy hyf))) hk hnames (thn (hi pins s σ H _ I h) fun v s1 h1 => thn h1 fun itv s2 h2 => ?_)
  obtain ⟨it, fp, tn, J, H2, e, I2, T, st2, f2, q2⟩ := h2
  subst e
  refine wpAny_newObj_type (wpAny_newFunctionEnv hc (by intro y hy; simp at hy) (fun h₁ hns₁ hsb₁ => ?_) hk)
  dsimp only at hns₁ hsb₁ ⊢
  rw [Heap.size_push] at hns₁ hsb₁ ⊢
  have old : ∀ b o, s2.heap.get? b = some o → h₁.get? b = some o := fun b o e => hsb₁.extBut b o (Nat.ne_of_lt (Nat.lt_succ_of_lt (Heap.lt_size e))) (Heap.get?_push_of_some _ (Heap.get?_push_of_some _ e))
  have hacc : h₁.get? s2.heap.objs.size = some { cls := .type "list", data := .seq ([] : List Value).toArray } := hsb₁.extBut _ _ (Nat.ne_of_lt (Nat.lt_succ_self _)) (Heap.get?_push_of_some _ (Heap.get?_push_size _ rfl))
  have fob : ∀ b ∈ fp, ∃ o, s2.heap.get? b = some o := fun b hb => let ⟨o, e, _⟩ := T.obj _ _ st2 b hb; ⟨o, e⟩
  have fresh : H2 s2.heap.objs.size = none := I2.hok.fresh (Nat.le_refl _)
  obtain ⟨W, ⟨m0, w0⟩, turn⟩ := q2 s2.heap.objs.size (upd H2 s2.heap.objs.size (.lst [])) fresh (Same.upd fresh) upd_same
  have fin : ∀ {pY σ' H' s'}, Inv (cxBlk X N scope (s2.heap.objs.size + 1) fp s2 H2 (notedBy (model X.prog X.w) X.A (compEnvC scope (clOf X.env scope.names []) (s2.heap.objs.size + 1) X.env) fun e s' => compPost (model X.prog X.w) X.A X.xe use QQ (.ref s2.heap.objs.size) (s2.heap.objs.size + 1) (.error e) s')) pY σ' H' s' → Q (.ref s2.heap.objs.size) H' →
      compPost (model X.prog X.w) X.A X.xe use QQ (.ref s2.heap.objs.size) (s2.heap.objs.size + 1) (.ok .next) s' := fun {pY σ' H' s'} J q => by
    obtain ⟨m, hm, _⟩ := id J.loc
    refine hfin (s2.heap.objs.size + 1) s2.heap.objs.size H' s' m hm (I2.fpOk (Nat.le_succ _) J.free) (fun h' sb => ?_) q
    have eb : ∀ b o, b ≠ s2.heap.objs.size + 1 → s'.heap.get? b = some o → h'.get? b = some o := fun b o nb e => sb.extBut b o nb e
    have low : ∀ b o, s2.heap.get? b = some o → b ≠ s2.heap.objs.size + 1 := fun b o e => Nat.ne_of_lt (Nat.lt_succ_of_lt (Heap.lt_size e))
    have u := J.base
    have nC : H' (s2.heap.objs.size + 1) = none := J.free
    refine I2.call' (ch := fp) (s' := { s' with heap := h' }) J.os ⟨fun b o e n1 n2 n3 => eb b o (low b o e) (u.keep b o e n1 n2 n3), fun b o e n1 n2 n3 => ?_, u.free, fun b o e n1 => ?_, u.tups, u.frzs, u.tbls⟩ (fun b o e => ?_) J.bare fun b hb => ⟨(f2 b hb).2.2.2.1, (f2 b hb).2.1, (f2 b hb).2.2.2.2.1, (f2 b hb).2.2.2.2.2⟩
    · obtain ⟨sl, q1⟩ := u.slot b o e n1 n2 n3
      exact ⟨sl, eb b _ (low b o e) q1⟩
    · obtain ⟨o', q1⟩ := u.there b o e n1
      exact ⟨o', eb b _ (low b o e) q1⟩
    · refine (J.hok b o e).stay (fun c v hc q1 => eb c v ?_ q1) (fun _ q1 => q1) fun _ _ q1 => q1
      rcases hc with rfl | z
      · exact ne_of_none e nC
      · exact ne_of_none z nC
  have IY : Inv (cxBlk X N scope (s2.heap.objs.size + 1) fp s2 H2 (notedBy (model X.prog X.w) X.A (compEnvC scope (clOf X.env scope.names []) (s2.heap.objs.size + 1) X.env) fun e s' => compPost (model X.prog X.w) X.A X.xe use QQ (.ref s2.heap.objs.size) (s2.heap.objs.size + 1) (.error e) s')) [] (pick ix σ ++ List.replicate (N.length - ix.length) none) (upd H2 s2.heap.objs.size (.lst [])) { s2 with heap := h₁, toks := s2.toks + ([] : List (Str × Value)).length } :=
    inv_blk I2 f2 fob hk hc hfr hcap hN hns₁ old hacc
  generalize hY : cxBlk X N scope (s2.heap.objs.size + 1) fp s2 H2 (notedBy (model X.prog X.w) X.A (compEnvC scope (clOf X.env scope.names []) (s2.heap.objs.size + 1) X.env) fun e s' => compPost (model X.prog X.w) X.A X.xe use QQ (.ref s2.heap.objs.size) (s2.heap.objs.size + 1) (.error e) s') = Y at IY fin
  have hgY : PG Y tg g := hY ▸ hg _ _ _ _ _
  have hifY : PIf Y ifs tc := hY ▸ hif _ _ _ _ _
  have heY : PE Y elt te := hY ▸ he _ _ _ _ _
  have hP : Y.prog = X.prog := by rw [← hY]
  have hw : Y.w = X.w := by rw [← hY]
  have hK : Y.K = X.K := by rw [← hY]
  have hcl : Y.calm = true := by rw [← hY]; exact hcalm
  have stat : ∀ {H' : Hp}, (∀ b ∈ fp, H' b = none) → ∀ b ∈ fp, FpOk Y [] H' b := fun {H'} hn b hb => by
    rw [← hY]
    refine ⟨hn b hb, ?_, fun z => ?_, .inl hb, fun x c e => ?_, fun p hp => absurd (show p ∈ ([] : List (Addr × Obj)) from hp) (by simp)⟩
    · obtain ⟨o, e⟩ := fob b hb
      exact Nat.ne_of_lt (Nat.lt_succ_of_lt (Heap.lt_size e))
    · rcases List.mem_cons.mp (I2.stkSub b z) with z | z
      · exact (f2 b hb).2.1 z
      · exact (f2 b hb).2.2.1 z
    · exact (f2 b hb).2.2.2.2.1 x c (clOf_sub _ _ (by intro q; simp at q) e)
  have loop : codeAny (model X.prog X.w) X.A (.compLoop (.ListComp elt [⟨tg, iter, ifs, 0⟩] scope pos) 0 (.ref it) (.ref s2.heap.objs.size) (compEnvC scope (clOf X.env scope.names []) (s2.heap.objs.size + 1) X.env))
      (compPost (model X.prog X.w) X.A X.xe use QQ (.ref s2.heap.objs.size) (s2.heap.objs.size + 1)) { s2 with heap := h₁, toks := s2.toks + ([] : List (Str × Value)).length } := by
    refine lc_loop (fun n s' => ∃ i H', Inv Y [] (pick ix σ ++ List.replicate (N.length - ix.length) none) H' s' ∧ tn i s'.heap ∧ (∀ b ∈ fp, H' b = none) ∧ W i n H') ?_ m0
      ⟨0, _, IY, T.keep _ _ _ st2 (fun b hb o e => old b o e), fun b hb => by obtain ⟨o, e⟩ := fob b hb; rw [upd_ne (Nat.ne_of_lt (Heap.lt_size e))]; exact (f2 b hb).1, w0⟩
    rintro n s3 ⟨i, H3, I3, st3, fr3, w3⟩
    rcases turn i n H3 w3 with ⟨stop, qn⟩ | ⟨go, NN, hNN, step⟩
    · have d := T.done Y hP hw hK hcl i [] s3 _ H3 Y.xe I3 (stat fr3) st3 stop
      subst hY
      refine thn d fun r s4 ⟨hr, I4⟩ => ?_
      subst hr
      exact fin I4 qn
    · have d := T.item Y hP hw hK hcl i [] s3 _ H3 Y.xe I3 (stat fr3) st3 go
      have again : ∀ {p5 : List (Addr × Obj)} {s5 s8 : Shared} {σ6 : St} {H8 : Hp}, p5 = pinsAt fp s5.heap → tn (i + 1) s5.heap → σ6.length = (pick ix σ ++ List.replicate (N.length - ix.length) none).length → (∀ j, j < ix.length → σ6[j]? = (pick ix σ ++ List.replicate (N.length - ix.length) none)[j]?) → Inv Y ([] ++ p5) σ6 H8 s8 → NN H8 →
          ∃ m', m' < n ∧ ∃ i H', Inv Y [] (pick ix σ ++ List.replicate (N.length - ix.length) none) H' s8 ∧ tn i s8.heap ∧ (∀ b ∈ fp, H' b = none) ∧ W i m' H' := fun {p5 s5 s8 σ6 H8} e5 st5 l6 k6 I8 q8 => by
        subst e5
        obtain ⟨m', hm, w8⟩ := hNN _ q8
        refine ⟨m', hm, i + 1, H8, I8.unpinned.weak l6.symm (fun j v e => ?_), T.keep _ _ _ st5 fun b hb o e => (I8.pin (b, o) (List.mem_append_right _ (List.mem_append_right _ (mem_pinsAt hb e)))).1, fun b hb => ?_, w8⟩
        · by_cases hj : j < ix.length
          · rw [k6 j hj]; exact e
          · rw [List.getElem?_append_right (by simpa [pick] using hj), List.getElem?_replicate] at e
            split at e <;> cases e
        · obtain ⟨o, e, _⟩ := T.obj _ _ st5 b hb
          exact (I8.pin (b, o) (List.mem_append_right _ (List.mem_append_right _ (mem_pinsAt hb e)))).2.1
      have tail : ∀ (r : Option Value) (s4 : Shared), (∃ u, r = some u ∧ wpAny (model Y.prog Y.w) Y.A (letOwnedTupleGo tg (.ref it) u) (fun _ s2 => ∃ x H', Inv Y [] (pick ix σ ++ List.replicate (N.length - ix.length) none) H' s2 ∧ RelV x u ∧ J.yld i H3 x H' ∧ tn (i + 1) s2.heap ∧ ∀ b ∈ fp, H' b = none) Y.xe s4) →
          (match r with
          | none => compPost (model X.prog X.w) X.A X.xe use QQ (.ref s2.heap.objs.size) (s2.heap.objs.size + 1) (.ok .next) s4
          | some v => wpAny (model Y.prog Y.w) Y.A (letOwnedTupleGo tg (.ref it) v) (fun _ s₁ => wpAny (model Y.prog Y.w) Y.A (assign tg Y.env v) (fun _ s₂ =>
              wpAny (model Y.prog Y.w) Y.A (forIn ifs true fun c r => if r = true then do let ok ← isTrue c Y.env (eval c Y.env); pure (ForInStep.yield ok) else pure (ForInStep.yield r)) (fun ok s₃ =>
                if ok = true then wpAny (model Y.prog Y.w) Y.A (eval elt Y.env) (fun x s₄ =>
                  wpAny (model Y.prog Y.w) Y.A (call (.builtin "list.append") [.ref s2.heap.objs.size, x]) (fun _ s₅ => ∃ m, m < n ∧ ∃ i H', Inv Y [] (pick ix σ ++ List.replicate (N.length - ix.length) none) H' s₅ ∧ tn i s₅.heap ∧ (∀ b ∈ fp, H' b = none) ∧ W i m H') Y.xe s₄) Y.xe s₃
                else ∃ m, m < n ∧ ∃ i H', Inv Y [] (pick ix σ ++ List.replicate (N.length - ix.length) none) H' s₃ ∧ tn i s₃.heap ∧ (∀ b ∈ fp, H' b = none) ∧ W i m H') Y.xe s₂) Y.xe s₁) Y.xe s4) := by
        rintro r s4 ⟨u, rfl, h4⟩
        dsimp only
        refine thn h4 fun _ s5 ⟨x, H5, I5, r5, y5, st5, fr5⟩ => ?_
        have I5' := I5.pinned (stat fr5) (T.obj _ _ st5)
        refine thn (hgY _ s5 _ H5 x u _ I5' r5 (hown _ _ _ _ (step x H5 y5))) fun _ s6 ⟨σ6, H6, I6, q6, l6, k6⟩ => ?_
        refine thn (hifY _ s6 σ6 H6 _ I6 q6) fun b s7 ⟨H7, I7, q7⟩ => ?_
        cases b with
        | false =>
          rw [if_neg (by decide)] at q7 ⊢
          exact again rfl st5 l6 k6 I7 q7
        | true =>
          rw [if_pos rfl] at q7 ⊢
          refine thn (heY _ s7 σ6 H7 _ I7 q7) fun y s8 ⟨v, H8, I8, r8, vs, e8, hz, q8⟩ => ?_
          refine thn (mt_append (X := Y) _ s8 σ6 H8 (.ref s2.heap.objs.size) [v] (.ref s2.heap.objs.size) [y] (fun _ H9 => NN H9) I8 rfl (.cons r8 .nil) ⟨s2.heap.objs.size, vs, v, rfl, rfl, e8, hz, q8⟩) fun _ s9 ⟨_, H9, I9, _, q9⟩ => ?_
          exact again rfl st5 l6 k6 I9 q9
      subst hY
      exact thn d tail
  exact codeAny_compStart_list loop (T.self X.A 0 _ _ _ (T.keep _ _ _ st2 fun b hb o e => old b o e) loop)
theorem ps_lcset {X : Cx} {elt iter tg : Expr} {ifs : List Expr} {scope : Scope} {pos py spos : Pos} {wi : TI} {g : TG} {tc : TT} {te : TE} {i : Nat} {y : Str} (N : List Str) (ix : List Nat) (hcalm : X.calm = true) (hi : PI X tg iter wi)
    (hg : ∀ C fp s H xe, PG (cxBlk X N scope C fp s H xe) tg g) (hif : ∀ C fp s H xe, PIf (cxBlk X N scope C fp s H xe) ifs tc) (he : ∀ C fp s H xe, PE (cxBlk X N scope C fp s H xe) elt te)
    (ok : blkOk X.N X.env.kindOf scope N ix = true) (hown : Own g ix.length) (hN : X.N.Nodup) (hy : X.N[i]? = some y) (hl : Loc X.env.scope y)
    (hsw : swapsWith (.ListComp elt [⟨tg, iter, ifs, 0⟩] scope pos) (some (.Name y py)) spos.line X.env = pure true := by rfl) (hf : X.fn y = true ∨ X.env.scope.names.lookup y = some .local := by first | exact .inl rfl | exact .inr rfl | assumption)
    (hs : ∀ x, foldedSetIterable iter X.env x = pure x := by intro _; rfl) :
    PS X (.Assign [.Name y py] (.ListComp elt [⟨tg, iter, ifs, 0⟩] scope pos) spos) (tAsg (tLC wi g tc te ix (N.length - ix.length)) (gName i)) := by
  unfold blkOk at ok
  rw [Bool.and_eq_true, Bool.and_eq_true, Bool.and_eq_true, List.all_eq_true] at ok
  obtain ⟨⟨⟨h1, h2⟩, h3⟩, h4⟩ := ok
  have h2' : ∀ y ∈ scope.names, y.2 ≠ .cell ∧ (y.2 ≠ .free ∨ X.env.kindOf y.1 = some .cell) ∧ (y.2 ≠ .local ∨ scope.names.lookup y.1 = some .local) := fun y hy => by
    have q := h2 y hy
    rw [Bool.and_eq_true, Bool.and_eq_true, Bool.or_eq_true, Bool.or_eq_true, decide_eq_true_eq, decide_eq_true_eq, decide_eq_true_eq, decide_eq_true_eq, decide_eq_true_eq] at q
    exact ⟨q.1.1, q.1.2, q.2⟩
  intro pins s σ H D I h
  rw [exec_Assign_Name_used _ _ _ _ hsw]
  refine wpAny_bind (wpAny_standAt (wpAny_bind ?_))
  show wpAny _ X.A (do let _ ← comprehension (.ListComp elt [⟨tg, iter, ifs, 0⟩] scope pos) scope X.env _ (newList []) false (eval iter X.env) (some (assign (.Name y py) X.env))) _ _ s
  refine wpAny_bind (wpAny_mono (lc_core (use := some (assign (.Name y py) X.env)) (QQ := fun _ s' => ∃ σ' H', Inv X pins σ' H' s' ∧ D.nx σ' H') N ix hcalm hi hg hif he (of_decide_eq_true h1) (fun y hy => (h2' y hy).1) (fun y hy e => (h2' y hy).2.1.resolve_left (fun z => z e)) h3 (of_decide_eq_true h4) (fun y hy e => (h2' y hy).2.2.resolve_left (fun z => z e)) hown I h
    (fun C Dl H' s' m hm fp inv q => ?_) hs) (fun _ s' hq => wpAny_pure (wpAny_pure hq)) fun _ _ e => e)
  have I' : Inv X pins σ H' s' := inv s'.heap (Heap.SameBut.refl _ _)
  show wpAny _ _ (assign (.Name y py) X.env (.ref Dl)) _ _ _
  refine wpAny_assign_Name (store_ok2 (v := .ref Dl) I' hN hy hl rfl (fun s'' I'' ⟨a, sb, ha⟩ => ?_) hf)
  have aC : C ≠ a := fun z => by
    rcases ha with ha | ha
    · exact fp.2.1 (z.trans ha)
    · exact fp.2.2.2.2.1 _ _ ha z.symm
  refine ⟨m, hm.sameBut sb aC, fun h' sb' => ⟨_, H', I''.turnedN (t' := s''.toks) (fp := [C]) (fun b o hb e => sb'.extBut b o (fun z => hb (List.mem_singleton.mpr z)) e) (fun b hb => by rw [List.mem_singleton.mp hb]; exact fp), q⟩⟩
end L2
namespace L2
open PySem PySem.Spec PyProof.Rows
theorem lc_rangeR {lo : Int} {n k : Nat} {D : Addr} {H2 : Hp} {te : TE} {σ0 : St} {R : Hp → Prop} (Pv : Nat → Hp → Prop) (h0 : Pv 0 H2)
    (hs : ∀ (i : Nat) H, i < n → Pv i H → te (σ0.set k (some (.int (lo + i)))) H (fun v H7 => ∃ vs, H7 D = some (.lst vs) ∧ vs.length < sizeLine ∧ Pv (i + 1) (upd H7 D (.lst (vs ++ [v]))))) (hd : ∀ H, Pv n H → R H) :
    ∃ W : Nat → Nat → Hp → Prop, (∃ m, W 0 m H2) ∧ ∀ i m H3, W i m H3 → ((Itr lo n).stop i H3 ∧ R H3) ∨
      ((Itr lo n).go i H3 ∧ ∃ N : Hp → Prop, (∀ H', N H' → ∃ m', m' < m ∧ W (i + 1) m' H') ∧ ∀ x H4, (Itr lo n).yld i H3 x H4 → gName k x σ0 H4 fun σ5 H5 => tNoIf σ5 H5 fun b H6 =>
        if b = true then te σ5 H6 (fun v H7 => ∃ vs, H7 D = some (.lst vs) ∧ vs.length < sizeLine ∧ N (upd H7 D (.lst (vs ++ [v])))) else N H6) :=
  lc_rangeN (Q := fun _ H => R H) Pv h0 hs hd
theorem lc_listR {K : PySem.W.Frag} {a : Addr} {xs : List V} {k : Nat} {D : Addr} {H2 : Hp} {te : TE} {σ0 : St} {R : Hp → Prop} (Pv : Nat → Hp → Prop) (h0 : Pv 0 H2) (hl : ∀ i H, Pv i H → SqL K H a xs)
    (hs : ∀ (i : Nat) x H, xs[i]? = some x → Pv i H → te (σ0.set k (some x)) H (fun v H7 => ∃ vs, H7 D = some (.lst vs) ∧ vs.length < sizeLine ∧ Pv (i + 1) (upd H7 D (.lst (vs ++ [v]))))) (hd : ∀ H, Pv xs.length H → R H) :
    ∃ W : Nat → Nat → Hp → Prop, (∃ m, W 0 m H2) ∧ ∀ i m H3, W i m H3 → ((Itl K a).stop i H3 ∧ R H3) ∨
      ((Itl K a).go i H3 ∧ ∃ N : Hp → Prop, (∀ H', N H' → ∃ m', m' < m ∧ W (i + 1) m' H') ∧ ∀ x H4, (Itl K a).yld i H3 x H4 → gName k x σ0 H4 fun σ5 H5 => tNoIf σ5 H5 fun b H6 =>
        if b = true then te σ5 H6 (fun v H7 => ∃ vs, H7 D = some (.lst vs) ∧ vs.length < sizeLine ∧ N (upd H7 D (.lst (vs ++ [v])))) else N H6) :=
  lc_listN (Q := fun _ H => R H) Pv h0 hl hs hd
end L2

namespace L2
open PySem PySem.W PyProof.Rows
def hT {α : Type} (c : Nat → Nat → Bool) (n : Nat) : KasT α → (α → Prop) → Prop
  | .ret a, Q => Q a
  | .ask i j k, Q => i < n ∧ j < n ∧ hT c n (k (c i j)) Q
section
variable {r : Nat → Int} {n : Nat}
abbrev rc (r : Nat → Int) : Nat → Nat → Bool := fun i j => decide (r i < r j)
abbrev kk (r : Nat → Int) (p : Array Nat) (i : Nat) : Int := r (p.getD i 0)
def Srt (r : Nat → Int) (p : Array Nat) (m : Nat) : Prop := ∀ i j, i ≤ j → j < m → kk r p i ≤ kk r p j
def Dec (r : Nat → Int) (p : Array Nat) (m : Nat) : Prop := ∀ i j, i ≤ j → j < m → kk r p j ≤ kk r p i
def Gp (n : Nat) (p : Array Nat) : Prop := p.Perm (List.range n).toArray
theorem Gp.size {p : Array Nat} (g : Gp n p) : p.size = n := by
  have := g.size_eq
  simpa using this
theorem Gp.lt {p : Array Nat} (g : Gp n p) {i : Nat} (h : i < n) : p.getD i 0 < n := by
  have hi : i < p.size := by rw [g.size]; exact h
  have e : p.getD i 0 = p[i] := by simp [Array.getD, hi]
  have : p[i] ∈ (List.range n).toArray := g.mem_iff.mp (Array.getElem_mem hi)
  rw [e]
  simpa using this
theorem Srt.more {p : Array Nat} {m : Nat} (h : Srt r p m) (e : kk r p (m - 1) ≤ kk r p m) : Srt r p (m + 1) := fun i j hij hj => by
  by_cases z : j < m
  · exact h i j hij z
  · have ej : j = m := by omega
    subst ej
    by_cases z2 : i = j
    · subst z2; exact Int.le_refl _
    · exact Int.le_trans (h i (j - 1) (by omega) (by omega)) e
theorem Dec.more {p : Array Nat} {m : Nat} (h : Dec r p m) (e : kk r p m ≤ kk r p (m - 1)) : Dec r p (m + 1) := fun i j hij hj => by
  by_cases z : j < m
  · exact h i j hij z
  · have ej : j = m := by omega
    subst ej
    by_cases z2 : i = j
    · subst z2; exact Int.le_refl _
    · exact Int.le_trans e (h i (j - 1) (by omega) (by omega))
end
end L2

namespace L2
open PySem PySem.W PySem.Spec PyProof.Rows
section
variable {prog : Program} {w : World} {A : Around} {E : Value → Shared → Prop} {s : Shared}
end
end L2

namespace L2
open PySem PySem.W PySem.Spec PyProof.Rows
def lx : List Int → List Int → Bool
  | a :: r, b :: s => if a = b then lx r s else decide (a < b)
  | [], _ :: _ => true
  | _, [] => false
theorem lx_irr : ∀ a : List Int, lx a a = false
  | [] => rfl
  | a :: r => by
    show (if a = a then lx r r else decide (a < a)) = false
    rw [if_pos rfl]
    exact lx_irr r
theorem lx_trans : ∀ a b c : List Int, lx a b = true → lx b c = true → lx a c = true
  | [], [], c, h, _ => by cases h
  | [], _ :: _, [], _, h => by cases h
  | [], _ :: _, _ :: _, _, _ => rfl
  | _ :: _, [], c, h, _ => by cases h
  | _ :: _, _ :: _, [], _, h => by cases h
  | a :: r, b :: s, c :: t, h, g => by
    have h : (if a = b then lx r s else decide (a < b)) = true := h
    have g : (if b = c then lx s t else decide (b < c)) = true := g
    show (if a = c then lx r t else decide (a < c)) = true
    by_cases e1 : a = b
    · subst e1
      rw [if_pos rfl] at h
      by_cases e2 : a = c
      · subst e2
        rw [if_pos rfl] at g ⊢
        exact lx_trans r s t h g
      · rw [if_neg e2] at g ⊢
        exact g
    · rw [if_neg e1, decide_eq_true_eq] at h
      by_cases e2 : b = c
      · subst e2
        rw [if_neg e1]
        exact decide_eq_true h
      · rw [if_neg e2, decide_eq_true_eq] at g
        rw [if_neg (by omega)]
        exact decide_eq_true (by omega)
theorem lx_tot : ∀ a b : List Int, lx a b = false → lx b a = false → a = b
  | [], [], _, _ => rfl
  | [], _ :: _, h, _ => by cases h
  | _ :: _, [], _, h => by cases h
  | a :: r, b :: s, h, g => by
    have h : (if a = b then lx r s else decide (a < b)) = false := h
    have g : (if b = a then lx s r else decide (b < a)) = false := g
    by_cases e : a = b
    · subst e
      rw [if_pos rfl] at h g
      rw [lx_tot r s h g]
    · rw [if_neg e, decide_eq_false_iff_not] at h
      rw [if_neg (fun z => e z.symm), decide_eq_false_iff_not] at g
      omega
theorem count_lt {α : Type} {p q : α → Bool} : ∀ {l : List α} {x : α}, (∀ y ∈ l, p y = true → q y = true) → x ∈ l → q x = true → p x = false → l.countP p < l.countP q
  | a :: l, x, h, hx, h1, h2 => by
    have ml : l.countP p ≤ l.countP q := List.countP_mono_left fun y hy => h y (List.mem_cons_of_mem _ hy)
    rw [List.countP_cons, List.countP_cons]
    rcases List.mem_cons.mp hx with e | hx
    · subst e
      rw [h1, h2, if_neg Bool.false_ne_true, if_pos rfl]
      omega
    · have ih := count_lt (fun y hy => h y (List.mem_cons_of_mem _ hy)) hx h1 h2
      have ha := h a (List.mem_cons_self ..)
      cases pa : p a with
      | false =>
        rw [if_neg Bool.false_ne_true]
        omega
      | true =>
        rw [ha pa]
        omega
def rkOf (ks : List (List Int)) (k : List Int) : Int := ((ks.countP fun y => lx y k : Nat) : Int)
theorem rk_iff {ks : List (List Int)} {k k' : List Int} (h : k ∈ ks) (h' : k' ∈ ks) : rkOf ks k < rkOf ks k' ↔ lx k k' = true := by
  constructor
  · intro lt
    cases e : lx k k' with
    | true => rfl
    | false =>
      have : ks.countP (fun y => lx y k') ≤ ks.countP (fun y => lx y k) := List.countP_mono_left fun y _ hy => by
        cases g : lx k' k with
        | true => exact lx_trans _ _ _ hy g
        | false => rw [lx_tot k k' e g]; exact hy
      unfold rkOf at lt
      omega
  · intro e
    have := count_lt (p := fun y => lx y k) (q := fun y => lx y k') (l := ks) (x := k) (fun y _ hy => lx_trans _ _ _ hy e) h e (lx_irr k)
    unfold rkOf
    omega
section
variable {prog : Program} {w : World} {A : Around} {E : Value → Shared → Prop} {s : Shared}
def IsTI (h : Heap) (v : Value) (k : List Int) : Prop := ∃ a us, v = .ref a ∧ h.IsTuple a us.toArray ∧ IntsAre us k
theorem IsTI.at {h h' : Heap} {v : Value} {k : List Int} (x : IsTI h v k) (e : ∀ b o, h.get? b = some o → h'.get? b = some o) : IsTI h' v k :=
  let ⟨a, us, e1, ⟨o, e2, r⟩, i⟩ := x
  ⟨a, us, e1, ⟨o, e _ _ e2, r⟩, i⟩
end
section
variable {X : Cx}
end
end L2

namespace L2
open PySem PySem.W PySem.Spec PyProof.Rows
section
variable {X : Cx} {pins : List (Addr × Obj)} {σ : St} {H : Hp} {s : Shared}
end
end L2

namespace L2
open PySem PySem.W PySem.Spec PyProof.Rows
def CmpG (prog : Program) (w : World) (A : Around) (Good : Heap → Prop) (P : Nat → Value → Prop) (bt : Nat → Nat → Bool) : Prop :=
  ∀ i j vi vj (s : Shared) (Q : Value → Shared → Prop) (E : Value → Shared → Prop), Good s.heap → P i vi → P j vj → Q (.bool (bt i j)) s → wpAny (model prog w) A (richCompare .Lt vi vj) Q E s
section
variable {prog : Program} {w : World} {A : Around} {R : Result → Shared → Prop} {I : Addr} {fp wr : List Addr} {n : Nat} {P : Nat → Value → Prop} {St : Nat → Heap → Prop} {Good : Heap → Prop}
theorem min_turn (W : Walks prog w A.in1 I fp wr n P St) (bt : Nat → Nat → Bool) (hcmp : CmpG prog w A.in1 Good P bt) (S : Addr) (hSf : S ∉ fp) (hg : ∀ h h', Good h → (∀ b o, b ∉ wr → b ≠ S → h.get? b = some o → h'.get? b = some o) → Good h') :
    ∀ (k j : Nat) (s : Shared) (vb : Value) (c : Nat), n - (j + 1) = k → j + 1 ≤ n → St (j + 1) s.heap → Good s.heap → P (argBest bt j) vb → s.heap.get? S = some { cls := .type "list", dict := none, data := .seq #[vb, vb] c, slots := #[] } →
    (∀ v h' tk, P (argBest bt (n - 1)) v → (∀ b o, b ∉ wr → b ≠ S → s.heap.get? b = some o → h'.get? b = some o) → R (.ok (.ret v)) { s with heap := h', toks := tk }) →
    codeAny (model prog w) A (.builtin "min.loop" ⟨[.ref I, .none, .ref S], []⟩) R s := by
  have nw : S ∉ wr := fun h => hSf (W.sub _ h)
  have nm : (toString "min" ++ toString ".loop" : String) = "min.loop" := by decide
  intro k
  induction k with
  | zero =>
    intro j s vb c hk hj st gd pb gS hR
    have e : j + 1 = n := by omega
    refine codeAny_builtin F.entry_min_loop ?_
    rw [Around.under_plainId F.plain_min_loop _]
    show wpAny _ A.in1 (seqItems? (.ref S) >>= _) _ _ s
    refine wpAny_bind (wpAny_seqItems gS rfl ?_)
    show wpAny _ A.in1 (tryCatch (pyNext (.ref I)) _ >>= _) _ _ s
    refine wpAny_bind (wpAny_tryCatch (W.done s _ _ (e ▸ st) fun h' tk kp => ?_))
    show wpAny _ A.in1 (updateSeq S (fun _ => #[]) >>= _) _ _ _
    refine wpAny_bind (wpAny_updateSeq (kp S _ nw gS) rfl (wpAny_bind (wpAny_letGo (wpAny_pure ?_))))
    exact hR vb _ tk (by rw [← e]; exact pb) fun b o bw bS eb => (Heap.get?_update_other _ _ (Ne.symm bS)).trans (kp b o bw eb)
  | succ k ih =>
    intro j s vb c hk hj st gd pb gS hR
    have lt : j + 1 < n := by omega
    refine codeAny_builtin F.entry_min_loop ?_
    rw [Around.under_plainId F.plain_min_loop _]
    show wpAny _ A.in1 (seqItems? (.ref S) >>= _) _ _ s
    refine wpAny_bind (wpAny_seqItems gS rfl ?_)
    show wpAny _ A.in1 (tryCatch (pyNext (.ref I)) _ >>= _) _ _ s
    refine wpAny_bind (wpAny_tryCatch (W.item (j + 1) s _ _ lt st fun v h' tk pv st' kp => ?_))
    have gS' := kp S _ nw gS
    have gd' : Good h' := hg _ _ gd fun b o bw _ eb => kp b o bw eb
    show wpAny _ A.in1 (tryCatch (holding [v, v] (richCompare .Lt v vb >>= _)) _ >>= _) _ _ _
    refine wpAny_bind (wpAny_tryCatch (wpAny_holding (wpAny_bind (hcmp (j + 1) (argBest bt j) v vb _ _ _ gd' pv pb ?_))))
    refine wpAny_bind (wpAny_holding (wpAny_truthy_bool (wpAny_bind (wpAny_letGo (wpAny_pure ?_)))))
    cases z : bt (j + 1) (argBest bt j) with
    | true =>
      simp only [if_true]
      refine wpAny_bind (wpAny_updateSeq gS' rfl (wpAny_bind (wpAny_letGo ?_)))
      rw [nm]
      have gd2 : Good (h'.update S (Obj.mapSeq fun _ => #[v, v])) := hg _ _ gd' fun b o _ bS eb => (Heap.get?_update_other _ _ (Ne.symm bS)).trans eb
      refine wpAny_pure ⟨plainId_quiet F.plain_min_loop _, ih (j + 1) _ v _ (by omega) lt (W.frame _ _ _ st' fun b bf o eb => ?_) gd2 (by simp only [argBest, z, if_true]; exact pv) (Heap.get?_update_self _ gS' rfl) fun v' h'' tk'' p2 k2 => ?_⟩
      · exact (Heap.get?_update_other _ _ (fun h : S = b => hSf (by rw [h]; exact bf))).trans eb
      · exact hR v' h'' tk'' p2 fun b o bw bS eb => k2 b o bw bS ((Heap.get?_update_other _ _ (Ne.symm bS)).trans (kp b o bw eb))
    | false =>
      simp only [Bool.false_eq_true, if_false]
      refine wpAny_bind (wpAny_letGo ?_)
      rw [nm]
      exact wpAny_pure ⟨plainId_quiet F.plain_min_loop _, ih (j + 1) _ vb c (by omega) lt st' gd' (by simp only [argBest, z, Bool.false_eq_true, if_false]; exact pb) gS' fun v' h'' tk'' p2 k2 => hR v' h'' tk'' p2 fun b o bw bS eb => k2 b o bw bS (kp b o bw eb)⟩
theorem min_first (W : Walks prog w A.in1 I fp wr n P St) (bt : Nat → Nat → Bool) (hcmp : CmpG prog w A.in1 Good P bt) (S : Addr) (hSf : S ∉ fp) (hg : ∀ h h', Good h → (∀ b o, b ∉ wr → b ≠ S → h.get? b = some o → h'.get? b = some o) → Good h') (hn : 0 < n) {s : Shared} {c : Nat} (st : St 0 s.heap) (gd : Good s.heap)
    (gS : s.heap.get? S = some { cls := .type "list", dict := none, data := .seq #[] c, slots := #[] })
    (hR : ∀ v h' tk, P (argBest bt (n - 1)) v → (∀ b o, b ∉ wr → b ≠ S → s.heap.get? b = some o → h'.get? b = some o) → R (.ok (.ret v)) { s with heap := h', toks := tk }) :
    codeAny (model prog w) A (.builtin "min.loop" ⟨[.ref I, .none, .ref S], []⟩) R s := by
  have nw : S ∉ wr := fun h => hSf (W.sub _ h)
  have nm : (toString "min" ++ toString ".loop" : String) = "min.loop" := by decide
  refine codeAny_builtin F.entry_min_loop ?_
  rw [Around.under_plainId F.plain_min_loop _]
  show wpAny _ A.in1 (seqItems? (.ref S) >>= _) _ _ s
  refine wpAny_bind (wpAny_seqItems gS rfl ?_)
  show wpAny _ A.in1 (tryCatch (pyNext (.ref I)) _ >>= _) _ _ s
  refine wpAny_bind (wpAny_tryCatch (W.item 0 s _ _ hn st fun v h' tk pv st' kp => ?_))
  have gS' := kp S _ nw gS
  show wpAny _ A.in1 (updateSeq S (fun _ => #[v, v]) >>= _) _ _ _
  refine wpAny_bind (wpAny_updateSeq gS' rfl ?_)
  rw [nm]
  have gd' : Good (h'.update S (Obj.mapSeq fun _ => #[v, v])) := hg _ _ gd fun b o bw bS eb => (Heap.get?_update_other _ _ (Ne.symm bS)).trans (kp b o bw eb)
  refine wpAny_pure ⟨plainId_quiet F.plain_min_loop _, min_turn W bt hcmp S hSf hg _ 0 _ v _ rfl hn (W.frame _ _ _ st' fun b bf o eb => ?_) gd' pv (Heap.get?_update_self _ gS' rfl) fun v' h'' tk'' p2 k2 => ?_⟩
  · exact (Heap.get?_update_other _ _ (fun h : S = b => hSf (by rw [h]; exact bf))).trans eb
  · exact hR v' h'' tk'' p2 fun b o bw bS eb => k2 b o bw bS ((Heap.get?_update_other _ _ (Ne.symm bS)).trans (kp b o bw eb))
end
section
variable {prog : Program} {w : World} {A : Around} {E : Value → Shared → Prop} {s : Shared}
theorem min_by {l : Addr} {items : Array Value} {bt : Nat → Nat → Bool} {Q : Value → Shared → Prop} (hh : A.handled = none) (hl : s.heap.IsList l items) (hn : 0 < items.size)
    (hcmp : CmpG prog w A.in1 (fun h => ∀ b o, s.heap.get? b = some o → h.get? b = some o) (fun i v => items[i]? = some v) bt)
    (h : ∀ v h' tk, items[argBest bt (items.size - 1)]? = some v → (∀ b o, s.heap.get? b = some o → h'.get? b = some o) → Q v { s with heap := h', toks := tk }) : wpAny (model prog w) A (call (.builtin "min") [.ref l]) Q E s := by
  have nm : (toString "min" ++ toString ".loop" : String) = "min.loop" := by decide
  have hlt : l < s.heap.objs.size := by obtain ⟨_, e, _⟩ := hl; exact Heap.lt_size e
  refine call_function_tree F.kind_min F.plain_min F.entry_min (F.args_min1 _) ?_
  show wpAny _ A.in1 (Builtin.Builtins.bindParams "min" ["key", "default"] 0 ⟨[], []⟩ >>= _) _ _ s
  refine wpAny_bind (wpAny_of_eq (show Builtin.Builtins.bindParams "min" ["key", "default"] 0 ⟨[], []⟩ = pure [none, none] from rfl) (wpAny_bind (wpAny_pure ?_)))
  refine wpAny_bind (wpAny_pyIter_list hl ?_)
  refine wpAny_bind (wpAny_newObj_type ?_)
  rw [nm]
  refine wpAny_pure ⟨plainId_quiet F.plain_min_loop _, min_first (Walks.list (A := A.in1) hh s.heap.objs.size l (Nat.ne_of_lt hlt) items) bt hcmp _ ?_ (fun h1 h2 g k b o e => ?_) hn ⟨⟨_, Heap.get?_push_of_some _ (Heap.get?_push_size _ rfl), rfl, rfl⟩, (hl.push _).push _⟩ (fun b o e => Heap.get?_push_of_some _ (Heap.get?_push_of_some _ e)) (Heap.get?_push_size _ rfl) fun v h' tk pv k => ?_⟩
  · intro hm
    rw [Heap.size_push] at hm
    simp only [List.mem_cons, List.not_mem_nil, or_false] at hm
    rcases hm with hm | hm
    · exact absurd hm (Nat.ne_of_gt (Nat.lt_succ_self _))
    · exact absurd hm (Nat.ne_of_gt (Nat.lt_succ_of_lt hlt))
  · have bl := Heap.lt_size e
    refine k b o (fun z => absurd (List.mem_singleton.mp z) (Nat.ne_of_lt bl)) (fun z => ?_) (g b o e)
    rw [Heap.size_push] at z
    exact absurd z (Nat.ne_of_lt (Nat.lt_succ_of_lt bl))
  · refine h v h' tk pv fun b o e => ?_
    have bl := Heap.lt_size e
    refine k b o (fun z => absurd (List.mem_singleton.mp z) (Nat.ne_of_lt bl)) (fun z => ?_) (Heap.get?_push_of_some _ (Heap.get?_push_of_some _ e))
    rw [Heap.size_push] at z
    exact absurd z (Nat.ne_of_lt (Nat.lt_succ_of_lt bl))
end
section
variable {X : Cx}
end
end L2

namespace W1
open PySem L2
def T0 : Tl := ⟨0, 0, 0, 0⟩
def pick (q : List Nat) (ts : List Tl) : List Tl := q.map fun i => ts.getD i T0
def OneB (ts : List Tl) : Prop := ∀ x ∈ ts, ∀ y ∈ ts, x.b = y.b → x = y
theorem OneB.of {ts : List Tl} (h : ts.Pairwise fun a b => a.b < b.b) : OneB ts := fun x hx y hy e => by
  obtain ⟨i, hi, rfl⟩ := List.getElem_of_mem hx
  obtain ⟨j, hj, rfl⟩ := List.getElem_of_mem hy
  have pw := List.pairwise_iff_getElem.mp h
  by_cases a : i < j
  · have := pw i j hi hj a
    omega
  · by_cases b : j < i
    · have := pw j i hj hi b
      omega
    · have : i = j := by omega
      subst this
      rfl
end W1
namespace L2
open PySem PySem.Spec PyProof.Rows
theorem pg_tupK {X : Cx} {K : PySem.W.Frag} {es : List Expr} {k : Nat} {t : TGs} {n : Nat} {pos : Pos} (e : X.K = K) (hc : X.calm = true) (h : PGs X es t) (hn : (assignEach es X.env).length = n) (hst : (assignEach es X.env).findIdx? (·.1) = none) : PG X (.Tuple es k pos) (gTup K n t) := by
  subst e
  exact pg_tup hc h hn hst
end L2
namespace L2
end L2

namespace L2
open PySem PySem.Spec PyProof.Rows PySem.SeqAt
def rowLt (f : Int → Int → Bool) (as bs : Nat → Int) : Nat → Nat → Bool
  | _, 0 => false
  | i, k + 1 => if as i = bs i then rowLt f as bs (i + 1) k else f (as i) (bs i)
theorem gt_intR {prog : Program} {w : World} {A : Around} {E : Value → Shared → Prop} {s : Shared} {a b : Int} {t u : Tok} {Q : Value → Shared → Prop} (h : Q (.bool (decide (b < a))) s) : wpAny (model prog w) A (richCompare .Gt (.int a t) (.int b u)) Q E s := gt_int h
theorem lt_intR {prog : Program} {w : World} {A : Around} {E : Value → Shared → Prop} {s : Shared} {a b : Int} {t u : Tok} {Q : Value → Shared → Prop} (h : Q (.bool (decide (a < b))) s) : wpAny (model prog w) A (richCompare .Lt (.int a t) (.int b u)) Q E s := wpAny_lt_int h
theorem lt_loop (l b : Addr) (items items2 : Array Value) (n n2 : Nat) (dd dd2 : Option Addr) (sl sl2 : Array (Option Value)) (hsz : items.size = items2.size) (as bs : Nat → Int) (k : Nat) :
    ∀ i : Nat, items.size - i = k → Meets (Builtin.«list.__eq__.loop» ⟨[.ref l, .ref b, rawInt i, rawInt 0], []⟩)
      (fun A R s => s.heap.get? l = some { cls := .type "list", dict := dd, data := .seq items n, slots := sl } ∧ s.heap.get? b = some { cls := .type "list", dict := dd2, data := .seq items2 n2, slots := sl2 } ∧
        (∀ j (h1 : j < items.size) (h2 : j < items2.size), ∃ t u, items[j] = .int (as j) t ∧ items2[j] = .int (bs j) u) ∧
        R (.ok (.ret (.bool (rowLt (fun x y => decide (x < y)) as bs i k)))) s) := by
  induction k with
  | zero =>
    intro i hk prog w A R s h
    obtain ⟨hp, g, d, tk, os⟩ := s; obtain ⟨hl, hb, he, h⟩ := h
    wp_walk using wpAny_loadPart' hl, wpAny_loadPart' hb
    have hi1 : items[((i : Nat) : Int).toNat]? = none := by simp; omega
    have hi2 : items2[((i : Nat) : Int).toNat]? = none := by simp; omega
    rw [hi1, hi2]
    wp_walk using wpAny_loadPart' hl, wpAny_loadPart' hb
    show R (.ok (.ret (.bool (decide (items.size < items2.size))))) _
    rw [hsz, decide_eq_false (Nat.lt_irrefl _)]
    exact h
  | succ k ih =>
    intro i hk prog w A R s h
    obtain ⟨hp, g, d, tk, os⟩ := s; obtain ⟨hl, hb, he, h⟩ := h
    wp_walk using wpAny_loadPart' hl, wpAny_loadPart' hb
    have hlt : i < items.size := by omega
    have hlt2 : i < items2.size := by omega
    obtain ⟨t, u, e1, e2⟩ := he i hlt hlt2
    have hi1 : items[((i : Nat) : Int).toNat]? = some (.int (as i) t) := by simp [hlt, e1]
    have hi2 : items2[((i : Nat) : Int).toNat]? = some (.int (bs i) u) := by simp [hlt2, e2]
    have hc : ((i : Int) + 1) = ((i + 1 : Nat) : Int) := by push_cast; rfl
    rw [hi1, hi2]
    refine wpAny_bind (EqAt.int_int (as i) t (bs i) u prog w _ _ ?_)
    by_cases z : as i = bs i
    · rw [rowLt, if_pos z] at h
      rw [show (as i == bs i) = true from beq_iff_eq.mpr z]
      wp_walk
      rw [hc]
      exact ⟨plainId_quiet PySem.MeetsSeq3.plain_eq_loop _, codeAny_builtin PySem.MeetsSeq3.entry_eq_loop (by
        rw [Around.under_plainId PySem.MeetsSeq3.plain_eq_loop _]
        exact ih (i + 1) (by omega) prog w A R _ ⟨hl, hb, he, h⟩)⟩
    · rw [rowLt, if_neg z] at h
      rw [show (as i == bs i) = false from beq_eq_false_iff_ne.mpr z]
      wp_walk using wpAny_loadPart' hl, wpAny_loadPart' hb
      rw [hi1, hi2]
      refine wpAny_bind (lt_intR ?_)
      wp_walk
      exact h
theorem list_lt (l b : Addr) (items items2 : Array Value) (n n2 : Nat) (dd dd2 : Option Addr) (sl sl2 : Array (Option Value)) (hsz : items.size = items2.size) (as bs : Nat → Int) :
    Meets (Builtin.«list.__lt__» ⟨[.ref l, .ref b], []⟩)
      (fun A R s => s.heap.get? l = some { cls := .type "list", dict := dd, data := .seq items n, slots := sl } ∧ s.heap.get? b = some { cls := .type "list", dict := dd2, data := .seq items2 n2, slots := sl2 } ∧
        (∀ j (h1 : j < items.size) (h2 : j < items2.size), ∃ t u, items[j] = .int (as j) t ∧ items2[j] = .int (bs j) u) ∧
        R (.ok (.ret (.bool (rowLt (fun x y => decide (x < y)) as bs 0 items.size)))) s) := by
  intro prog w A R s h
  obtain ⟨hp, g, d, tk, os⟩ := s; obtain ⟨hl, hb, he, h⟩ := h
  have f3 := AutoSeq1.sub_list_list
  wp_walk using wpAny_loadPart' hl, wpAny_loadPart' hb
  exact ⟨plainId_quiet PySem.MeetsSeq3.plain_eq_loop _, codeAny_builtin PySem.MeetsSeq3.entry_eq_loop (by
    rw [Around.under_plainId PySem.MeetsSeq3.plain_eq_loop _]
    exact lt_loop l b items items2 n n2 dd dd2 sl sl2 hsz as bs _ 0 rfl prog w A R _ ⟨hl, hb, he, h⟩)⟩
theorem gt_loop (l b : Addr) (items items2 : Array Value) (n n2 : Nat) (dd dd2 : Option Addr) (sl sl2 : Array (Option Value)) (hsz : items.size = items2.size) (as bs : Nat → Int) (k : Nat) :
    ∀ i : Nat, items.size - i = k → Meets (Builtin.«list.__eq__.loop» ⟨[.ref l, .ref b, rawInt i, rawInt 4], []⟩)
      (fun A R s => s.heap.get? l = some { cls := .type "list", dict := dd, data := .seq items n, slots := sl } ∧ s.heap.get? b = some { cls := .type "list", dict := dd2, data := .seq items2 n2, slots := sl2 } ∧
        (∀ j (h1 : j < items.size) (h2 : j < items2.size), ∃ t u, items[j] = .int (as j) t ∧ items2[j] = .int (bs j) u) ∧
        R (.ok (.ret (.bool (rowLt (fun x y => decide (y < x)) as bs i k)))) s) := by
  induction k with
  | zero =>
    intro i hk prog w A R s h
    obtain ⟨hp, g, d, tk, os⟩ := s; obtain ⟨hl, hb, he, h⟩ := h
    wp_walk using wpAny_loadPart' hl, wpAny_loadPart' hb
    have hi1 : items[((i : Nat) : Int).toNat]? = none := by simp; omega
    have hi2 : items2[((i : Nat) : Int).toNat]? = none := by simp; omega
    rw [hi1, hi2]
    wp_walk using wpAny_loadPart' hl, wpAny_loadPart' hb
    show R (.ok (.ret (.bool (decide (items.size > items2.size))))) _
    rw [hsz, decide_eq_false (Nat.lt_irrefl _)]
    exact h
  | succ k ih =>
    intro i hk prog w A R s h
    obtain ⟨hp, g, d, tk, os⟩ := s; obtain ⟨hl, hb, he, h⟩ := h
    wp_walk using wpAny_loadPart' hl, wpAny_loadPart' hb
    have hlt : i < items.size := by omega
    have hlt2 : i < items2.size := by omega
    obtain ⟨t, u, e1, e2⟩ := he i hlt hlt2
    have hi1 : items[((i : Nat) : Int).toNat]? = some (.int (as i) t) := by simp [hlt, e1]
    have hi2 : items2[((i : Nat) : Int).toNat]? = some (.int (bs i) u) := by simp [hlt2, e2]
    have hc : ((i : Int) + 1) = ((i + 1 : Nat) : Int) := by push_cast; rfl
    rw [hi1, hi2]
    refine wpAny_bind (EqAt.int_int (as i) t (bs i) u prog w _ _ ?_)
    by_cases z : as i = bs i
    · rw [rowLt, if_pos z] at h
      rw [show (as i == bs i) = true from beq_iff_eq.mpr z]
      wp_walk
      rw [hc]
      exact ⟨plainId_quiet PySem.MeetsSeq3.plain_eq_loop _, codeAny_builtin PySem.MeetsSeq3.entry_eq_loop (by
        rw [Around.under_plainId PySem.MeetsSeq3.plain_eq_loop _]
        exact ih (i + 1) (by omega) prog w A R _ ⟨hl, hb, he, h⟩)⟩
    · rw [rowLt, if_neg z] at h
      rw [show (as i == bs i) = false from beq_eq_false_iff_ne.mpr z]
      wp_walk using wpAny_loadPart' hl, wpAny_loadPart' hb
      rw [hi1, hi2]
      refine wpAny_bind (gt_intR ?_)
      wp_walk
      exact h
theorem list_gt (l b : Addr) (items items2 : Array Value) (n n2 : Nat) (dd dd2 : Option Addr) (sl sl2 : Array (Option Value)) (hsz : items.size = items2.size) (as bs : Nat → Int) :
    Meets (Builtin.«list.__gt__» ⟨[.ref l, .ref b], []⟩)
      (fun A R s => s.heap.get? l = some { cls := .type "list", dict := dd, data := .seq items n, slots := sl } ∧ s.heap.get? b = some { cls := .type "list", dict := dd2, data := .seq items2 n2, slots := sl2 } ∧
        (∀ j (h1 : j < items.size) (h2 : j < items2.size), ∃ t u, items[j] = .int (as j) t ∧ items2[j] = .int (bs j) u) ∧
        R (.ok (.ret (.bool (rowLt (fun x y => decide (y < x)) as bs 0 items.size)))) s) := by
  intro prog w A R s h
  obtain ⟨hp, g, d, tk, os⟩ := s; obtain ⟨hl, hb, he, h⟩ := h
  have f3 := AutoSeq1.sub_list_list
  wp_walk using wpAny_loadPart' hl, wpAny_loadPart' hb
  exact ⟨plainId_quiet PySem.MeetsSeq3.plain_eq_loop _, codeAny_builtin PySem.MeetsSeq3.entry_eq_loop (by
    rw [Around.under_plainId PySem.MeetsSeq3.plain_eq_loop _]
    exact gt_loop l b items items2 n n2 dd dd2 sl sl2 hsz as bs _ 0 rfl prog w A R _ ⟨hl, hb, he, h⟩)⟩
theorem lt_lists {prog : Program} {w : World} {A : Around} {E : Value → Shared → Prop} {s : Shared} {l b : Addr} {items items2 : Array Value} {Q : Value → Shared → Prop} (hl : s.heap.IsList l items) (hb : s.heap.IsList b items2) (hsz : items.size = items2.size) (as bs : Nat → Int) (he : ∀ j (h1 : j < items.size) (h2 : j < items2.size), ∃ t u, items[j] = .int (as j) t ∧ items2[j] = .int (bs j) u) (hu : A.units < cLine)
    (q : Q (.bool (rowLt (fun x y => decide (x < y)) as bs 0 items.size)) s) : wpAny (model prog w) A (richCompare .Lt (.ref l) (.ref b)) Q E s := by
  obtain ⟨⟨cls, dd, data, sl⟩, ho, hc, n, hd⟩ := id hl
  obtain ⟨⟨cls2, dd2, data2, sl2⟩, ho2, hc2, n2, hd2⟩ := id hb
  simp only at hc hd hc2 hd2
  subst hc hd hc2 hd2
  exact richCompare_meets_room (op := .Lt) ⟨_, ho, rfl⟩ ⟨_, ho2, rfl⟩ F.slot_list_lt F.entry_list_lt (F.args_list_lt_2 _ _) (list_lt l b items items2 n n2 dd dd2 sl sl2 hsz as bs)
    ⟨ho, ho2, he, show Value.bool _ ≠ Value.notImplemented ∧ Q (.bool _) s from ⟨(fun x => nomatch x), q⟩⟩ hu
theorem gt_lists {prog : Program} {w : World} {A : Around} {E : Value → Shared → Prop} {s : Shared} {l b : Addr} {items items2 : Array Value} {Q : Value → Shared → Prop} (hl : s.heap.IsList l items) (hb : s.heap.IsList b items2) (hsz : items.size = items2.size) (as bs : Nat → Int) (he : ∀ j (h1 : j < items.size) (h2 : j < items2.size), ∃ t u, items[j] = .int (as j) t ∧ items2[j] = .int (bs j) u) (hu : A.units < cLine)
    (q : Q (.bool (rowLt (fun x y => decide (y < x)) as bs 0 items.size)) s) : wpAny (model prog w) A (richCompare .Gt (.ref l) (.ref b)) Q E s := by
  obtain ⟨⟨cls, dd, data, sl⟩, ho, hc, n, hd⟩ := id hl
  obtain ⟨⟨cls2, dd2, data2, sl2⟩, ho2, hc2, n2, hd2⟩ := id hb
  simp only at hc hd hc2 hd2
  subst hc hd hc2 hd2
  exact richCompare_meets_room (op := .Gt) ⟨_, ho, rfl⟩ ⟨_, ho2, rfl⟩ F.slot_list_gt F.entry_list_gt (F.args_list_gt_2 _ _) (list_gt l b items items2 n n2 dd dd2 sl sl2 hsz as bs)
    ⟨ho, ho2, he, show Value.bool _ ≠ Value.notImplemented ∧ Q (.bool _) s from ⟨(fun x => nomatch x), q⟩⟩ hu
theorem rowLt_lx {as bs : List Int} (h : as.length = bs.length) : ∀ (k i : Nat), as.length - i = k → rowLt (fun x y => decide (x < y)) (fun j => as.getD j 0) (fun j => bs.getD j 0) i k = lx (as.drop i) (bs.drop i)
  | 0, i, e => by
    rw [List.drop_eq_nil_of_le (by omega), List.drop_eq_nil_of_le (by omega)]
    rfl
  | k + 1, i, e => by
    have h1 : i < as.length := by omega
    have h2 : i < bs.length := by omega
    rw [rowLt, rowLt_lx h k (i + 1) (by omega), List.drop_eq_getElem_cons h1, List.drop_eq_getElem_cons h2]
    show (if as.getD i 0 = bs.getD i 0 then _ else decide (as.getD i 0 < bs.getD i 0)) = if as[i] = bs[i] then _ else decide (as[i] < bs[i])
    rw [List.getD_eq_getElem?_getD, List.getD_eq_getElem?_getD, List.getElem?_eq_getElem h1, List.getElem?_eq_getElem h2]
    rfl
theorem rowGt_lx {as bs : List Int} (h : as.length = bs.length) : ∀ (k i : Nat), as.length - i = k → rowLt (fun x y => decide (y < x)) (fun j => as.getD j 0) (fun j => bs.getD j 0) i k = lx (bs.drop i) (as.drop i)
  | 0, i, e => by
    rw [List.drop_eq_nil_of_le (by omega), List.drop_eq_nil_of_le (by omega)]
    rfl
  | k + 1, i, e => by
    have h1 : i < as.length := by omega
    have h2 : i < bs.length := by omega
    rw [rowLt, rowGt_lx h k (i + 1) (by omega), List.drop_eq_getElem_cons h1, List.drop_eq_getElem_cons h2]
    show (if as.getD i 0 = bs.getD i 0 then _ else decide (bs.getD i 0 < as.getD i 0)) = if bs[i] = as[i] then _ else decide (bs[i] < as[i])
    rw [List.getD_eq_getElem?_getD, List.getD_eq_getElem?_getD, List.getElem?_eq_getElem h1, List.getElem?_eq_getElem h2]
    show (if as[i] = bs[i] then _ else _) = _
    by_cases z : as[i] = bs[i]
    · rw [if_pos z, if_pos z.symm]
    · rw [if_neg z, if_neg (Ne.symm z)]
      rfl
end L2
namespace L2
open PySem PySem.W PySem.Spec PyProof.Rows
def CmpGx (prog : Program) (w : World) (A : Around) (Good : Heap → Prop) (P : Nat → Value → Prop) (bt : Nat → Nat → Bool) : Prop :=
  ∀ i j vi vj (s : Shared) (Q : Value → Shared → Prop) (E : Value → Shared → Prop), Good s.heap → P i vi → P j vj → Q (.bool (bt i j)) s → wpAny (model prog w) A (richCompare .Gt vi vj) Q E s
section
variable {prog : Program} {w : World} {A : Around} {R : Result → Shared → Prop} {I : Addr} {fp wr : List Addr} {n : Nat} {P : Nat → Value → Prop} {St : Nat → Heap → Prop} {Good : Heap → Prop}
theorem max_turn (W : Walks prog w A.in1 I fp wr n P St) (bt : Nat → Nat → Bool) (hcmp : CmpGx prog w A.in1 Good P bt) (S : Addr) (hSf : S ∉ fp) (hg : ∀ h h', Good h → (∀ b o, b ∉ wr → b ≠ S → h.get? b = some o → h'.get? b = some o) → Good h') :
    ∀ (k j : Nat) (s : Shared) (vb : Value) (c : Nat), n - (j + 1) = k → j + 1 ≤ n → St (j + 1) s.heap → Good s.heap → P (argBest bt j) vb → s.heap.get? S = some { cls := .type "list", dict := none, data := .seq #[vb, vb] c, slots := #[] } →
    (∀ v h' tk, P (argBest bt (n - 1)) v → (∀ b o, b ∉ wr → b ≠ S → s.heap.get? b = some o → h'.get? b = some o) → R (.ok (.ret v)) { s with heap := h', toks := tk }) →
    codeAny (model prog w) A (.builtin "max.loop" ⟨[.ref I, .none, .ref S], []⟩) R s := by
  have nw : S ∉ wr := fun h => hSf (W.sub _ h)
  have nm : (toString "max" ++ toString ".loop" : String) = "max.loop" := by decide
  intro k
  induction k with
  | zero =>
    intro j s vb c hk hj st gd pb gS hR
    have e : j + 1 = n := by omega
    refine codeAny_builtin F.entry_max_loop ?_
    rw [Around.under_plainId F.plain_max_loop _]
    show wpAny _ A.in1 (seqItems? (.ref S) >>= _) _ _ s
    refine wpAny_bind (wpAny_seqItems gS rfl ?_)
    show wpAny _ A.in1 (tryCatch (pyNext (.ref I)) _ >>= _) _ _ s
    refine wpAny_bind (wpAny_tryCatch (W.done s _ _ (e ▸ st) fun h' tk kp => ?_))
    show wpAny _ A.in1 (updateSeq S (fun _ => #[]) >>= _) _ _ _
    refine wpAny_bind (wpAny_updateSeq (kp S _ nw gS) rfl (wpAny_bind (wpAny_letGo (wpAny_pure ?_))))
    exact hR vb _ tk (by rw [← e]; exact pb) fun b o bw bS eb => (Heap.get?_update_other _ _ (Ne.symm bS)).trans (kp b o bw eb)
  | succ k ih =>
    intro j s vb c hk hj st gd pb gS hR
    have lt : j + 1 < n := by omega
    refine codeAny_builtin F.entry_max_loop ?_
    rw [Around.under_plainId F.plain_max_loop _]
    show wpAny _ A.in1 (seqItems? (.ref S) >>= _) _ _ s
    refine wpAny_bind (wpAny_seqItems gS rfl ?_)
    show wpAny _ A.in1 (tryCatch (pyNext (.ref I)) _ >>= _) _ _ s
    refine wpAny_bind (wpAny_tryCatch (W.item (j + 1) s _ _ lt st fun v h' tk pv st' kp => ?_))
    have gS' := kp S _ nw gS
    have gd' : Good h' := hg _ _ gd fun b o bw _ eb => kp b o bw eb
    show wpAny _ A.in1 (tryCatch (holding [v, v] (richCompare .Gt v vb >>= _)) _ >>= _) _ _ _
    refine wpAny_bind (wpAny_tryCatch (wpAny_holding (wpAny_bind (hcmp (j + 1) (argBest bt j) v vb _ _ _ gd' pv pb ?_))))
    refine wpAny_bind (wpAny_holding (wpAny_truthy_bool (wpAny_bind (wpAny_letGo (wpAny_pure ?_)))))
    cases z : bt (j + 1) (argBest bt j) with
    | true =>
      simp only [if_true]
      refine wpAny_bind (wpAny_updateSeq gS' rfl (wpAny_bind (wpAny_letGo ?_)))
      rw [nm]
      have gd2 : Good (h'.update S (Obj.mapSeq fun _ => #[v, v])) := hg _ _ gd' fun b o _ bS eb => (Heap.get?_update_other _ _ (Ne.symm bS)).trans eb
      refine wpAny_pure ⟨plainId_quiet F.plain_max_loop _, ih (j + 1) _ v _ (by omega) lt (W.frame _ _ _ st' fun b bf o eb => ?_) gd2 (by simp only [argBest, z, if_true]; exact pv) (Heap.get?_update_self _ gS' rfl) fun v' h'' tk'' p2 k2 => ?_⟩
      · exact (Heap.get?_update_other _ _ (fun h : S = b => hSf (by rw [h]; exact bf))).trans eb
      · exact hR v' h'' tk'' p2 fun b o bw bS eb => k2 b o bw bS ((Heap.get?_update_other _ _ (Ne.symm bS)).trans (kp b o bw eb))
    | false =>
      simp only [Bool.false_eq_true, if_false]
      refine wpAny_bind (wpAny_letGo ?_)
      rw [nm]
      exact wpAny_pure ⟨plainId_quiet F.plain_max_loop _, ih (j + 1) _ vb c (by omega) lt st' gd' (by simp only [argBest, z, Bool.false_eq_true, if_false]; exact pb) gS' fun v' h'' tk'' p2 k2 => hR v' h'' tk'' p2 fun b o bw bS eb => k2 b o bw bS (kp b o bw eb)⟩
theorem max_first (W : Walks prog w A.in1 I fp wr n P St) (bt : Nat → Nat → Bool) (hcmp : CmpGx prog w A.in1 Good P bt) (S : Addr) (hSf : S ∉ fp) (hg : ∀ h h', Good h → (∀ b o, b ∉ wr → b ≠ S → h.get? b = some o → h'.get? b = some o) → Good h') (hn : 0 < n) {s : Shared} {c : Nat} (st : St 0 s.heap) (gd : Good s.heap)
    (gS : s.heap.get? S = some { cls := .type "list", dict := none, data := .seq #[] c, slots := #[] })
    (hR : ∀ v h' tk, P (argBest bt (n - 1)) v → (∀ b o, b ∉ wr → b ≠ S → s.heap.get? b = some o → h'.get? b = some o) → R (.ok (.ret v)) { s with heap := h', toks := tk }) :
    codeAny (model prog w) A (.builtin "max.loop" ⟨[.ref I, .none, .ref S], []⟩) R s := by
  have nw : S ∉ wr := fun h => hSf (W.sub _ h)
  have nm : (toString "max" ++ toString ".loop" : String) = "max.loop" := by decide
  refine codeAny_builtin F.entry_max_loop ?_
  rw [Around.under_plainId F.plain_max_loop _]
  show wpAny _ A.in1 (seqItems? (.ref S) >>= _) _ _ s
  refine wpAny_bind (wpAny_seqItems gS rfl ?_)
  show wpAny _ A.in1 (tryCatch (pyNext (.ref I)) _ >>= _) _ _ s
  refine wpAny_bind (wpAny_tryCatch (W.item 0 s _ _ hn st fun v h' tk pv st' kp => ?_))
  have gS' := kp S _ nw gS
  show wpAny _ A.in1 (updateSeq S (fun _ => #[v, v]) >>= _) _ _ _
  refine wpAny_bind (wpAny_updateSeq gS' rfl ?_)
  rw [nm]
  have gd' : Good (h'.update S (Obj.mapSeq fun _ => #[v, v])) := hg _ _ gd fun b o bw bS eb => (Heap.get?_update_other _ _ (Ne.symm bS)).trans (kp b o bw eb)
  refine wpAny_pure ⟨plainId_quiet F.plain_max_loop _, max_turn W bt hcmp S hSf hg _ 0 _ v _ rfl hn (W.frame _ _ _ st' fun b bf o eb => ?_) gd' pv (Heap.get?_update_self _ gS' rfl) fun v' h'' tk'' p2 k2 => ?_⟩
  · exact (Heap.get?_update_other _ _ (fun h : S = b => hSf (by rw [h]; exact bf))).trans eb
  · exact hR v' h'' tk'' p2 fun b o bw bS eb => k2 b o bw bS ((Heap.get?_update_other _ _ (Ne.symm bS)).trans (kp b o bw eb))
end
section
variable {prog : Program} {w : World} {A : Around} {E : Value → Shared → Prop} {s : Shared}
theorem max_by {l : Addr} {items : Array Value} {bt : Nat → Nat → Bool} {Q : Value → Shared → Prop} (hh : A.handled = none) (hl : s.heap.IsList l items) (hn : 0 < items.size)
    (hcmp : CmpGx prog w A.in1 (fun h => ∀ b o, s.heap.get? b = some o → h.get? b = some o) (fun i v => items[i]? = some v) bt)
    (h : ∀ v h' tk, items[argBest bt (items.size - 1)]? = some v → (∀ b o, s.heap.get? b = some o → h'.get? b = some o) → Q v { s with heap := h', toks := tk }) : wpAny (model prog w) A (call (.builtin "max") [.ref l]) Q E s := by
  have nm : (toString "max" ++ toString ".loop" : String) = "max.loop" := by decide
  have hlt : l < s.heap.objs.size := by obtain ⟨_, e, _⟩ := hl; exact Heap.lt_size e
  refine call_function_tree F.kind_max F.plain_max F.entry_max (F.args_max1 _) ?_
  show wpAny _ A.in1 (Builtin.Builtins.bindParams "max" ["key", "default"] 0 ⟨[], []⟩ >>= _) _ _ s
  refine wpAny_bind (wpAny_of_eq (show Builtin.Builtins.bindParams "max" ["key", "default"] 0 ⟨[], []⟩ = pure [none, none] from rfl) (wpAny_bind (wpAny_pure ?_)))
  refine wpAny_bind (wpAny_pyIter_list hl ?_)
  refine wpAny_bind (wpAny_newObj_type ?_)
  rw [nm]
  refine wpAny_pure ⟨plainId_quiet F.plain_max_loop _, max_first (Walks.list (A := A.in1) hh s.heap.objs.size l (Nat.ne_of_lt hlt) items) bt hcmp _ ?_ (fun h1 h2 g k b o e => ?_) hn ⟨⟨_, Heap.get?_push_of_some _ (Heap.get?_push_size _ rfl), rfl, rfl⟩, (hl.push _).push _⟩ (fun b o e => Heap.get?_push_of_some _ (Heap.get?_push_of_some _ e)) (Heap.get?_push_size _ rfl) fun v h' tk pv k => ?_⟩
  · intro hm
    rw [Heap.size_push] at hm
    simp only [List.mem_cons, List.not_mem_nil, or_false] at hm
    rcases hm with hm | hm
    · exact absurd hm (Nat.ne_of_gt (Nat.lt_succ_self _))
    · exact absurd hm (Nat.ne_of_gt (Nat.lt_succ_of_lt hlt))
  · have bl := Heap.lt_size e
    refine k b o (fun z => absurd (List.mem_singleton.mp z) (Nat.ne_of_lt bl)) (fun z => ?_) (g b o e)
    rw [Heap.size_push] at z
    exact absurd z (Nat.ne_of_lt (Nat.lt_succ_of_lt bl))
  · refine h v h' tk pv fun b o e => ?_
    have bl := Heap.lt_size e
    refine k b o (fun z => absurd (List.mem_singleton.mp z) (Nat.ne_of_lt bl)) (fun z => ?_) (Heap.get?_push_of_some _ (Heap.get?_push_of_some _ e))
    rw [Heap.size_push] at z
    exact absurd z (Nat.ne_of_lt (Nat.lt_succ_of_lt bl))
end
def LstI (K : PySem.W.Frag) (H : Hp) (v : V) (ns : List Int) : Prop := ∃ p, v = .ref p ∧ SqL K H p (ns.map V.int)
section
variable {X : Cx} {pins : List (Addr × Obj)} {σ : St} {H : Hp} {s : Shared}
theorem vals_lints : ∀ {ns : List Int} {us : List Value}, Vals (ns.map V.int) us → ∀ j (h : j < us.length), ∃ t, us[j] = .int (ns.getD j 0) t
  | [], _, .nil, j, h => absurd h (Nat.not_lt_zero _)
  | n :: ns, u :: us, .cons r rs, 0, h => by
    obtain ⟨t, e⟩ := r
    exact ⟨t, e⟩
  | n :: ns, u :: us, .cons r rs, j + 1, h => by
    obtain ⟨t, e⟩ := vals_lints rs j (Nat.lt_of_succ_lt_succ h)
    exact ⟨t, by simpa using e⟩
theorem op_ltL (hu : X.A.units + 64 < cLine) : OpR X (compareOp .Lt) (fun x y H Q => ∃ ns ms, LstI X.K H x ns ∧ LstI X.K H y ms ∧ ns.length = ms.length ∧ Q (.bl (lx ns ms)) H) := by
  intro pins s σ H x y v u Q I rx ry ⟨ns, ms, ⟨p, e1, h1⟩, ⟨q, e2, h2⟩, hl, k⟩
  subst e1 e2
  cases rx
  cases ry
  obtain ⟨i1, r1, p1, _⟩ := I.list h1
  obtain ⟨i2, r2, p2, _⟩ := I.list h2
  have l1 := r1.length
  have l2 := r2.length
  rw [List.length_map] at l1 l2
  show wpAny _ _ (richCompare .Lt (.ref p) (.ref q)) _ _ _
  refine lt_lists p1.isList p2.isList (by simp; omega) (fun j => ns.getD j 0) (fun j => ms.getD j 0) (fun j h1 h2 => ?_) (by omega) ?_
  · obtain ⟨t, e⟩ := vals_lints r1 j (by simpa using h1)
    obtain ⟨u, e'⟩ := vals_lints r2 j (by simpa using h2)
    exact ⟨t, u, by simpa using e, by simpa using e'⟩
  · refine ⟨.bl _, H, I, rfl, ?_⟩
    rw [show i1.toArray.size = ns.length by simp; omega, rowLt_lx hl ns.length 0 rfl]
    exact k

theorem call_minLL (hc : X.calm = true) (hu : X.A.units + 64 < cLine) : CallR X (.builtin "min") (fun xs H Q => ∃ (p : Addr) (us : List V) (ks : List (List Int)) (n : Nat), xs = [.ref p] ∧ SqL X.K H p us ∧ Paired (LstI X.K H) us ks ∧ (∀ k ∈ ks, k.length = n) ∧ 0 < us.length ∧
    ∀ i, i < us.length → (∀ j, j < us.length → lx (ks.getD j []) (ks.getD i []) = false) → Q (us.getD i .non) H) := by
  intro pins s σ H xs us Q I r ⟨p, us', ks, n, ex, hq, hk, hL, hn, q⟩
  subst ex
  obtain ⟨u, rfl, rx⟩ := vals1 r
  cases rx
  obtain ⟨its, rv, pl, hz⟩ := I.list hq
  have hlen := rv.length
  have kl := hk.len
  have mem : ∀ x, x < ks.length → ks.getD x [] ∈ ks := fun x hx => by rw [List.getD_eq_getElem?_getD, List.getElem?_eq_getElem hx]; exact List.getElem_mem hx
  have at1 : ∀ (i : Nat) vi, its[i]? = some vi → ∃ k1 a1 i1, ks[i]? = some k1 ∧ vi = .ref a1 ∧ s.heap.IsList a1 i1 ∧ i1.size = k1.length ∧ ∀ j (h : j < i1.size), ∃ t, i1[j] = .int (k1.getD j 0) t := fun i vi e => by
    have hi : i < its.length := (List.getElem?_eq_some_iff.mp e).1
    obtain ⟨x, e1, e2⟩ := rv.atN hi
    have e3 : its[i] = vi := (List.getElem?_eq_some_iff.mp e).2
    obtain ⟨k1, g1, a, rfl, sq⟩ := Paired.at hk e1
    obtain ⟨i1, r1, p1, _⟩ := I.list sq
    have l1 := r1.length
    rw [List.length_map] at l1
    refine ⟨k1, a, i1.toArray, g1, by rw [← e3]; exact e2, p1.isList, by simp; omega, fun j h => ?_⟩
    obtain ⟨t, z⟩ := vals_lints r1 j (by simpa using h)
    exact ⟨t, by simpa using z⟩
  refine min_by (bt := fun i j => decide (rkOf ks (ks.getD i []) < rkOf ks (ks.getD j []))) (I.ok.hd hc) pl.isList (by rw [List.size_toArray]; omega) (fun i j vi vj s' Q' E' gd pi pj c => ?_) fun v h' tk hv k => ?_
  · obtain ⟨k1, a1, i1, g1, rfl, t1, z1, w1⟩ := at1 i vi (by simpa using pi)
    obtain ⟨k2, a2, i2, g2, rfl, t2, z2, w2⟩ := at1 j vj (by simpa using pj)
    have y1 : ks.getD i [] = k1 := by rw [List.getD_eq_getElem?_getD, g1]; rfl
    have y2 : ks.getD j [] = k2 := by rw [List.getD_eq_getElem?_getD, g2]; rfl
    have m1 := List.mem_of_getElem? g1
    have m2 := List.mem_of_getElem? g2
    have ll : k1.length = k2.length := by rw [hL _ m1, hL _ m2]
    have y : (fun i j => decide (rkOf ks (ks.getD i []) < rkOf ks (ks.getD j []))) i j = lx k1 k2 := by
      show decide _ = _
      rw [y1, y2, Bool.eq_iff_iff, decide_eq_true_eq]
      exact rk_iff m1 m2
    have c : Q' (.bool (lx k1 k2)) s' := by rw [← y]; exact c
    obtain ⟨o1, b1, q1⟩ := t1
    obtain ⟨o2, b2, q2⟩ := t2
    refine lt_lists ⟨o1, gd _ _ b1, q1⟩ ⟨o2, gd _ _ b2, q2⟩ (by omega) (fun j => k1.getD j 0) (fun j => k2.getD j 0) (fun j h1 h2 => ?_) (by show X.A.units + 1 < cLine; omega) ?_
    · obtain ⟨t, e⟩ := w1 j h1
      obtain ⟨u, e'⟩ := w2 j h2
      exact ⟨t, u, e, e'⟩
    · rw [z1, rowLt_lx ll k1.length 0 rfl]
      exact c
  · obtain ⟨h1, h2⟩ := argBest_lt (fun i => rkOf ks (ks.getD i [])) (its.toArray.size - 1)
    rw [List.size_toArray] at h1 h2 hv
    obtain ⟨i, ei⟩ : ∃ i, i = argBest (fun i j => decide (rkOf ks (ks.getD i []) < rkOf ks (ks.getD j []))) (its.length - 1) := ⟨_, rfl⟩
    rw [← ei] at h1 h2 hv
    have hi : i < its.length := by omega
    obtain ⟨x, e, z⟩ := rv.atN (j := i) hi
    have hv' : its[i]? = some v := by simpa using hv
    obtain rfl : its[i] = v := (List.getElem?_eq_some_iff.mp hv').2
    refine ⟨us'.getD i .non, H, I.kept k, ?_, q i (by omega) fun j hj => ?_⟩
    · rw [List.getD_eq_getElem?_getD, e]
      exact z
    · have le := h2 j (by omega)
      cases g : lx (ks.getD j []) (ks.getD i []) with
      | false => rfl
      | true =>
        have := (rk_iff (mem j (by omega)) (mem i (by omega))).mpr g
        omega

theorem call_maxLL (hc : X.calm = true) (hu : X.A.units + 64 < cLine) : CallR X (.builtin "max") (fun xs H Q => ∃ (p : Addr) (us : List V) (ks : List (List Int)) (n : Nat), xs = [.ref p] ∧ SqL X.K H p us ∧ Paired (LstI X.K H) us ks ∧ (∀ k ∈ ks, k.length = n) ∧ 0 < us.length ∧
    ∀ i, i < us.length → (∀ j, j < us.length → lx (ks.getD i []) (ks.getD j []) = false) → Q (us.getD i .non) H) := by
  intro pins s σ H xs us Q I r ⟨p, us', ks, n, ex, hq, hk, hL, hn, q⟩
  subst ex
  obtain ⟨u, rfl, rx⟩ := vals1 r
  cases rx
  obtain ⟨its, rv, pl, hz⟩ := I.list hq
  have hlen := rv.length
  have kl := hk.len
  have mem : ∀ x, x < ks.length → ks.getD x [] ∈ ks := fun x hx => by rw [List.getD_eq_getElem?_getD, List.getElem?_eq_getElem hx]; exact List.getElem_mem hx
  have at1 : ∀ (i : Nat) vi, its[i]? = some vi → ∃ k1 a1 i1, ks[i]? = some k1 ∧ vi = .ref a1 ∧ s.heap.IsList a1 i1 ∧ i1.size = k1.length ∧ ∀ j (h : j < i1.size), ∃ t, i1[j] = .int (k1.getD j 0) t := fun i vi e => by
    have hi : i < its.length := (List.getElem?_eq_some_iff.mp e).1
    obtain ⟨x, e1, e2⟩ := rv.atN hi
    have e3 : its[i] = vi := (List.getElem?_eq_some_iff.mp e).2
    obtain ⟨k1, g1, a, rfl, sq⟩ := Paired.at hk e1
    obtain ⟨i1, r1, p1, _⟩ := I.list sq
    have l1 := r1.length
    rw [List.length_map] at l1
    refine ⟨k1, a, i1.toArray, g1, by rw [← e3]; exact e2, p1.isList, by simp; omega, fun j h => ?_⟩
    obtain ⟨t, z⟩ := vals_lints r1 j (by simpa using h)
    exact ⟨t, by simpa using z⟩
  refine max_by (bt := fun i j => decide (rkOf ks (ks.getD j []) < rkOf ks (ks.getD i []))) (I.ok.hd hc) pl.isList (by rw [List.size_toArray]; omega) (fun i j vi vj s' Q' E' gd pi pj c => ?_) fun v h' tk hv k => ?_
  · obtain ⟨k1, a1, i1, g1, rfl, t1, z1, w1⟩ := at1 i vi (by simpa using pi)
    obtain ⟨k2, a2, i2, g2, rfl, t2, z2, w2⟩ := at1 j vj (by simpa using pj)
    have y1 : ks.getD i [] = k1 := by rw [List.getD_eq_getElem?_getD, g1]; rfl
    have y2 : ks.getD j [] = k2 := by rw [List.getD_eq_getElem?_getD, g2]; rfl
    have m1 := List.mem_of_getElem? g1
    have m2 := List.mem_of_getElem? g2
    have ll : k1.length = k2.length := by rw [hL _ m1, hL _ m2]
    have y : (fun i j => decide (rkOf ks (ks.getD j []) < rkOf ks (ks.getD i []))) i j = lx k2 k1 := by
      show decide _ = _
      rw [y1, y2, Bool.eq_iff_iff, decide_eq_true_eq]
      exact rk_iff m2 m1
    have c : Q' (.bool (lx k2 k1)) s' := by rw [← y]; exact c
    obtain ⟨o1, b1, q1⟩ := t1
    obtain ⟨o2, b2, q2⟩ := t2
    refine gt_lists ⟨o1, gd _ _ b1, q1⟩ ⟨o2, gd _ _ b2, q2⟩ (by omega) (fun j => k1.getD j 0) (fun j => k2.getD j 0) (fun j h1 h2 => ?_) (by show X.A.units + 1 < cLine; omega) ?_
    · obtain ⟨t, e⟩ := w1 j h1
      obtain ⟨u, e'⟩ := w2 j h2
      exact ⟨t, u, e, e'⟩
    · rw [z1, rowGt_lx ll k1.length 0 rfl]
      exact c
  · obtain ⟨h1, h2⟩ := argBest_gt (fun i => rkOf ks (ks.getD i [])) (its.toArray.size - 1)
    rw [List.size_toArray] at h1 h2 hv
    obtain ⟨i, ei⟩ : ∃ i, i = argBest (fun i j => decide (rkOf ks (ks.getD j []) < rkOf ks (ks.getD i []))) (its.length - 1) := ⟨_, rfl⟩
    rw [← ei] at h1 h2 hv
    have hi : i < its.length := by omega
    obtain ⟨x, e, z⟩ := rv.atN (j := i) hi
    have hv' : its[i]? = some v := by simpa using hv
    obtain rfl : its[i] = v := (List.getElem?_eq_some_iff.mp hv').2
    refine ⟨us'.getD i .non, H, I.kept k, ?_, q i (by omega) fun j hj => ?_⟩
    · rw [List.getD_eq_getElem?_getD, e]
      exact z
    · have le := h2 j (by omega)
      cases g : lx (ks.getD i []) (ks.getD j []) with
      | false => rfl
      | true =>
        have := (rk_iff (mem i (by omega)) (mem j (by omega))).mpr g
        omega
end
end L2

namespace L2
open PySem PySem.W PySem.Spec PyProof.Rows
def BmIn (base : Heap) (mg : Str → Option Value) : Prop := ∃ bm o, mg "__builtins__" = some (.ref bm) ∧ bm ≠ builtinsNs ∧ base.get? bm = some o ∧ o.cls = .type "module" ∧ o.dict = some builtinsNs ∧ o.data = .plain
theorem law_callT {P : Program} {w : World} {K : PySem.W.Frag} {mg mb : Str → Option Value} {CX : CXT} {k : Nat} {fa a : Addr} {fd : FuncData} {x : Str} {sp : Sp} {s₁ : Shared} {vs : List Value} {ns : List Int} (ts : List Addr)
    (KX : K.In s₁.heap) (hts : ∀ T ∈ ts, s₁.heap.get? T = some (tabObj #[]) ∧ K.lookup T = none ∧ ∃ c, codeHdIn K c T = true) (hns : s₁.heap.Ns mainGlobals mg) (hb : s₁.heap.Ns builtinsNs mb) (hbb : ∀ x : Str, x ≠ "__name__" → mb x = bootBuiltins x) (hlim : s₁.heap.NoLimit) (hbm : BmIn s₁.heap mg) (hg : s₁.gens = #[])
    (ha : s₁.heap.get? a = some { cls := .type "list", data := .seq vs.toArray }) (hi : IntsAre vs ns) (hl : ns.length ≤ sizeLine) (hr : Room k callerA)
    (F : ∀ base : Heap, K.In base → base.Ns mainGlobals mg → BmIn base mg → FnOk P w K mg base CX k fa fd [x] sp) (hbind : ∀ (s : Shared) (u : Value), BindsTo s fd ⟨[u], []⟩ [(x, u)])
    (hsp : ∀ H : Hp, SqL K H a (ns.map V.int) → (∀ T ∈ ts, H T = some (.tbl #[])) → sp [.ref a] H (fun v _ => v = .bl true) fun _ _ _ => False)
    (hCX : ∀ H e s', CX [] H s₁ (fun _ _ _ => False) e s' → False) :
    codeAny (model P w) callerA (.call (.ref fa) ⟨[.ref a], []⟩) (fun r s' => r = .ok (.ret (.bool true)) ∧ OldK s₁.heap s'.heap ∧ s'.os = s₁.os ∧ AllBare s'.gens) s₁ := by
  have rv := vals_ints hi
  have lenV := hi.length
  have nat : a ∉ ts := fun z => by
    have e := (hts a z).1
    rw [ha] at e
    cases e
  have core : ∀ H : Hp, SqL K H a (ns.map V.int) → HOk P w H s₁.heap → (∀ b, H b = none ∨ (b = a ∧ K.lookup a = none ∧ ∃ o xs, H b = some (.frz o (.lst xs))) ∨ (b ∈ ts ∧ H b = some (.tbl #[]))) → (∀ T ∈ ts, H T = some (.tbl #[])) →
      codeAny (model P w) callerA (.call (.ref fa) ⟨[.ref a], []⟩) (fun r s' => r = .ok (.ret (.bool true)) ∧ OldK s₁.heap s'.heap ∧ s'.os = s₁.os ∧ AllBare s'.gens) s₁ := by
    intro H hS hok hO hT
    have base_of : ∀ {b : Addr} {o : Obj}, s₁.heap.get? b = some o → H b = none → (hidT s₁.heap H).get? b = some o := fun e n => hidT_get e n
    have noA : ∀ {b : Addr} {o : Obj} {es : Array DictEntry} {ep : Nat}, s₁.heap.get? b = some o → o.data = .dict es ep → H b = none := fun {b o es ep} e d => by
      rcases hO b with z | ⟨rfl, _⟩ | ⟨z, _⟩
      · exact z
      · rw [ha] at e; cases e; cases d
      · rw [(hts b z).1] at e; cases e; cases d
    have nsK : ∀ {b : Addr} {m : Str → Option Value}, s₁.heap.Ns b m → (hidT s₁.heap H).Ns b m := fun {b m} ⟨o, es, ep, e, d, r⟩ => ⟨o, es, ep, base_of e (noA e d), d, r⟩
    have hKb : K.In (hidT s₁.heap H) := fun b o e => base_of (KX b o e) (by
      rcases hO b with z | ⟨rfl, z, _⟩ | ⟨z, _⟩
      · exact z
      · rw [z] at e; cases e
      · rw [(hts b z).2.1] at e; cases e)
    have hM : Mod K mg (hidT s₁.heap H) := ⟨hKb, nsK hns, ⟨mb, nsK hb, hbb⟩, let ⟨mc, h1, h2⟩ := hlim; ⟨mc, nsK h1, h2⟩⟩
    have hB : BmIn (hidT s₁.heap H) mg := by
      obtain ⟨bm, o, b1, b2, b3, b4, b5, b6⟩ := hbm
      refine ⟨bm, o, b1, b2, base_of b3 ?_, b4, b5, b6⟩
      rcases hO bm with z | ⟨rfl, _⟩ | ⟨z, _⟩
      · exact z
      · rw [ha] at b3; cases b3; exact absurd (Value.type.inj b4) (by decide)
      · rw [(hts bm z).1] at b3; cases b3; cases b4
    have e0 : Env0 P w K mg (hidT s₁.heap H) callerA [] s₁ H := ⟨rfl, hM, fun b o e => of_hidT e, Nat.le_of_eq (hidT_size _ _), trivial, fun b hb => absurd (show b ∈ ([] : List Addr) from hb) (by simp), hok, .of_eq hg⟩
    refine codeAny_mono ((F _ hKb (nsK hns) hB).run callerA [] s₁ H ⟨[.ref a], []⟩ [.ref a] [.ref a] _ _ hr e0 (hbind s₁ (.ref a)) (.cons rfl .nil) (hsp H hS hT)) fun r s' h => ?_
    cases r with
    | error e => exact (hCX H e s' h).elim
    | ok fl =>
      cases fl with
      | next => exact False.elim h
      | brk => exact False.elim h
      | cont => exact False.elim h
      | ret u =>
        obtain ⟨v, H', os, bare, un, hok', r', q⟩ := h
        have q' : v = .bl true := q
        subst q'
        obtain rfl : u = Value.bool true := r'
        have kept : ∀ b o, s₁.heap.get? b = some o → b ∉ ts → s'.heap.get? b = some o := fun b o e nb => by
          rcases hO b with z | ⟨rfl, _, ob, xs, z⟩ | ⟨z, _⟩
          · exact un.keep b o e z (by intro z; exact absurd (show b ∈ ([] : List Addr) from z) (by simp)) (by simp)
          · have z2 := un.frzs _ ob _ z
            obtain ⟨e1, _⟩ := hok _ _ z
            obtain ⟨e2, _⟩ := hok' _ _ z2
            rw [e] at e1; cases e1
            exact e2
          · exact absurd z nb
        refine ⟨rfl, ⟨fun b o e => ?_, fun b o e => ?_⟩, os, bare⟩
        · by_cases nb : b ∈ ts
          · obtain ⟨g, _, c, hc⟩ := hts b nb
            obtain ⟨more, z2⟩ := un.tbls b _ (hT b nb)
            have g2 : s'.heap.get? b = some { cls := .none, data := .fields (#[] ++ more) } := hok' _ _ z2
            rw [g] at e; cases e
            exact .inr (.inl ⟨((codeHd_of_K KX hc).tab g).isCodeTable, rfl, #[], more, rfl, g2⟩)
          · exact .inl (kept b o e nb)
        · by_cases nb : b ∈ ts
          · obtain ⟨more, z2⟩ := un.tbls b _ (hT b nb)
            exact ⟨_, hok' _ _ z2⟩
          · exact ⟨o, kept b o e nb⟩
  have tb : ∀ T ∈ ts, ∀ H : Hp, H T = some (.tbl #[]) → ∀ u, H T = some u → ObjOk P w H s₁.heap T u := fun T hT H e u e' => by
    rw [e] at e'; cases e'
    exact (hts T hT).1
  cases hk : K.lookup a with
  | some o =>
    have e := KX a o hk
    rw [ha] at e
    cases e
    refine core (fun b => if b ∈ ts then some (.tbl #[]) else none) (.inr ⟨_, vs.toArray, _, hk, rfl, rfl, rfl, by rw [List.size_toArray, lenV]; exact hl, by simpa using rv⟩) (fun b u z => ?_) (fun b => ?_) fun T hT => if_pos hT
    · by_cases hb' : b ∈ ts
      · exact tb b hb' _ (if_pos hb') u z
      · have z' := (if_neg hb').symm.trans z
        cases z'
    · by_cases hb' : b ∈ ts
      · exact .inr (.inr ⟨hb', if_pos hb'⟩)
      · exact .inl (if_neg hb')
  | none =>
    refine core (fun b => if b = a then some (.frz { cls := .type "list", data := .seq vs.toArray } (.lst (ns.map V.int))) else if b ∈ ts then some (.tbl #[]) else none) (.inl (.inr ⟨{ cls := .type "list", data := .seq vs.toArray }, if_pos rfl⟩)) (fun b u z => ?_) (fun b => ?_) fun T hT => ?_
    · by_cases hb' : b = a
      · have z' := (if_pos hb').symm.trans z
        cases z'
        subst hb'
        exact ⟨ha, by rw [List.length_map]; exact hl, vs, _, rv, ha⟩
      · by_cases hb2 : b ∈ ts
        · exact tb b hb2 _ ((if_neg hb').trans (if_pos hb2)) u z
        · have z' := ((if_neg hb').trans (if_neg hb2)).symm.trans z
          cases z'
    · by_cases hb' : b = a
      · exact .inr (.inl ⟨hb', hk, _, _, if_pos hb'⟩)
      · by_cases hb2 : b ∈ ts
        · exact .inr (.inr ⟨hb2, (if_neg hb').trans (if_pos hb2)⟩)
        · exact .inl ((if_neg hb').trans (if_neg hb2))
    · have : T ≠ a := fun z => nat (z ▸ hT)
      exact (if_neg this).trans (if_pos hT)
theorem walk_ofT {l : PySem.W.OpenLaw} {n k : Nat} {q : Program} {loose : List Str} {XP : (Str → Option Value) → Heap → Prop} {YP : World → Heap → Prop} {d : DefRec} {K : Params → PySem.W.Frag} {CX : World → CXT} {sp : World → Sp} {x : Str} (ts : List Addr)
    (hn : l.most = some n) (hn2 : n ≤ sizeLine) (hdf : d.params.defaults = []) (hr : Room k callerA)
    (hY : ∀ (w : World) (h : Heap), YP w h → (K w.params).In h ∧ ∀ T ∈ ts, h.get? T = some (tabObj #[])) (hT : ∀ w : World, ∀ T ∈ ts, (K w.params).lookup T = none ∧ ∃ c, codeHdIn (K w.params) c T = true)
    (F : ∀ (w : World) (mg : Str → Option Value) (fa : Addr) (h : Heap), (K w.params).In h → h.Ns mainGlobals mg → mg d.name = some (.ref fa) →
      ∃ fd : FuncData, (∀ (s : Shared) (u : Value), BindsTo s fd ⟨[u], []⟩ [(x, u)]) ∧
        ∀ base : Heap, (K w.params).In base → base.Ns mainGlobals mg → BmIn base mg → FnOk l.prog w (K w.params) mg base (CX w) k fa fd [x] (sp w))
    (hsp : ∀ (w : World) (H : Hp) (a : Addr) (ns : List Int), ns.length ≤ n → SqL (K w.params) H a (ns.map V.int) → (∀ T ∈ ts, H T = some (.tbl #[])) → sp w [.ref a] H (fun v _ => v = .bl true) fun _ _ _ => False)
    (hCX : ∀ (w : World) (H : Hp) (s : Shared) (e : Value) (s' : Shared), CX w [] H s (fun _ _ _ => False) e s' → False) :
    PySem.W.WalkO q loose XP YP l.row.toRowW d [] (fun f vs => PySem.call f vs) := by
  refine Att.attach_call hn hdf fun w s₀ s₁ mg mb fa o pm cd doc a vs ns G Y ho hd hcd hmg hobj hints hlen hg => ?_
  obtain ⟨KX, KT⟩ := hY w _ Y
  obtain ⟨fd, hb, hF⟩ := F w mg fa _ KX G.T.g hmg
  exact law_callT ts KX (fun T h => ⟨KT T h, hT w T h⟩) G.T.g G.T.b G.T.builtins G.T.nolimit (let ⟨bm, ob, b1, b2, b3, b4, b5, b6⟩ := G.T.bmain; ⟨bm, ob, b1, b2, b3, b4, b5, b6⟩) hg hobj hints (Nat.le_trans hlen hn2) hr hF hb (fun H hS hH => hsp w H a ns hlen hS hH) fun H e s' => hCX w H s₁ e s'
end L2

namespace L2
open PySem PySem.W PySem.Spec PyProof.Rows
structure FunT (K : PySem.W.Frag) (x qual : Str) (st : Stmt) (c f : Addr) (fd : FuncData) : Prop where
  ex : ∃ (oc : Value) (od : Option Addr) (kV doc pm : Value) (an : Option Addr) (ct : Value) (osl : Array (Option Value)),
    fd = PySem.W.fnOf x qual (defArgs st) (defBody st) (defScope st) .none kV doc pm an (.ref c) ct ∧ K.lookup f = some ⟨oc, od, .func fd, osl⟩ ∧ PySem.W.codeIn K (.ref c) qual = true
section
variable {P : Program} {w : World} {K : PySem.W.Frag} {mg : Str → Option Value} {base : Heap}
theorem FunT.mk' {x qual : Str} {st : Stmt} {c f : Addr} {oc : Value} {od an : Option Addr} {osl : Array (Option Value)} {kV doc pm ct : Value} (l : K.lookup f = some ⟨oc, od, .func (PySem.W.fnOf x qual (defArgs st) (defBody st) (defScope st) .none kV doc pm an (.ref c) ct), osl⟩)
    (h : PySem.W.codeIn K (.ref c) qual = true) : FunT K x qual st c f (PySem.W.fnOf x qual (defArgs st) (defBody st) (defScope st) .none kV doc pm an (.ref c) ct) := ⟨⟨oc, od, kV, doc, pm, an, ct, osl, rfl, l, h⟩⟩
theorem FunT.okE {x qual : Str} {st : Stmt} {c f : Addr} {fd : FuncData} {N ps : List Str} {k : Nat} {sp : Sp} (F : FunT K x qual st c f fd) (S : FnScope N ps (defScope st)) (len : ∀ vs H Q E, sp vs H Q E → vs.length = ps.length)
    (hbody : ∀ (A : Around) (outer : List Env) (s : Shared) (H : Hp) (vs : List V) (Q : VK) (E : XK), Room k (A.deeper (envOfC qual (defScope st) s.heap.objs.size f (.ref c))) → sp vs H Q E →
      ∃ t, PSs (cxOf (CXe P w) P w K mg base N qual (defScope st) f (.ref c) A outer s H E) (defBody st) t ∧ t { nx := fun _ H' => Q .non H', rt := Q } (start N vs) H) : FnOk P w K mg base (CXe P w) (k + 1) f fd ps sp := by
  obtain ⟨oc, od, kV, doc, pm, an, ct, osl, rfl, lk, hcd⟩ := F.ex
  exact fn_of lk hcd S len fun A outer s H vs Q E hr hsp => hbody A outer s H vs Q E hr hsp
theorem FunT.ok0 {x qual : Str} {st : Stmt} {c f : Addr} {fd : FuncData} {N ps : List Str} {k : Nat} {sp : Sp} (F : FunT K x qual st c f fd) (S : FnScope N ps (defScope st)) (len : ∀ vs H Q E, sp vs H Q E → vs.length = ps.length)
    (hbody : ∀ (A : Around) (outer : List Env) (s : Shared) (H : Hp) (vs : List V) (Q : VK) (E : XK), Room k (A.deeper (envOfC qual (defScope st) s.heap.objs.size f (.ref c))) → sp vs H Q E →
      ∃ t, PSs (cxOf CX0 P w K mg base N qual (defScope st) f (.ref c) A outer s H E).nox (defBody st) t ∧ t { nx := fun _ H' => Q .non H', rt := Q } (start N vs) H) : FnOk P w K mg base CX0 (k + 1) f fd ps sp := by
  obtain ⟨oc, od, kV, doc, pm, an, ct, osl, rfl, lk, hcd⟩ := F.ex
  refine fn_of lk hcd S len fun A outer s H vs Q E hr hsp => ?_
  obtain ⟨t, h, q⟩ := hbody A outer s H vs Q E hr hsp
  exact ⟨t, h.nox, q⟩
def spLawT (K : PySem.W.Frag) (ts : List Addr) : Sp := fun vs H Q _ => ∃ (a : Addr) (ns : List Int), vs = [.ref a] ∧ SqL K H a (ns.map V.int) ∧ ns.length ≤ 63 ∧ (∀ T ∈ ts, H T = some (.tbl #[])) ∧ ∀ H', Q (.bl true) H'
end
def TyIns (K : PySem.W.Frag) (C : Addr) : Prop := PySem.W.findIn K (.ref C) "__class__" = some (some (.builtin "object.__class__")) ∧ PySem.W.specialIn K (.builtin "object.__class__") "__get__" = some (some (.builtin "getset_descriptor.__get__")) ∧ PySem.W.takesIn K (.builtin "object.__class__") = some true ∧ PySem.W.mroIn K C (.type "object") = some true
theorem TyIns.ty {K : PySem.W.Frag} {H : Hp} {a C dx : Addr} {fs : List (Str × V)} (h : TyIns K C) (cl : Cls K C) (e : H a = some (.ins C dx fs)) : KndT K H (.ref a) (.ref C) := .inl (.ins e cl h.1 h.2.1 h.2.2.1 h.2.2.2)
end L2

namespace L2
open PySem PySem.W PySem.Spec PyProof.Rows
def fnOb (fd : FuncData) : Obj := { cls := .type "function", data := .func fd }
def fnO (f : Addr) (fd : FuncData) : HO := .ext fun h => h.get? f = some (fnOb fd)
def cdO (c : Addr) (q : Str) : HO := .ext fun h => ∃ o vs t, h.get? c = some o ∧ o.data = .fields vs ∧ vs[1]? = some (.str q t)
theorem fnO_ok {P : Program} {w : World} {H : Hp} {h : Heap} {f : Addr} {fd : FuncData} (e : h.get? f = some (fnOb fd)) : ObjOk P w H h f (fnO f fd) := ⟨e, ⟨_, e⟩, fun _ _ a b => b _ a⟩
theorem cdO_ok {P : Program} {w : World} {H : Hp} {h : Heap} {c : Addr} {q : Str} (e : h.CodeRec (.ref c) q) : ObjOk P w H h c (cdO c q) := by
  obtain ⟨c', o, vs, t, e0, e1, e2, e3⟩ := e
  cases e0
  exact ⟨⟨o, vs, t, e1, e2, e3⟩, ⟨_, e1⟩, fun _ _ ⟨o, vs, t, a, b⟩ k => ⟨o, vs, t, k _ a, b⟩⟩
theorem fnO_at {P : Program} {w : World} {H : Hp} {h : Heap} {f : Addr} {fd : FuncData} (ok : HOk P w H h) (e : H f = some (fnO f fd)) : h.get? f = some (fnOb fd) := (ok f _ e).1
theorem cdO_at {P : Program} {w : World} {H : Hp} {h : Heap} {c : Addr} {q : Str} (ok : HOk P w H h) (e : H c = some (cdO c q)) : h.CodeRec (.ref c) q :=
  let ⟨o, vs, t, a, b⟩ := (ok c _ e).1
  ⟨c, o, vs, t, rfl, a, b⟩
def tLamS (T : Addr) (pos : Pos) (qual : Str) (params : Arguments) (body : Expr) (scope : Scope) (pm : Value) : TE := fun σ H Q => ∃ ps, H T = some (.tbl ps) ∧ TriplesOk ps.toList ∧ codeAmong pos ps.toList = none ∧
  ∀ (f c' : Addr) (ctv : Value), H f = none → H c' = none → f ≠ c' → Q (.ref f) (upd (upd (upd H T (.tbl (ps ++ #[rawInt pos.line, rawInt pos.col, .ref c']))) c' (cdO c' qual)) f (fnO f (kla_fn "<lambda>" qual params body scope [] pm (.ref c') ctv)))
theorem pe_lamS {X : Cx} {c T : Addr} {params : Arguments} {body : Expr} {scope : Scope} {pos : Pos} (hcode : X.env.code = .ref c) (hcd : codeHdIn X.K c T = true) (B : BmIn X.base X.mg) (hcl : closureFor scope X.env = pure []) (hdef : defaultsOf params X.env = ([], [])) :
    PE X (.Lambda params body scope pos) (tLamS T pos (X.env.qual ++ "<lambda>") params body scope ((X.mg "__name__").getD .none)) := by
  intro pins s σ H Q I ⟨ps, hT, ht, hnf, q⟩
  have hP : s.heap.get? T = some (tabObj ps) := I.hok T _ hT
  have hgs : s.heap.Ns mainGlobals X.mg := I.ok.mod.glob.keeps I.bk
  obtain ⟨bm, ob, b1, b2, b3, b4, b5, b6⟩ := B
  have b3' := I.bk _ _ b3
  have hgP : mainGlobals ≠ T := fun z => by
    obtain ⟨o, es, ep, e, hd, _⟩ := hgs
    rw [z, hP] at e; cases e; cases hd
  have hbP : bm ≠ T := fun z => by rw [z, hP] at b3'; cases b3'; cases b4
  have hbG : bm ≠ mainGlobals := fun z => by
    obtain ⟨o, es, ep, e, hd, _⟩ := hgs
    rw [z, e] at b3'; cases b3'; rw [hd] at b6; cases b6
  refine kla_eval hdef (kla_makeFunction (clos := []) hcl I.ok.glob hgs hcode (codeHd_of_K I.kIn hcd) hP ht hnf hgP ⟨bm, ob, b1, b2, hbG, hbP, b3', b4, b5, b6⟩ fun c' ctv h' tk hx hge hlt hrec htb => ?_)
  have trk : ∀ b u, s.heap.get? b = some u → b ≠ T → ∀ o, (h'.push o).get? b = some u := fun b u e n o => Heap.get?_push_of_some _ (hx b u n e)
  have sz : s.heap.objs.size ≤ h'.objs.size := Nat.le_trans hge (Nat.le_of_lt hlt)
  have nF : H h'.objs.size = none := I.hok.fresh sz
  have nC : H c' = none := I.hok.fresh hge
  have fc : h'.objs.size ≠ c' := Nat.ne_of_gt hlt
  have other : ∀ {b : Addr}, b ≠ T → b ≠ c' → b ≠ h'.objs.size → ∀ u : HO, (upd (upd (upd H T (.tbl (ps ++ #[rawInt pos.line, rawInt pos.col, .ref c']))) c' (cdO c' (X.env.qual ++ "<lambda>"))) h'.objs.size (fnO h'.objs.size (kla_fn "<lambda>" (X.env.qual ++ "<lambda>") params body scope [] ((X.mg "__name__").getD .none) (.ref c') ctv))) b = H b := fun {b} z1 z2 z3 _ => by
    rw [upd_ne z3, upd_ne z2, upd_ne z1]
  refine ⟨.ref h'.objs.size, _, ?_, rfl, q _ c' ctv nF nC fc⟩
  refine I.un (t' := tk) ⟨fun b o e n _ _ => trk b o e (ne_of_none hT n).symm _, fun b o e n _ _ => ⟨o.slots, trk b o e (ne_of_none hT n).symm _⟩, fun b o e n _ => ?_, fun b o e _ => ?_, fun b xs e => ?_, fun b o u e => ?_, fun b qs e => ?_⟩ fun b u e => ?_
  · have hb : b < s.heap.objs.size := Heap.lt_size e
    rw [other (ne_of_none hT n).symm (Nat.ne_of_lt (Nat.lt_of_lt_of_le hb hge)) (Nat.ne_of_lt (Nat.lt_of_lt_of_le hb sz)) (.lst [])]
    exact n
  · by_cases z : b = T
    · subst z; exact ⟨_, Heap.get?_push_of_some _ htb⟩
    · exact ⟨o, trk b o e z _⟩
  · rw [other (fun z => by rw [z, hT] at e; cases e) (ne_of_none e nC) (ne_of_none e nF) (.lst [])]; exact e
  · rw [other (fun z => by rw [z, hT] at e; cases e) (ne_of_none e nC) (ne_of_none e nF) (.lst [])]; exact e
  · by_cases z : b = T
    · subst z
      rw [hT] at e; cases e
      refine ⟨#[rawInt pos.line, rawInt pos.col, .ref c'], ?_⟩
      rw [upd_ne (ne_of_none hT nF), upd_ne (ne_of_none hT nC)]
      exact upd_same
    · exact ⟨#[], by rw [other z (ne_of_none e nC) (ne_of_none e nF) (.lst []), e]; simp⟩
  · by_cases z3 : b = h'.objs.size
    · subst z3
      rw [upd_same] at e; cases e
      exact fnO_ok (Heap.get?_push_size _ rfl)
    · by_cases z2 : b = c'
      · subst z2
        rw [upd_ne z3, upd_same] at e; cases e
        exact cdO_ok (hrec.push _)
      · by_cases z : b = T
        · subst z
          rw [upd_ne z3, upd_ne z2, upd_same] at e; cases e
          exact Heap.get?_push_of_some _ htb
        · rw [other z z2 z3 (.lst [])] at e
          refine (I.hok b u e).stay (fun d v hd r => trk d v r (fun y => ?_) _) (fun d r => ?_) fun d xs r => ?_
          · rcases hd with hd | hd
            · exact z (hd ▸ y)
            · rw [y, hT] at hd; cases hd
          · rw [other (fun y => by rw [y, hT] at r; cases r) (ne_of_none r nC) (ne_of_none r nF) (.lst [])]; exact r
          · rw [other (fun y => by rw [y, hT] at r; cases r) (ne_of_none r nC) (ne_of_none r nF) (.lst [])]; exact r
theorem fn_ofL {CX : CXT} {P : Program} {w : World} {K : PySem.W.Frag} {mg : Str → Option Value} {base : Heap} {k : Nat} {f c : Addr} {name qual : Str} {params : Arguments} {body : Expr} {scope : Scope} {pm ct : Value} {N ps : List Str} {sp : Sp} (S : FnScope N ps scope)
    (len : ∀ vs H Q E, sp vs H Q E → vs.length = ps.length) (hf : ∀ vs H Q E, sp vs H Q E → H f = some (fnO f (kla_fn name qual params body scope [] pm (.ref c) ct)) ∧ H c = some (cdO c qual))
    (hbody : ∀ (A : Around) (outer : List Env) (s : Shared) (H : Hp) (vs : List V) (Q : VK) (E : XK), Room k (A.deeper (envOfC qual scope s.heap.objs.size f (.ref c))) → sp vs H Q E →
      ∃ t, PE (cxOf CX P w K mg base N qual scope f (.ref c) A outer s H E) body t ∧ t (start N vs) H Q) :
    FnOk P w K mg base CX (k + 1) f (kla_fn name qual params body scope [] pm (.ref c) ct) ps sp := by
  refine ⟨len, fun A outer s H args us vs Q E hr e0 hb r hsp => ?_⟩
  have hl := len _ _ _ _ hsp
  have KX : K.In s.heap := e0.mod.kin.keeps fun b o e => (e0.bs b o e).1
  have lim : s.heap.NoLimit := e0.mod.nolimit.keeps fun b o e => (e0.bs b o e).1
  have hkind : ∀ y ∈ ps.zip us, scope.names.lookup y.1 = some .local ∨ (scope.names.lookup y.1 = some .cell ∧ ((cellsFrom (s.heap.objs.size + 1) scope.names []).lookup y.1).isSome = true) := fun ⟨n, v⟩ hy => by
    rcases S.par n (List.of_mem_zip hy).1 with q | q
    · exact .inl q
    · exact .inr ⟨q, PySem.W.cellsFrom_some _ _ _ (.inl q)⟩
  obtain ⟨hf1, hc1⟩ := hf _ _ _ _ hsp
  refine kla_callFunE hr.depth (fnO_at e0.hok hf1) rfl S.co S.gen rfl (cdO_at e0.hok hc1) (hb _ _ _ _ ?_)
  refine wpAny_newFunctionEnv_cells S.kind hkind fun env he s1 x => ?_
  subst he
  refine ⟨lim.keeps x.toInCall.keep, kla_codeExpr ?_⟩
  obtain ⟨t, ht, hq⟩ := hbody A outer s H vs Q E (hr.deeper _) hsp
  have I : Inv (cxOf CX P w K mg base N qual scope f (.ref c) A outer s H E) [] (start N vs) H s1 := inv_start S hr.hd e0 hl r x
  exact wpAny_mono (ht [] s1 (start N vs) H _ I hq) (fun u s' ⟨v, H', J, rv, q⟩ => ⟨v, H', J.os, J.bare, J.base, J.hok, rv, q⟩) fun e s' hs => hs
def tCallV (P : Program) (w : World) (K : PySem.W.Frag) (mg : Str → Option Value) (base : Heap) (CX : CXT) (kk : Nat) (E : XK) (ta : TE) (t : TA) : TE := fun σ H Q => ta σ H fun v H0 => ∃ f fd, v = .ref f ∧ t σ H0 fun vs H1 =>
  H1 f = some (fnO f fd) ∧ ∃ k ps sp, FnOk P w K mg base CX k f fd ps sp ∧ k ≤ kk ∧ Binds K fd ps [] ∧ sp vs H1 Q E
theorem pe_callV {X : Cx} {CX : CXT} {kk : Nat} {E : XK} {x : Str} {p pos : Pos} {e : Expr} {es : List Expr} {ta : TE} {t : TA} (hv : PE X (.Name x p) ta) (hr : Room kk X.A) (hx : Passes CX X E) (ha : PA X (e :: es) t)
    (he : starEach (e :: es) X.env = (false, eval e X.env) :: starEach es X.env := by rfl) (hpl : (backTo pos (starEach es X.env)).any (·.1) = false := by rfl) :
    PE X (.Call (.Name x p) (e :: es) [] pos) (tCallV X.prog X.w X.K X.mg X.base CX kk E ta t) := by
  intro pins s σ H Q I h
  refine wpAny_Call_Name_kw (thn (hv pins s σ H _ I h) fun u s0 ⟨v, H0, I0, r0, f, fd, e1, q⟩ => ?_)
  subst e1
  cases r0
  have ha' := ha pos pins s0 σ H0 _ I0 q
  show wpAny _ _ (callWith pos (.ref f) [] (backTo pos (starEach (e :: es) X.env)) []) _ _ _
  rw [he] at ha' ⊢
  refine Calls.callWith_function (o := fnOb fd) (fd := fd) (Calls.evalArgs_plain (thn ha' fun us s1 ⟨vs, H1, I1, r, hf, k, ps, sp, F, hk, hb, q⟩ => ⟨⟨fnO_at I1.hok hf, rfl⟩, ?_⟩))
  have := run_fn (F.mono hk) hr hb .nil hx I1 r (by rw [List.append_nil]; exact q)
  exact this
end L2

namespace L2
open PySem PySem.W PySem.Spec PyProof.Rows
def tLamH (T : Addr) (pos : Pos) (qual : Str) (params : Arguments) (body : Expr) (scope : Scope) (pm : Value) : TE := fun σ H Q => ∃ ps c', H T = some (.tbl ps) ∧ TriplesOk ps.toList ∧ codeAmong pos ps.toList = some (.ref c') ∧
  ∀ (f : Addr) (ctv : Value), H f = none → Q (.ref f) (upd H f (fnO f (kla_fn "<lambda>" qual params body scope [] pm (.ref c') ctv)))
theorem pe_lamH {X : Cx} {c T : Addr} {params : Arguments} {body : Expr} {scope : Scope} {pos : Pos} (hcode : X.env.code = .ref c) (hcd : codeHdIn X.K c T = true) (B : BmIn X.base X.mg) (hcl : closureFor scope X.env = pure []) (hdef : defaultsOf params X.env = ([], [])) :
    PE X (.Lambda params body scope pos) (tLamH T pos (X.env.qual ++ "<lambda>") params body scope ((X.mg "__name__").getD .none)) := by
  intro pins s σ H Q I ⟨ps, c', hT, ht, hnf, q⟩
  have hP : s.heap.get? T = some (tabObj ps) := I.hok T _ hT
  have hgs : s.heap.Ns mainGlobals X.mg := I.ok.mod.glob.keeps I.bk
  obtain ⟨bm, ob, b1, b2, b3, b4, b5, b6⟩ := B
  have b3' := I.bk _ _ b3
  have hbP : bm ≠ T := fun z => by rw [z, hP] at b3'; cases b3'; cases b4
  have hbG : bm ≠ mainGlobals := fun z => by
    obtain ⟨o, es, ep, e, hd, _⟩ := hgs
    rw [z, e] at b3'; cases b3'; rw [hd] at b6; cases b6
  refine kla_eval hdef (kla_makeFunctionHit (clos := []) hcl I.ok.glob hgs hcode (codeHd_of_K I.kIn hcd) hP ht hnf ⟨bm, ob, b1, b2, hbG, hbP, b3', b4, b5, b6⟩ fun ctv h' tk hx sz => ?_)
  have trk : ∀ b u, s.heap.get? b = some u → ∀ o, (h'.push o).get? b = some u := fun b u e o => Heap.get?_push_of_some _ (hx b u e)
  have nF : H h'.objs.size = none := I.hok.fresh sz
  refine ⟨.ref h'.objs.size, _, ?_, rfl, q _ ctv nF⟩
  refine I.un (t' := tk) ⟨fun b o e n _ _ => trk b o e _, fun b o e n _ _ => ⟨o.slots, trk b o e _⟩, fun b o e n _ => ?_, fun b o e _ => ⟨o, trk b o e _⟩, fun b xs e => ?_, fun b o u e => ?_, fun b qs e => ?_⟩ fun b u e => ?_
  · rw [upd_ne (Nat.ne_of_lt (Nat.lt_of_lt_of_le (Heap.lt_size e) sz))]
    exact n
  · rw [upd_ne (ne_of_none e nF)]; exact e
  · rw [upd_ne (ne_of_none e nF)]; exact e
  · exact ⟨#[], by rw [upd_ne (ne_of_none e nF), e]; simp⟩
  · by_cases z3 : b = h'.objs.size
    · subst z3
      rw [upd_same] at e; cases e
      exact fnO_ok (Heap.get?_push_size _ rfl)
    · rw [upd_ne z3] at e
      refine (I.hok b u e).stay (fun d v hd r => trk d v r _) (fun d r => ?_) fun d xs r => ?_
      · rw [upd_ne (ne_of_none r nF)]; exact r
      · rw [upd_ne (ne_of_none r nF)]; exact r
end L2

namespace L2
open PySem PySem.W PySem.Spec PyProof.Rows
theorem lc_zipX {K : PySem.W.Frag} {l1 l2 : Addr} {xs ys : List V} {D : Addr} {H2 : Hp} {g : TG} {tc : TT} {te : TE} {σ0 : St} {R : Hp → Prop} (Pv : Nat → Hp → Prop) (h0 : Pv 0 H2) (hl : ∀ i H, Pv i H → SqL K H l1 xs ∧ SqL K H l2 ys) (hle : xs.length = ys.length)
    (hs : ∀ (i : Nat) x y T H, xs[i]? = some x → ys[i]? = some y → Pv i H → H T = none → g (.ref T) σ0 (upd H T (.tup [x, y])) fun σ5 H5 => tc σ5 H5 fun b H6 => if b = true then te σ5 H6 (fun v H7 => ∃ vs, H7 D = some (.lst vs) ∧ vs.length < sizeLine ∧ Pv (i + 1) (upd H7 D (.lst (vs ++ [v])))) else Pv (i + 1) H6) (hd : ∀ H, Pv xs.length H → R H) :
    ∃ W : Nat → Nat → Hp → Prop, (∃ m, W 0 m H2) ∧ ∀ i m H3, W i m H3 → ((Itz K l1 l2).stop i H3 ∧ R H3) ∨
      ((Itz K l1 l2).go i H3 ∧ ∃ N : Hp → Prop, (∀ H', N H' → ∃ m', m' < m ∧ W (i + 1) m' H') ∧ ∀ x H4, (Itz K l1 l2).yld i H3 x H4 → g x σ0 H4 fun σ5 H5 => tc σ5 H5 fun b H6 =>
        if b = true then te σ5 H6 (fun v H7 => ∃ vs, H7 D = some (.lst vs) ∧ vs.length < sizeLine ∧ N (upd H7 D (.lst (vs ++ [v])))) else N H6) := by
  refine ⟨fun i m H => m = xs.length - i ∧ i ≤ xs.length ∧ Pv i H, ⟨xs.length, by simp, Nat.zero_le _, h0⟩, ?_⟩
  rintro i m H ⟨rfl, hi, p⟩
  obtain ⟨q1, q2⟩ := hl i H p
  by_cases hlt : i < xs.length
  · have e1 : xs[i]? = some xs[i] := List.getElem?_eq_getElem hlt
    have e2 : ys[i]? = some (ys[i]'(by omega)) := List.getElem?_eq_getElem (by omega)
    refine .inr ⟨⟨xs, ys, _, _, q1, q2, e1, e2⟩, Pv (i + 1), fun H' z => ⟨xs.length - (i + 1), by omega, rfl, by omega, z⟩, ?_⟩
    rintro v H4 ⟨T, x, y, rfl, nT, rfl, z1, z2⟩
    exact hs i x y T H (z1 _ q1) (z2 _ q2) p nT
  · obtain rfl : i = xs.length := by omega
    exact .inl ⟨⟨xs, ys, q1, q2, .inl (Nat.le_refl _)⟩, hd _ p⟩
theorem cut_m1 {xs : List V} (h : 1 ≤ xs.length) : cutV xs none (some (-1)) = xs.take (xs.length - 1) := by
  unfold cutV
  rw [show HT.sIx xs.length 0 none = 0 from rfl, List.drop_zero, Nat.sub_zero]
  have e : HT.sIx xs.length xs.length (some (-1)) = xs.length - 1 := by
    unfold HT.sIx
    simp only
    split <;> omega
  rw [e]
theorem cut_l1 {xs : List V} (h : 1 ≤ xs.length) : cutV xs (some (-1)) none = xs.drop (xs.length - 1) := by
  unfold cutV
  have e : HT.sIx xs.length 0 (some (-1)) = xs.length - 1 := by
    unfold HT.sIx
    simp only
    split <;> omega
  rw [e, show HT.sIx xs.length xs.length none = xs.length from rfl]
  exact List.take_of_length_le (by rw [List.length_drop]; omega)
section
variable {X : Cx}
theorem range_all {ns ms : List Int} (hl : ns.length = ms.length) : (List.range ns.length).all (fun j => ns.getD j 0 == ms.getD j 0) = decide (ns = ms) := by
  rw [Bool.eq_iff_iff, decide_eq_true_eq, List.all_eq_true]
  constructor
  · intro h
    refine List.ext_getElem hl fun i h1 h2 => ?_
    have z := h i (List.mem_range.mpr h1)
    rw [beq_iff_eq, List.getD_eq_getElem?_getD, List.getD_eq_getElem?_getD, List.getElem?_eq_getElem h1, List.getElem?_eq_getElem h2] at z
    exact z
  · rintro rfl j _
    exact beq_self_eq_true _
theorem op_eqLI (hu : X.A.units + 64 < cLine) : OpR X (compareOp .Eq) (fun x y H Q => ∃ ns ms, LstI X.K H x ns ∧ LstI X.K H y ms ∧ ns.length = ms.length ∧ Q (.bl (decide (ns = ms))) H) := by
  intro pins s σ H x y v u Q I rx ry ⟨ns, ms, ⟨p, e1, h1⟩, ⟨q, e2, h2⟩, hl, k⟩
  subst e1 e2
  cases rx
  cases ry
  obtain ⟨i1, r1, p1, _⟩ := I.list h1
  obtain ⟨i2, r2, p2, _⟩ := I.list h2
  have l1 := r1.length
  have l2 := r2.length
  rw [List.length_map] at l1 l2
  show wpAny _ _ (richCompare .Eq (.ref p) (.ref q)) _ _ _
  refine SeqAt.RcAt.lists (e := fun j => ns.getD j 0 == ms.getD j 0) p1.isList p2.isList (by simp; omega) (by omega) (fun j h1 h2 => ?_) X.prog X.w _ _ ?_
  · obtain ⟨t, e⟩ := vals_lints r1 j (by simpa using h1)
    obtain ⟨u, e'⟩ := vals_lints r2 j (by simpa using h2)
    rw [show i1.toArray[j] = .int (ns.getD j 0) t by simpa using e, show i2.toArray[j] = .int (ms.getD j 0) u by simpa using e']
    exact SeqAt.EqAt.int_int _ _ _ _
  · refine ⟨.bl _, H, I, rfl, ?_⟩
    rw [show i1.toArray.size = ns.length by simp; omega, range_all hl]
    exact k
def tLamG (T : Addr) (pos : Pos) (qual : Str) (params : Arguments) (body : Expr) (scope : Scope) (pm : Value) : TE := fun σ H Q => tLamS T pos qual params body scope pm σ H Q ∨ tLamH T pos qual params body scope pm σ H Q
theorem pe_lamG {c T : Addr} {params : Arguments} {body : Expr} {scope : Scope} {pos : Pos} (hcode : X.env.code = .ref c) (hcd : codeHdIn X.K c T = true) (B : BmIn X.base X.mg) (hcl : closureFor scope X.env = pure []) (hdef : defaultsOf params X.env = ([], [])) :
    PE X (.Lambda params body scope pos) (tLamG T pos (X.env.qual ++ "<lambda>") params body scope ((X.mg "__name__").getD .none)) :=
  fun pins s σ H Q I h => h.elim (pe_lamS hcode hcd B hcl hdef pins s σ H Q I) (pe_lamH hcode hcd B hcl hdef pins s σ H Q I)
end
def enc (M : Int) : List Int → Int
  | [] => 0
  | a :: r => a * M ^ r.length + enc M r
theorem enc_lt {B : Int} (hB : 1 ≤ B) : ∀ {r : List Int}, (∀ a ∈ r, -B ≤ a ∧ a ≤ B) → -(4 * B) ^ r.length < 2 * enc (4 * B) r ∧ 2 * enc (4 * B) r < (4 * B) ^ r.length
  | [], _ => by
    rw [List.length_nil, Int.pow_zero]
    show -(1 : Int) < 2 * 0 ∧ (2 : Int) * 0 < 1
    decide
  | a :: r, h => by
    have ih := enc_lt hB (r := r) fun x hx => h x (List.mem_cons_of_mem _ hx)
    have ha := h a (List.mem_cons_self)
    rw [List.length_cons, Int.pow_succ]
    show -((4 * B) ^ r.length * (4 * B)) < 2 * (a * (4 * B) ^ r.length + enc (4 * B) r) ∧ 2 * (a * (4 * B) ^ r.length + enc (4 * B) r) < (4 * B) ^ r.length * (4 * B)
    have hp : 0 < (4 * B) ^ r.length := Int.pow_pos (by omega)
    generalize (4 * B) ^ r.length = p at ih hp ⊢
    generalize enc (4 * B) r = e at ih ⊢
    have u : a * p ≤ B * p := Int.mul_le_mul_of_nonneg_right ha.2 (by omega)
    have l : -B * p ≤ a * p := Int.mul_le_mul_of_nonneg_right ha.1 (by omega)
    have m : 1 * p ≤ B * p := Int.mul_le_mul_of_nonneg_right hB (by omega)
    have n : -B * p = -(B * p) := Int.neg_mul _ _
    have o : p * (4 * B) = 4 * (B * p) := by rw [Int.mul_comm p, Int.mul_assoc]
    rw [n] at l
    rw [o]
    generalize a * p = x at u l ⊢
    generalize B * p = y at u l m ⊢
    omega
theorem enc_lx {B : Int} (hB : 1 ≤ B) : ∀ {r s : List Int}, r.length = s.length → (∀ a ∈ r, -B ≤ a ∧ a ≤ B) → (∀ a ∈ s, -B ≤ a ∧ a ≤ B) → lx r s = decide (enc (4 * B) r < enc (4 * B) s)
  | [], [], _, _, _ => by
    show false = decide ((0 : Int) < 0)
    decide
  | a :: r, b :: s, hl, hr, hs => by
    have hl' : r.length = s.length := Nat.succ.inj hl
    have ih := enc_lx hB hl' (fun x hx => hr x (List.mem_cons_of_mem _ hx)) (fun x hx => hs x (List.mem_cons_of_mem _ hx))
    have e1 := enc_lt hB (r := r) fun x hx => hr x (List.mem_cons_of_mem _ hx)
    have e2 := enc_lt hB (r := s) fun x hx => hs x (List.mem_cons_of_mem _ hx)
    show (if a = b then lx r s else decide (a < b)) = decide (a * (4 * B) ^ r.length + enc (4 * B) r < b * (4 * B) ^ s.length + enc (4 * B) s)
    rw [← hl'] at e2 ⊢
    have hp : 0 < (4 * B) ^ r.length := Int.pow_pos (by omega)
    generalize (4 * B) ^ r.length = p at e1 e2 hp ⊢
    by_cases z : a = b
    · subst z
      rw [if_pos rfl, ih, Bool.eq_iff_iff, decide_eq_true_eq, decide_eq_true_eq]
      omega
    · rw [if_neg z, Bool.eq_iff_iff, decide_eq_true_eq, decide_eq_true_eq]
      constructor
      · intro h
        have u : (a + 1) * p ≤ b * p := Int.mul_le_mul_of_nonneg_right (by omega) (by omega)
        rw [Int.add_mul, Int.one_mul] at u
        omega
      · intro h
        refine Classical.byContradiction fun n => ?_
        have u : (b + 1) * p ≤ a * p := Int.mul_le_mul_of_nonneg_right (by omega) (by omega)
        rw [Int.add_mul, Int.one_mul] at u
        omega
  | [], _ :: _, h, _, _ => nomatch h
  | _ :: _, [], h, _, _ => nomatch h
end L2

namespace W1
open PySem L2
def top (i : Nat) : Stmt := PySem.Challenge.pw_wornpages_k26_order.main.body.getD i (.Pass ⟨0, 0, 0, 0⟩)
abbrev s_is_whole : Stmt := (top 5)
abbrev s_is_within : Stmt := (top 6)
abbrev s_is_unbeaten : Stmt := (top 8)
abbrev s_first_unbeaten : Stmt := (top 9)
abbrev s_by_age : Stmt := (top 10)
abbrev s_Rule_goes_ahead : Stmt := (inClass (top 11) 0)
abbrev s_Rule_choose : Stmt := (inClass (top 11) 1)
abbrev s_Fewest_goes_ahead : Stmt := (inClass (top 12) 0)
abbrev s_Eldest_goes_ahead : Stmt := (inClass (top 13) 0)
abbrev s_Worth_goes_ahead : Stmt := (inClass (top 14) 0)
abbrev s_Weighed_init : Stmt := (inClass (top 15) 0)
abbrev s_Weighed_goes_ahead : Stmt := (inClass (top 15) 1)
abbrev s_Turned_init : Stmt := (inClass (top 16) 0)
abbrev s_Turned_goes_ahead : Stmt := (inClass (top 16) 1)
abbrev s_Order_init : Stmt := (inClass (top 17) 0)
abbrev s_Order_goes_ahead : Stmt := (inClass (top 17) 1)
abbrev s_Window_init : Stmt := (inClass (top 18) 0)
abbrev s_Window_choose : Stmt := (inClass (top 18) 1)
abbrev s_Follow_init : Stmt := (inClass (top 19) 0)
abbrev s_Follow_choose : Stmt := (inClass (top 19) 1)
abbrev s_law_cell_at : Stmt := (top 21)
abbrev s_law_whole : Stmt := (top 22)
abbrev s_law_now : Stmt := (top 23)
abbrev s_law_tallies : Stmt := (top 24)
abbrev s_law_first : Stmt := (top 25)
abbrev s_law_base : Stmt := (top 26)
abbrev s_law_made : Stmt := (top 27)
abbrev s_law_rank : Stmt := (top 28)
abbrev s_law_cells : Stmt := (top 29)
abbrev s_law_turned_good : Stmt := (top 30)
abbrev s_law_refused : Stmt := (top 31)
abbrev s_law : Stmt := (top 32)
structure Adr where
  f_is_whole : Addr
  f_is_within : Addr
  f_is_unbeaten : Addr
  f_first_unbeaten : Addr
  f_by_age : Addr
  f_Rule_goes_ahead : Addr
  f_Rule_choose : Addr
  f_Fewest_goes_ahead : Addr
  f_Eldest_goes_ahead : Addr
  f_Worth_goes_ahead : Addr
  f_Weighed_init : Addr
  f_Weighed_goes_ahead : Addr
  f_Turned_init : Addr
  f_Turned_goes_ahead : Addr
  f_Order_init : Addr
  f_Order_goes_ahead : Addr
  f_Window_init : Addr
  f_Window_choose : Addr
  f_Follow_init : Addr
  f_Follow_choose : Addr
  f_law_cell_at : Addr
  f_law_whole : Addr
  f_law_now : Addr
  f_law_tallies : Addr
  f_law_first : Addr
  f_law_base : Addr
  f_law_made : Addr
  f_law_rank : Addr
  f_law_cells : Addr
  f_law_turned_good : Addr
  f_law_refused : Addr
  f_law : Addr
  C_Rule : Addr
  C_Fewest : Addr
  C_Eldest : Addr
  C_Worth : Addr
  C_Weighed : Addr
  C_Turned : Addr
  C_Order : Addr
  C_Window : Addr
  C_Follow : Addr
  C_WornError : Addr
  C_NoRule : Addr
  C_NoRace : Addr
  c_law_base : Addr
  T_law_base : Addr
structure Txt (K : PySem.W.Frag) (mg : Str → Option Value) (t : Adr) : Prop where
  mg_Rule : mg "Rule" = some (.ref t.C_Rule)
  cl_Rule : Cls K t.C_Rule
  kp_Rule : PySem.W.keepIn K (.ref t.C_Rule) = true
  na_Rule_weigh : NoAttr K t.C_Rule "weigh"
  na_Rule_inner : NoAttr K t.C_Rule "inner"
  na_Rule_rules : NoAttr K t.C_Rule "rules"
  na_Rule_many : NoAttr K t.C_Rule "many"
  na_Rule_row : NoAttr K t.C_Rule "row"
  na_Rule_used : NoAttr K t.C_Rule "used"
  m_Rule_goes_ahead : Meth K t.C_Rule "goes_ahead" t.f_Rule_goes_ahead
  m_Rule_choose : Meth K t.C_Rule "choose" t.f_Rule_choose
  mk0_Rule : Mk0 K t.C_Rule
  mg_Fewest : mg "Fewest" = some (.ref t.C_Fewest)
  cl_Fewest : Cls K t.C_Fewest
  kp_Fewest : PySem.W.keepIn K (.ref t.C_Fewest) = true
  na_Fewest_many : NoAttr K t.C_Fewest "many"
  m_Fewest_goes_ahead : Meth K t.C_Fewest "goes_ahead" t.f_Fewest_goes_ahead
  m_Fewest_choose : Meth K t.C_Fewest "choose" t.f_Rule_choose
  mk0_Fewest : Mk0 K t.C_Fewest
  mg_Eldest : mg "Eldest" = some (.ref t.C_Eldest)
  cl_Eldest : Cls K t.C_Eldest
  kp_Eldest : PySem.W.keepIn K (.ref t.C_Eldest) = true
  m_Eldest_goes_ahead : Meth K t.C_Eldest "goes_ahead" t.f_Eldest_goes_ahead
  m_Eldest_choose : Meth K t.C_Eldest "choose" t.f_Rule_choose
  mk0_Eldest : Mk0 K t.C_Eldest
  mg_Worth : mg "Worth" = some (.ref t.C_Worth)
  cl_Worth : Cls K t.C_Worth
  kp_Worth : PySem.W.keepIn K (.ref t.C_Worth) = true
  m_Worth_goes_ahead : Meth K t.C_Worth "goes_ahead" t.f_Worth_goes_ahead
  m_Worth_choose : Meth K t.C_Worth "choose" t.f_Rule_choose
  mk0_Worth : Mk0 K t.C_Worth
  mg_Weighed : mg "Weighed" = some (.ref t.C_Weighed)
  cl_Weighed : Cls K t.C_Weighed
  kp_Weighed : PySem.W.keepIn K (.ref t.C_Weighed) = true
  na_Weighed_weigh : NoAttr K t.C_Weighed "weigh"
  m_Weighed_init : Meth K t.C_Weighed "__init__" t.f_Weighed_init
  m_Weighed_goes_ahead : Meth K t.C_Weighed "goes_ahead" t.f_Weighed_goes_ahead
  m_Weighed_choose : Meth K t.C_Weighed "choose" t.f_Rule_choose
  mk_Weighed : Mk K t.C_Weighed t.f_Weighed_init
  mg_Turned : mg "Turned" = some (.ref t.C_Turned)
  cl_Turned : Cls K t.C_Turned
  kp_Turned : PySem.W.keepIn K (.ref t.C_Turned) = true
  na_Turned_inner : NoAttr K t.C_Turned "inner"
  m_Turned_init : Meth K t.C_Turned "__init__" t.f_Turned_init
  m_Turned_goes_ahead : Meth K t.C_Turned "goes_ahead" t.f_Turned_goes_ahead
  m_Turned_choose : Meth K t.C_Turned "choose" t.f_Rule_choose
  mk_Turned : Mk K t.C_Turned t.f_Turned_init
  mg_Order : mg "Order" = some (.ref t.C_Order)
  cl_Order : Cls K t.C_Order
  kp_Order : PySem.W.keepIn K (.ref t.C_Order) = true
  na_Order_rules : NoAttr K t.C_Order "rules"
  m_Order_init : Meth K t.C_Order "__init__" t.f_Order_init
  m_Order_goes_ahead : Meth K t.C_Order "goes_ahead" t.f_Order_goes_ahead
  m_Order_choose : Meth K t.C_Order "choose" t.f_Rule_choose
  mk_Order : Mk K t.C_Order t.f_Order_init
  mg_Window : mg "Window" = some (.ref t.C_Window)
  cl_Window : Cls K t.C_Window
  kp_Window : PySem.W.keepIn K (.ref t.C_Window) = true
  na_Window_many : NoAttr K t.C_Window "many"
  m_Window_init : Meth K t.C_Window "__init__" t.f_Window_init
  m_Window_choose : Meth K t.C_Window "choose" t.f_Window_choose
  m_Window_goes_ahead : Meth K t.C_Window "goes_ahead" t.f_Fewest_goes_ahead
  mk_Window : Mk K t.C_Window t.f_Window_init
  mg_Follow : mg "Follow" = some (.ref t.C_Follow)
  cl_Follow : Cls K t.C_Follow
  kp_Follow : PySem.W.keepIn K (.ref t.C_Follow) = true
  na_Follow_row : NoAttr K t.C_Follow "row"
  na_Follow_used : NoAttr K t.C_Follow "used"
  m_Follow_init : Meth K t.C_Follow "__init__" t.f_Follow_init
  m_Follow_choose : Meth K t.C_Follow "choose" t.f_Follow_choose
  m_Follow_goes_ahead : Meth K t.C_Follow "goes_ahead" t.f_Rule_goes_ahead
  mk_Follow : Mk K t.C_Follow t.f_Follow_init
  mg_WornError : mg "WornError" = some (.ref t.C_WornError)
  kp_WornError : PySem.W.keepIn K (.ref t.C_WornError) = true
  xr_WornError : XRd K t.C_WornError
  x_WornError : XCls K t.C_WornError
  mg_NoRule : mg "NoRule" = some (.ref t.C_NoRule)
  kp_NoRule : PySem.W.keepIn K (.ref t.C_NoRule) = true
  xr_NoRule : XRd K t.C_NoRule
  x_NoRule : XCls K t.C_NoRule
  mg_NoRace : mg "NoRace" = some (.ref t.C_NoRace)
  kp_NoRace : PySem.W.keepIn K (.ref t.C_NoRace) = true
  xr_NoRace : XRd K t.C_NoRace
  x_NoRace : XCls K t.C_NoRace
  xm_WornError_WornError : PySem.W.exmOne K (.ref t.C_WornError) (.ref t.C_WornError) = some true
  xm_NoRule_WornError : PySem.W.exmOne K (.ref t.C_NoRule) (.ref t.C_WornError) = some true
  xm_NoRace_WornError : PySem.W.exmOne K (.ref t.C_NoRace) (.ref t.C_WornError) = some true
  xk_WornError_NoRace : PySem.W.kitOne K (.ref t.C_WornError) (.ref t.C_NoRace) = some false
  xk_WornError_NoRule : PySem.W.kitOne K (.ref t.C_WornError) (.ref t.C_NoRule) = some false
  xk_WornError_ValueError : PySem.W.kitOne K (.ref t.C_WornError) (.type "ValueError") = some true
  xk_NoRule_NoRace : PySem.W.kitOne K (.ref t.C_NoRule) (.ref t.C_NoRace) = some false
  xk_NoRule_NoRule : PySem.W.kitOne K (.ref t.C_NoRule) (.ref t.C_NoRule) = some true
  xk_NoRule_ValueError : PySem.W.kitOne K (.ref t.C_NoRule) (.type "ValueError") = some true
  xk_NoRace_NoRace : PySem.W.kitOne K (.ref t.C_NoRace) (.ref t.C_NoRace) = some true
  xk_NoRace_NoRule : PySem.W.kitOne K (.ref t.C_NoRace) (.ref t.C_NoRule) = some false
  xk_NoRace_ValueError : PySem.W.kitOne K (.ref t.C_NoRace) (.type "ValueError") = some true
  cd_law_base : PySem.W.codeHdIn K t.c_law_base t.T_law_base = true
  mg_is_whole : mg "is_whole" = some (.ref t.f_is_whole)
  kp_is_whole : PySem.W.keepIn K (.ref t.f_is_whole) = true
  mg_is_within : mg "is_within" = some (.ref t.f_is_within)
  kp_is_within : PySem.W.keepIn K (.ref t.f_is_within) = true
  mg_is_unbeaten : mg "is_unbeaten" = some (.ref t.f_is_unbeaten)
  kp_is_unbeaten : PySem.W.keepIn K (.ref t.f_is_unbeaten) = true
  mg_first_unbeaten : mg "first_unbeaten" = some (.ref t.f_first_unbeaten)
  kp_first_unbeaten : PySem.W.keepIn K (.ref t.f_first_unbeaten) = true
  mg_by_age : mg "by_age" = some (.ref t.f_by_age)
  kp_by_age : PySem.W.keepIn K (.ref t.f_by_age) = true
  mg_law_cell_at : mg "_law_cell_at" = some (.ref t.f_law_cell_at)
  kp_law_cell_at : PySem.W.keepIn K (.ref t.f_law_cell_at) = true
  mg_law_whole : mg "_law_whole" = some (.ref t.f_law_whole)
  kp_law_whole : PySem.W.keepIn K (.ref t.f_law_whole) = true
  mg_law_now : mg "_law_now" = some (.ref t.f_law_now)
  kp_law_now : PySem.W.keepIn K (.ref t.f_law_now) = true
  mg_law_tallies : mg "_law_tallies" = some (.ref t.f_law_tallies)
  kp_law_tallies : PySem.W.keepIn K (.ref t.f_law_tallies) = true
  mg_law_first : mg "_law_first" = some (.ref t.f_law_first)
  kp_law_first : PySem.W.keepIn K (.ref t.f_law_first) = true
  mg_law_base : mg "_law_base" = some (.ref t.f_law_base)
  kp_law_base : PySem.W.keepIn K (.ref t.f_law_base) = true
  mg_law_made : mg "_law_made" = some (.ref t.f_law_made)
  kp_law_made : PySem.W.keepIn K (.ref t.f_law_made) = true
  mg_law_rank : mg "_law_rank" = some (.ref t.f_law_rank)
  kp_law_rank : PySem.W.keepIn K (.ref t.f_law_rank) = true
  mg_law_cells : mg "_law_cells" = some (.ref t.f_law_cells)
  kp_law_cells : PySem.W.keepIn K (.ref t.f_law_cells) = true
  mg_law_turned_good : mg "_law_turned_good" = some (.ref t.f_law_turned_good)
  kp_law_turned_good : PySem.W.keepIn K (.ref t.f_law_turned_good) = true
  mg_law_refused : mg "_law_refused" = some (.ref t.f_law_refused)
  kp_law_refused : PySem.W.keepIn K (.ref t.f_law_refused) = true
  b_ValueError : mg "ValueError" = none
  b_bool : mg "bool" = none
  b_int : mg "int" = none
  b_isinstance : mg "isinstance" = none
  b_len : mg "len" = none
  b_list : mg "list" = none
  b_max : mg "max" = none
  b_min : mg "min" = none
  b_range : mg "range" = none
  b_sorted : mg "sorted" = none
  b_zip : mg "zip" = none
set_option genInjectivity false
set_option maxHeartbeats 0 in
structure Fns (K : PySem.W.Frag) (t : Adr) where
  fd_is_whole : FuncData
  dv_is_whole : Value
  F_is_whole : FunD K "is_whole" "is_whole" s_is_whole dv_is_whole t.f_is_whole fd_is_whole
  b_is_whole : Binds K fd_is_whole ["thing"] []
  fd_is_within : FuncData
  dv_is_within : Value
  F_is_within : FunD K "is_within" "is_within" s_is_within dv_is_within t.f_is_within fd_is_within
  b_is_within : Binds K fd_is_within ["thing", "low", "high"] []
  fd_is_unbeaten : FuncData
  dv_is_unbeaten : Value
  F_is_unbeaten : FunD K "is_unbeaten" "is_unbeaten" s_is_unbeaten dv_is_unbeaten t.f_is_unbeaten fd_is_unbeaten
  b_is_unbeaten : Binds K fd_is_unbeaten ["rule", "tally", "tallies", "pages", "now"] []
  fd_first_unbeaten : FuncData
  dv_first_unbeaten : Value
  F_first_unbeaten : FunD K "first_unbeaten" "first_unbeaten" s_first_unbeaten dv_first_unbeaten t.f_first_unbeaten fd_first_unbeaten
  b_first_unbeaten : Binds K fd_first_unbeaten ["rule", "tallies", "pages", "now"] []
  fd_by_age : FuncData
  dv_by_age : Value
  F_by_age : FunD K "by_age" "by_age" s_by_age dv_by_age t.f_by_age fd_by_age
  b_by_age : Binds K fd_by_age ["tally"] []
  fd_Rule_goes_ahead : FuncData
  dv_Rule_goes_ahead : Value
  F_Rule_goes_ahead : FunD K "goes_ahead" "Rule.goes_ahead" s_Rule_goes_ahead dv_Rule_goes_ahead t.f_Rule_goes_ahead fd_Rule_goes_ahead
  b_Rule_goes_ahead : Binds K fd_Rule_goes_ahead ["self", "one", "other", "pages", "now"] []
  fd_Rule_choose : FuncData
  dv_Rule_choose : Value
  F_Rule_choose : FunD K "choose" "Rule.choose" s_Rule_choose dv_Rule_choose t.f_Rule_choose fd_Rule_choose
  b_Rule_choose : Binds K fd_Rule_choose ["self", "tallies", "pages", "now"] []
  fd_Fewest_goes_ahead : FuncData
  dv_Fewest_goes_ahead : Value
  F_Fewest_goes_ahead : FunD K "goes_ahead" "Fewest.goes_ahead" s_Fewest_goes_ahead dv_Fewest_goes_ahead t.f_Fewest_goes_ahead fd_Fewest_goes_ahead
  b_Fewest_goes_ahead : Binds K fd_Fewest_goes_ahead ["self", "one", "other", "pages", "now"] []
  fd_Eldest_goes_ahead : FuncData
  dv_Eldest_goes_ahead : Value
  F_Eldest_goes_ahead : FunD K "goes_ahead" "Eldest.goes_ahead" s_Eldest_goes_ahead dv_Eldest_goes_ahead t.f_Eldest_goes_ahead fd_Eldest_goes_ahead
  b_Eldest_goes_ahead : Binds K fd_Eldest_goes_ahead ["self", "one", "other", "pages", "now"] []
  fd_Worth_goes_ahead : FuncData
  dv_Worth_goes_ahead : Value
  F_Worth_goes_ahead : FunD K "goes_ahead" "Worth.goes_ahead" s_Worth_goes_ahead dv_Worth_goes_ahead t.f_Worth_goes_ahead fd_Worth_goes_ahead
  b_Worth_goes_ahead : Binds K fd_Worth_goes_ahead ["self", "one", "other", "pages", "now"] []
  fd_Weighed_init : FuncData
  dv_Weighed_init : Value
  F_Weighed_init : FunD K "__init__" "Weighed.__init__" s_Weighed_init dv_Weighed_init t.f_Weighed_init fd_Weighed_init
  b_Weighed_init : Binds K fd_Weighed_init ["self", "weigh"] []
  fd_Weighed_goes_ahead : FuncData
  dv_Weighed_goes_ahead : Value
  F_Weighed_goes_ahead : FunD K "goes_ahead" "Weighed.goes_ahead" s_Weighed_goes_ahead dv_Weighed_goes_ahead t.f_Weighed_goes_ahead fd_Weighed_goes_ahead
  b_Weighed_goes_ahead : Binds K fd_Weighed_goes_ahead ["self", "one", "other", "pages", "now"] []
  fd_Turned_init : FuncData
  dv_Turned_init : Value
  F_Turned_init : FunD K "__init__" "Turned.__init__" s_Turned_init dv_Turned_init t.f_Turned_init fd_Turned_init
  b_Turned_init : Binds K fd_Turned_init ["self", "rule"] []
  fd_Turned_goes_ahead : FuncData
  dv_Turned_goes_ahead : Value
  F_Turned_goes_ahead : FunD K "goes_ahead" "Turned.goes_ahead" s_Turned_goes_ahead dv_Turned_goes_ahead t.f_Turned_goes_ahead fd_Turned_goes_ahead
  b_Turned_goes_ahead : Binds K fd_Turned_goes_ahead ["self", "one", "other", "pages", "now"] []
  fd_Order_init : FuncData
  dv_Order_init : Value
  F_Order_init : FunD K "__init__" "Order.__init__" s_Order_init dv_Order_init t.f_Order_init fd_Order_init
  b_Order_init : Binds K fd_Order_init ["self", "rules"] []
  fd_Order_goes_ahead : FuncData
  dv_Order_goes_ahead : Value
  F_Order_goes_ahead : FunD K "goes_ahead" "Order.goes_ahead" s_Order_goes_ahead dv_Order_goes_ahead t.f_Order_goes_ahead fd_Order_goes_ahead
  b_Order_goes_ahead : Binds K fd_Order_goes_ahead ["self", "one", "other", "pages", "now"] []
  fd_Window_init : FuncData
  dv_Window_init : Value
  F_Window_init : FunD K "__init__" "Window.__init__" s_Window_init dv_Window_init t.f_Window_init fd_Window_init
  b_Window_init : Binds K fd_Window_init ["self", "many"] []
  fd_Window_choose : FuncData
  dv_Window_choose : Value
  F_Window_choose : FunD K "choose" "Window.choose" s_Window_choose dv_Window_choose t.f_Window_choose fd_Window_choose
  b_Window_choose : Binds K fd_Window_choose ["self", "tallies", "pages", "now"] []
  fd_Follow_init : FuncData
  dv_Follow_init : Value
  F_Follow_init : FunD K "__init__" "Follow.__init__" s_Follow_init dv_Follow_init t.f_Follow_init fd_Follow_init
  b_Follow_init : Binds K fd_Follow_init ["self", "blocks"] []
  fd_Follow_choose : FuncData
  dv_Follow_choose : Value
  F_Follow_choose : FunD K "choose" "Follow.choose" s_Follow_choose dv_Follow_choose t.f_Follow_choose fd_Follow_choose
  b_Follow_choose : Binds K fd_Follow_choose ["self", "tallies", "pages", "now"] []
  fd_law_cell_at : FuncData
  dv_law_cell_at : Value
  F_law_cell_at : FunD K "_law_cell_at" "_law_cell_at" s_law_cell_at dv_law_cell_at t.f_law_cell_at fd_law_cell_at
  b_law_cell_at : Binds K fd_law_cell_at ["_law_script", "_law_k"] []
  fd_law_whole : FuncData
  dv_law_whole : Value
  F_law_whole : FunD K "_law_whole" "_law_whole" s_law_whole dv_law_whole t.f_law_whole fd_law_whole
  b_law_whole : Binds K fd_law_whole ["_law_found"] []
  fd_law_now : FuncData
  dv_law_now : Value
  F_law_now : FunD K "_law_now" "_law_now" s_law_now dv_law_now t.f_law_now fd_law_now
  b_law_now : Binds K fd_law_now ["_law_cell"] []
  fd_law_tallies : FuncData
  dv_law_tallies : Value
  F_law_tallies : FunD K "_law_tallies" "_law_tallies" s_law_tallies dv_law_tallies t.f_law_tallies fd_law_tallies
  b_law_tallies : Binds K fd_law_tallies ["_law_script", "_law_start", "_law_pages", "_law_now_here"] []
  fd_law_first : FuncData
  dv_law_first : Value
  F_law_first : FunD K "_law_first" "_law_first" s_law_first dv_law_first t.f_law_first fd_law_first
  b_law_first : Binds K fd_law_first ["_law_tallies_here", "_law_ranks"] []
  fd_law_base : FuncData
  F_law_base : FunT K "_law_base" "_law_base" s_law_base t.c_law_base t.f_law_base fd_law_base
  b_law_base : Binds K fd_law_base ["_law_kind"] []
  fd_law_made : FuncData
  dv_law_made : Value
  F_law_made : FunD K "_law_made" "_law_made" s_law_made dv_law_made t.f_law_made fd_law_made
  b_law_made : Binds K fd_law_made ["_law_cell"] []
  fd_law_rank : FuncData
  dv_law_rank : Value
  F_law_rank : FunD K "_law_rank" "_law_rank" s_law_rank dv_law_rank t.f_law_rank fd_law_rank
  b_law_rank : Binds K fd_law_rank ["_law_cell", "_law_tally", "_law_pages", "_law_now_here"] []
  fd_law_cells : FuncData
  dv_law_cells : Value
  F_law_cells : FunD K "_law_cells" "_law_cells" s_law_cells dv_law_cells t.f_law_cells fd_law_cells
  b_law_cells : Binds K fd_law_cells ["_law_script"] []
  fd_law_turned_good : FuncData
  dv_law_turned_good : Value
  F_law_turned_good : FunD K "_law_turned_good" "_law_turned_good" s_law_turned_good dv_law_turned_good t.f_law_turned_good fd_law_turned_good
  b_law_turned_good : Binds K fd_law_turned_good ["_law_rule", "_law_tallies_here", "_law_ranks", "_law_pages", "_law_now_here"] []
  fd_law_refused : FuncData
  dv_law_refused : Value
  F_law_refused : FunD K "_law_refused" "_law_refused" s_law_refused dv_law_refused t.f_law_refused fd_law_refused
  b_law_refused : Binds K fd_law_refused ["_law_many"] []
  fd_law : FuncData
  dv_law : Value
  F_law : FunD K "law" "law" s_law dv_law t.f_law fd_law
section
variable {P : Program} {w : World} {K : PySem.W.Frag} {mg : Str → Option Value} {base : Heap} {t : Adr}
theorem sc_is_whole : FnScope ["thing"] ["thing"] (defScope s_is_whole) := ⟨rfl, rfl, rfl, by decide +kernel, rfl, by decide +kernel, by decide +kernel⟩
theorem sc_is_within : FnScope ["thing", "low", "high"] ["thing", "low", "high"] (defScope s_is_within) := ⟨rfl, rfl, rfl, by decide +kernel, rfl, by decide +kernel, by decide +kernel⟩
theorem sc_is_unbeaten : FnScope ["rule", "tally", "tallies", "pages", "now", "other"] ["rule", "tally", "tallies", "pages", "now"] (defScope s_is_unbeaten) := ⟨rfl, rfl, rfl, by decide +kernel, rfl, by decide +kernel, by decide +kernel⟩
theorem sc_first_unbeaten : FnScope ["rule", "tallies", "pages", "now", "place"] ["rule", "tallies", "pages", "now"] (defScope s_first_unbeaten) := ⟨rfl, rfl, rfl, by decide +kernel, rfl, by decide +kernel, by decide +kernel⟩
theorem sc_Rule_goes_ahead : FnScope ["self", "one", "other", "pages", "now"] ["self", "one", "other", "pages", "now"] (defScope s_Rule_goes_ahead) := ⟨rfl, rfl, rfl, by decide +kernel, rfl, by decide +kernel, by decide +kernel⟩
theorem sc_Rule_choose : FnScope ["self", "tallies", "pages", "now"] ["self", "tallies", "pages", "now"] (defScope s_Rule_choose) := ⟨rfl, rfl, rfl, by decide +kernel, rfl, by decide +kernel, by decide +kernel⟩
theorem sc_Fewest_goes_ahead : FnScope ["self", "one", "other", "pages", "now"] ["self", "one", "other", "pages", "now"] (defScope s_Fewest_goes_ahead) := ⟨rfl, rfl, rfl, by decide +kernel, rfl, by decide +kernel, by decide +kernel⟩
theorem sc_Eldest_goes_ahead : FnScope ["self", "one", "other", "pages", "now"] ["self", "one", "other", "pages", "now"] (defScope s_Eldest_goes_ahead) := ⟨rfl, rfl, rfl, by decide +kernel, rfl, by decide +kernel, by decide +kernel⟩
theorem sc_Worth_goes_ahead : FnScope ["self", "one", "other", "pages", "now", "gain_of_one", "gain_of_other"] ["self", "one", "other", "pages", "now"] (defScope s_Worth_goes_ahead) := ⟨rfl, rfl, rfl, by decide +kernel, rfl, by decide +kernel, by decide +kernel⟩
theorem sc_Weighed_init : FnScope ["self", "weigh"] ["self", "weigh"] (defScope s_Weighed_init) := ⟨rfl, rfl, rfl, by decide +kernel, rfl, by decide +kernel, by decide +kernel⟩
theorem sc_Weighed_goes_ahead : FnScope ["self", "one", "other", "pages", "now", "weigh"] ["self", "one", "other", "pages", "now"] (defScope s_Weighed_goes_ahead) := ⟨rfl, rfl, rfl, by decide +kernel, rfl, by decide +kernel, by decide +kernel⟩
theorem sc_Turned_init : FnScope ["self", "rule"] ["self", "rule"] (defScope s_Turned_init) := ⟨rfl, rfl, rfl, by decide +kernel, rfl, by decide +kernel, by decide +kernel⟩
theorem sc_Turned_goes_ahead : FnScope ["self", "one", "other", "pages", "now"] ["self", "one", "other", "pages", "now"] (defScope s_Turned_goes_ahead) := ⟨rfl, rfl, rfl, by decide +kernel, rfl, by decide +kernel, by decide +kernel⟩
theorem sc_Order_init : FnScope ["self", "rules"] ["self", "rules"] (defScope s_Order_init) := ⟨rfl, rfl, rfl, by decide +kernel, rfl, by decide +kernel, by decide +kernel⟩
theorem sc_Order_goes_ahead : FnScope ["self", "one", "other", "pages", "now", "rule"] ["self", "one", "other", "pages", "now"] (defScope s_Order_goes_ahead) := ⟨rfl, rfl, rfl, by decide +kernel, rfl, by decide +kernel, by decide +kernel⟩
theorem sc_Window_init : FnScope ["self", "many"] ["self", "many"] (defScope s_Window_init) := ⟨rfl, rfl, rfl, by decide +kernel, rfl, by decide +kernel, by decide +kernel⟩
theorem sc_Follow_init : FnScope ["self", "blocks"] ["self", "blocks"] (defScope s_Follow_init) := ⟨rfl, rfl, rfl, by decide +kernel, rfl, by decide +kernel, by decide +kernel⟩
theorem sc_law_cell_at : FnScope ["_law_script", "_law_k"] ["_law_script", "_law_k"] (defScope s_law_cell_at) := ⟨rfl, rfl, rfl, by decide +kernel, rfl, by decide +kernel, by decide +kernel⟩
theorem sc_law_whole : FnScope ["_law_found"] ["_law_found"] (defScope s_law_whole) := ⟨rfl, rfl, rfl, by decide +kernel, rfl, by decide +kernel, by decide +kernel⟩
theorem sc_law_now : FnScope ["_law_cell"] ["_law_cell"] (defScope s_law_now) := ⟨rfl, rfl, rfl, by decide +kernel, rfl, by decide +kernel, by decide +kernel⟩
theorem sc_law_tallies : FnScope ["_law_script", "_law_start", "_law_pages", "_law_now_here", "_law_found", "_law_block", "_law_cell", "_law_number", "_law_cleared"] ["_law_script", "_law_start", "_law_pages", "_law_now_here"] (defScope s_law_tallies) := ⟨rfl, rfl, rfl, by decide +kernel, rfl, by decide +kernel, by decide +kernel⟩
theorem sc_law_first : FnScope ["_law_tallies_here", "_law_ranks", "_law_least", "_law_tally", "_law_rank_here"] ["_law_tallies_here", "_law_ranks"] (defScope s_law_first) := ⟨rfl, rfl, rfl, by decide +kernel, rfl, by decide +kernel, by decide +kernel⟩
theorem sc_law_base : FnScope ["_law_kind"] ["_law_kind"] (defScope s_law_base) := ⟨rfl, rfl, rfl, by decide +kernel, rfl, by decide +kernel, by decide +kernel⟩
theorem sc_law_made : FnScope ["_law_cell", "_law_rule"] ["_law_cell"] (defScope s_law_made) := ⟨rfl, rfl, rfl, by decide +kernel, rfl, by decide +kernel, by decide +kernel⟩
theorem sc_law_rank : FnScope ["_law_cell", "_law_tally", "_law_pages", "_law_now_here", "_law_many", "_law_number", "_law_share", "_law_worth", "_law_some", "_law_field"] ["_law_cell", "_law_tally", "_law_pages", "_law_now_here"] (defScope s_law_rank) := ⟨rfl, rfl, rfl, by decide +kernel, rfl, by decide +kernel, by decide +kernel⟩
theorem sc_law_cells : FnScope ["_law_script", "_law_cells_here"] ["_law_script"] (defScope s_law_cells) := ⟨rfl, rfl, rfl, by decide +kernel, rfl, by decide +kernel, by decide +kernel⟩
theorem sc_law_turned_good : FnScope ["_law_rule", "_law_tallies_here", "_law_ranks", "_law_pages", "_law_now_here", "_law_back", "_law_most", "_law_due"] ["_law_rule", "_law_tallies_here", "_law_ranks", "_law_pages", "_law_now_here"] (defScope s_law_turned_good) := ⟨rfl, rfl, rfl, by decide +kernel, rfl, by decide +kernel, by decide +kernel⟩
theorem sc_law_refused : FnScope ["_law_many", "_law_kinds", "e"] ["_law_many"] (defScope s_law_refused) := ⟨rfl, rfl, rfl, by decide +kernel, rfl, by decide +kernel, by decide +kernel⟩
theorem sc_law : FnScope ["_law_script", "_law_pages", "_law_now_here", "_law_tallies_here", "_law_cells_here", "_law_handed", "_law_rule", "_law_ranks", "_law_tally", "_law_k", "_law_one", "_law_other", "_law_found", "_law_row"] ["_law_script"] (defScope s_law) := ⟨rfl, rfl, rfl, by decide +kernel, rfl, by decide +kernel, by decide +kernel⟩
local macro_rules | `(tactic| walk_at "r") => `(tactic| repeat (first | with_reducible refine ⟨_, rfl, ?_⟩ | refine ⟨_, rfl, ?_⟩ | refine ⟨_, _, rfl, rfl, ?_⟩))
theorem ok_is_whole (T : Txt K mg t) (S : Fns K t) : FnOk P w K mg base (CX0) 1 t.f_is_whole S.fd_is_whole ["thing"] spWhole := by
  refine S.F_is_whole.ok0 sc_is_whole (fun vs H Q E h => ?_) (fun cdv A outer s H vs Q E hr h => ?_)
  · obtain ⟨x, rfl, _⟩ := h
    rfl
  · obtain ⟨x, rfl, kn, k⟩ := h
    refine ⟨_, (pss_one (ps_ret (pe_and (pe_callB call_isinstC (by rfl) T.b_isinstance (by kernel_rfl) (pa_cons (pv 0) (pa_cons (pe_bltn rfl T.b_int (by kernel_rfl) rfl (v := .ty "int")) pa_nil))) (pe_one (pe_not (pe_callB call_isinstC (by rfl) T.b_isinstance (by kernel_rfl) (pa_cons (pv 0) (pa_cons (pe_bltn rfl T.b_bool (by kernel_rfl) rfl (v := .ty "bool")) pa_nil)))))))), ?_⟩
    obtain ⟨ty, q, e1, e2, _⟩ := kn.ty (K := K)
    refine ⟨_, rfl, x, _, _, ty, _, rfl, rfl, .inl q, e1, _, rfl, ?_⟩
    have z := isW_eq x
    cases qi : isI x with
    | true =>
      rw [qi, if_pos rfl] at z
      refine iteT ?_
      refine ⟨_, rfl, x, _, _, ty, _, rfl, rfl, .inl q, e2, _, rfl, ?_⟩
      rw [z]
      exact k
    | false =>
      rw [qi] at z
      refine iteF ?_
      have z' : false = isW x := z
      rw [z']
      exact k
theorem ok_is_within (T : Txt K mg t) (S : Fns K t) : FnOk P w K mg base (CX0) 2 t.f_is_within S.fd_is_within ["thing", "low", "high"] spWithin := by
  refine S.F_is_within.ok0 sc_is_within (fun vs H Q E h => ?_) (fun cdv A outer s H vs Q E hr h => ?_)
  · obtain ⟨x, lo, hi, rfl, _⟩ := h
    rfl
  · obtain ⟨x, lo, hi, rfl, kn, k⟩ := h
    refine ⟨_, (pss_one (ps_ret (pe_and (pe_call ((ok_is_whole T S).mono (by decide)) hr rfl T.mg_is_whole T.kp_is_whole S.b_is_whole .nil pass0 (pa_cons (pv 0) pa_nil)) (pe_one (pe_chain op_le op_le (pv 1) (pv 0) (pv 2)))))), ?_⟩
    refine ⟨_, rfl, x, rfl, kn, _, rfl, ?_⟩
    cases x with
    | int i =>
      refine iteT ?_
      refine ⟨_, rfl, _, rfl, _, _, rfl, rfl, _, rfl, ?_⟩
      have k' : Q (V.bl (decide (lo ≤ i) && decide (i ≤ hi))) H := k
      by_cases h1 : lo ≤ i
      · rw [decide_eq_true h1] at k' ⊢
        refine iteT ?_
        exact ⟨_, rfl, _, _, rfl, rfl, k'⟩
      · rw [decide_eq_false h1] at k' ⊢
        refine iteF ?_
        exact k'
    | _ => exact iteF k
theorem ok_law_cell_at (T : Txt K mg t) (S : Fns K t) : FnOk P w K mg base (CX0) 1 t.f_law_cell_at S.fd_law_cell_at ["_law_script", "_law_k"] (spCell K) := by
  refine S.F_law_cell_at.ok0 sc_law_cell_at (fun vs H Q E h => ?_) (fun cdv A outer s H vs Q E hr h => ?_)
  · obtain ⟨a, ns, k, rfl, _⟩ := h
    rfl
  · obtain ⟨a, ns, k, rfl, hS, h0, q⟩ := h
    refine ⟨_, (pss_cons (ps_if (pt_cmpR op_lt (pv 1) (pe_callB call_len_seq (by rfl) T.b_len PySem.boot_len (pa_cons (pv 0) pa_nil)) (nomark _)) (pss_one (ps_ret (pe_ix ix_list (pv 0) (pv 1) (fun _ _ => rfl)))) pss_nil) (pss_one (ps_ret pe_int))), ?_⟩
    refine ⟨_, rfl, _, rfl, a, _, rfl, .inl hS, _, _, rfl, rfl, _, rfl, ?_⟩
    rw [List.length_map]
    by_cases h1 : k < (ns.length : Int)
    · rw [decide_eq_true h1]
      refine iteT ?_
      exact ⟨_, rfl, _, rfl, a, _, k, _, rfl, rfl, hS, cellAt_in h0 h1, q⟩
    · rw [decide_eq_false h1]
      refine iteF ?_
      have e := cellAt_out h0 h1
      rw [e] at q
      exact q
theorem ok_law_whole (T : Txt K mg t) (S : Fns K t) : FnOk P w K mg base (CX0) 1 t.f_law_whole S.fd_law_whole ["_law_found"] spWhole := by
  refine S.F_law_whole.ok0 sc_law_whole (fun vs H Q E h => ?_) (fun cdv A outer s H vs Q E hr h => ?_)
  · obtain ⟨x, rfl, _⟩ := h
    rfl
  · obtain ⟨x, rfl, kn, k⟩ := h
    refine ⟨_, (pss_one (ps_ret (pe_and (pe_callB call_isinstC (by rfl) T.b_isinstance (by kernel_rfl) (pa_cons (pv 0) (pa_cons (pe_bltn rfl T.b_int (by kernel_rfl) rfl (v := .ty "int")) pa_nil))) (pe_one (pe_not (pe_callB call_isinstC (by rfl) T.b_isinstance (by kernel_rfl) (pa_cons (pv 0) (pa_cons (pe_bltn rfl T.b_bool (by kernel_rfl) rfl (v := .ty "bool")) pa_nil)))))))), ?_⟩
    obtain ⟨ty, q, e1, e2, _⟩ := kn.ty (K := K)
    refine ⟨_, rfl, x, _, _, ty, _, rfl, rfl, .inl q, e1, _, rfl, ?_⟩
    have z := isW_eq x
    cases qi : isI x with
    | true =>
      rw [qi, if_pos rfl] at z
      refine iteT ?_
      refine ⟨_, rfl, x, _, _, ty, _, rfl, rfl, .inl q, e2, _, rfl, ?_⟩
      rw [z]
      exact k
    | false =>
      rw [qi] at z
      refine iteF ?_
      have z' : false = isW x := z
      rw [z']
      exact k
def spGaP : Sp := fun vs H Q _ => ∃ x a b p n, vs = [x, a, b, p, n] ∧ Q (.bl false) H
theorem ok_Rule_goes_ahead (T : Txt K mg t) (S : Fns K t) : FnOk P w K mg base (CX0) 1 t.f_Rule_goes_ahead S.fd_Rule_goes_ahead ["self", "one", "other", "pages", "now"] spGaP := by
  refine S.F_Rule_goes_ahead.ok0 sc_Rule_goes_ahead (fun vs H Q E h => ?_) (fun cdv A outer s H vs Q E hr h => ?_)
  · obtain ⟨x, a, b, p, n, rfl, _⟩ := h
    rfl
  · obtain ⟨x, a, b, p, n, rfl, q⟩ := h
    refine ⟨_, (pss_one (ps_ret pe_bl)), ?_⟩
    exact q
def spGa (f : Tl → Int) : Sp := fun vs H Q _ => ∃ x a b p n A B, vs = [x, a, b, p, n] ∧ TlAt H a A ∧ TlAt H b B ∧ Q (.bl (decide (f A < f B))) H
theorem ok_Fewest_goes_ahead (T : Txt K mg t) (S : Fns K t) : FnOk P w K mg base (CX0) 1 t.f_Fewest_goes_ahead S.fd_Fewest_goes_ahead ["self", "one", "other", "pages", "now"] (spGa Tl.lv) := by
  refine S.F_Fewest_goes_ahead.ok0 sc_Fewest_goes_ahead (fun vs H Q E h => ?_) (fun cdv A outer s H vs Q E hr h => ?_)
  · obtain ⟨x, a, b, p, n, A, B, rfl, _⟩ := h
    rfl
  · obtain ⟨x, a, b, p, n, A, B, rfl, ⟨ad, rfl, ha⟩, ⟨bd, rfl, hb⟩, q⟩ := h
    refine ⟨_, (pss_one (ps_ret (pe_cmpR op_lt (pe_ix ix_tup (pv 1) pe_int (fun _ _ => rfl)) (pe_ix ix_tup (pv 2) pe_int (fun _ _ => rfl)) (nomark _)))), ?_⟩
    exact ⟨_, rfl, ad, _, 1, _, rfl, rfl, SqT.of ha, rfl, _, rfl, bd, _, 1, _, rfl, rfl, SqT.of hb, rfl, _, _, rfl, rfl, q⟩
theorem ok_Eldest_goes_ahead (T : Txt K mg t) (S : Fns K t) : FnOk P w K mg base (CX0) 1 t.f_Eldest_goes_ahead S.fd_Eldest_goes_ahead ["self", "one", "other", "pages", "now"] (spGa Tl.bo) := by
  refine S.F_Eldest_goes_ahead.ok0 sc_Eldest_goes_ahead (fun vs H Q E h => ?_) (fun cdv A outer s H vs Q E hr h => ?_)
  · obtain ⟨x, a, b, p, n, A, B, rfl, _⟩ := h
    rfl
  · obtain ⟨x, a, b, p, n, A, B, rfl, ⟨ad, rfl, ha⟩, ⟨bd, rfl, hb⟩, q⟩ := h
    refine ⟨_, (pss_one (ps_ret (pe_cmpR op_lt (pe_ix ix_tup (pv 1) pe_int (fun _ _ => rfl)) (pe_ix ix_tup (pv 2) pe_int (fun _ _ => rfl)) (nomark _)))), ?_⟩
    exact ⟨_, rfl, ad, _, 3, _, rfl, rfl, SqT.of ha, rfl, _, rfl, bd, _, 3, _, rfl, rfl, SqT.of hb, rfl, _, _, rfl, rfl, q⟩
def gain (pg nw : Int) (T : Tl) : Int := (pg - T.lv) * (nw - T.bo)
def spGaW : Sp := fun vs H Q _ => ∃ x a b pg nw A B, vs = [x, a, b, .int pg, .int nw] ∧ TlAt H a A ∧ TlAt H b B ∧ A.Ok pg nw ∧ B.Ok pg nw ∧ pg ≤ 16 ∧ Q (.bl (decide (gain pg nw A * (pg + B.lv) > gain pg nw B * (pg + A.lv)))) H
theorem ok_Worth_goes_ahead (T : Txt K mg t) (S : Fns K t) : FnOk P w K mg base (CX0) 1 t.f_Worth_goes_ahead S.fd_Worth_goes_ahead ["self", "one", "other", "pages", "now"] spGaW := by
  refine S.F_Worth_goes_ahead.ok0 sc_Worth_goes_ahead (fun vs H Q E h => ?_) (fun cdv A outer s H vs Q E hr h => ?_)
  · obtain ⟨x, a, b, pg, nw, A, B, rfl, _⟩ := h
    rfl
  · obtain ⟨x, a, b, pg, nw, A, B, rfl, ⟨ad, rfl, ha⟩, ⟨bd, rfl, hb⟩, oa, ob, hp, q⟩ := h
    have a0 := oa.l0
    have a1 := oa.l1
    have b0 := ob.l0
    have b1 := ob.l1
    refine ⟨_, (pss_cons (ps_set (i := 5) sc_Worth_goes_ahead.nd rfl (Or.inl rfl) (pe_op op_mul (pe_op op_sub (pv 3) (pe_ix ix_tup (pv 1) pe_int (fun _ _ => rfl))) (pe_op op_sub (pv 4) (pe_ix ix_tup (pv 1) pe_int (fun _ _ => rfl))))) (pss_cons (ps_set (i := 6) sc_Worth_goes_ahead.nd rfl (Or.inl rfl) (pe_op op_mul (pe_op op_sub (pv 3) (pe_ix ix_tup (pv 2) pe_int (fun _ _ => rfl))) (pe_op op_sub (pv 4) (pe_ix ix_tup (pv 2) pe_int (fun _ _ => rfl))))) (pss_one (ps_ret (pe_cmpR op_gt (pe_op op_mul (pv 5) (pe_op op_add (pv 3) (pe_ix ix_tup (pv 2) pe_int (fun _ _ => rfl)))) (pe_op op_mul (pv 6) (pe_op op_add (pv 3) (pe_ix ix_tup (pv 1) pe_int (fun _ _ => rfl)))) (nomark _)))))), ?_⟩
    refine ⟨_, rfl, _, rfl, ad, _, 1, _, rfl, rfl, SqT.of ha, rfl, _, _, rfl, rfl, _, rfl, _, rfl, ad, _, 3, _, rfl, rfl, SqT.of ha, rfl, _, _, rfl, rfl, _, _, rfl, rfl, .inl ⟨by omega, by omega⟩, ?_⟩
    refine ⟨_, rfl, _, rfl, bd, _, 1, _, rfl, rfl, SqT.of hb, rfl, _, _, rfl, rfl, _, rfl, _, rfl, bd, _, 3, _, rfl, rfl, SqT.of hb, rfl, _, _, rfl, rfl, _, _, rfl, rfl, .inl ⟨by omega, by omega⟩, ?_⟩
    refine ⟨_, rfl, _, rfl, _, rfl, bd, _, 1, _, rfl, rfl, SqT.of hb, rfl, _, _, rfl, rfl, _, _, rfl, rfl, .inr ⟨by omega, by omega⟩, ?_⟩
    exact ⟨_, rfl, _, rfl, _, rfl, ad, _, 1, _, rfl, rfl, SqT.of ha, rfl, _, _, rfl, rfl, _, _, rfl, rfl, .inr ⟨by omega, by omega⟩, _, _, rfl, rfl, q⟩
def Mny (pg many : Int) : Prop := 1 ≤ pg ∧ 0 < many ∧ ∀ j : Int, 0 ≤ j → j ≤ pg → (pg + j) ∣ many
def rkW (pg nw many : Int) (T : Tl) : Int := 0 - (pg - T.lv) * (nw - T.bo) * (many / (pg + T.lv))
theorem big_of {x : Int} (h0 : 0 ≤ x) (h1 : x ≤ 10 ^ 40) : x.natAbs < 2 ^ 1024 := by
  have : x.natAbs ≤ 10 ^ 40 := by omega
  exact Nat.lt_of_le_of_lt this (by decide +kernel)
theorem mul_lt_iff {x y m : Int} (h : 0 < m) : x * m < y * m ↔ x < y := by
  constructor
  · intro z
    refine Int.not_le.mp fun w => ?_
    have := Int.mul_le_mul_of_nonneg_right w (Int.le_of_lt h)
    omega
  · intro z
    exact Int.mul_lt_mul_of_pos_right z h
theorem worth_iff {pg nw many : Int} {A B : Tl} (m : Mny pg many) (oa : A.Ok pg nw) (ob : B.Ok pg nw) : (gain pg nw A * (pg + B.lv) > gain pg nw B * (pg + A.lv)) ↔ rkW pg nw many A < rkW pg nw many B := by
  obtain ⟨p1, m0, md⟩ := m
  have a0 := oa.l0
  have b0 := ob.l0
  obtain ⟨sa, ea⟩ := md A.lv oa.l0 oa.l1
  obtain ⟨sb, eb⟩ := md B.lv ob.l0 ob.l1
  have da : many / (pg + A.lv) = sa := by rw [ea]; exact Int.mul_ediv_cancel_left _ (by omega)
  have db : many / (pg + B.lv) = sb := by rw [eb]; exact Int.mul_ediv_cancel_left _ (by omega)
  unfold rkW
  rw [da, db]
  show gain pg nw B * (pg + A.lv) < gain pg nw A * (pg + B.lv) ↔ 0 - gain pg nw A * sa < 0 - gain pg nw B * sb
  have pa : 0 < pg + A.lv := by omega
  have pb : 0 < pg + B.lv := by omega
  have e : (0 - gain pg nw A * sa < 0 - gain pg nw B * sb) ↔ gain pg nw B * sb < gain pg nw A * sa := by omega
  rw [e, ← mul_lt_iff (x := gain pg nw B * (pg + A.lv)) m0, ← mul_lt_iff (x := gain pg nw B * sb) (Int.mul_pos pa pb)]
  have e1 : gain pg nw B * (pg + A.lv) * many = gain pg nw B * sb * ((pg + A.lv) * (pg + B.lv)) := by rw [eb]; ac_rfl
  have e2 : gain pg nw A * (pg + B.lv) * many = gain pg nw A * sa * ((pg + A.lv) * (pg + B.lv)) := by rw [ea]; ac_rfl
  rw [e1, e2]

def pr (pg : Int) : Nat → Int
  | 0 => 1
  | i + 1 => pr pg i * (pg + i)
def mnOf (pg : Int) : Int := pr pg (pg + 1).toNat
theorem pr_pos {pg : Int} (h : 1 ≤ pg) : ∀ i : Nat, 0 < pr pg i
  | 0 => (by decide : (0 : Int) < 1)
  | i + 1 => Int.mul_pos (pr_pos h i) (by omega)
theorem pr_dvd {pg : Int} : ∀ (i : Nat) (j : Int), 0 ≤ j → j < i → (pg + j) ∣ pr pg i
  | 0, j, h1, h2 => absurd h2 (by omega)
  | i + 1, j, h1, h2 => by
    by_cases e : j = i
    · subst e
      exact Int.dvd_mul_left _ _
    · exact Int.dvd_trans (pr_dvd i j h1 (by omega)) (Int.dvd_mul_right _ _)
theorem pr_le {pg : Int} (h0 : 1 ≤ pg) (h1 : pg ≤ 16) : ∀ i : Nat, i ≤ 17 → pr pg i ≤ 33 ^ i
  | 0, _ => (by decide : (1 : Int) ≤ 33 ^ 0)
  | i + 1, h => by
    show pr pg i * (pg + i) ≤ 33 ^ (i + 1)
    rw [Int.pow_succ]
    exact Int.mul_le_mul (pr_le h0 h1 i (by omega)) (by omega) (by omega) (Int.pow_nonneg (by decide))
theorem mny_of {pg : Int} (h : 1 ≤ pg) : Mny pg (mnOf pg) := ⟨h, pr_pos h _, fun j h1 h2 => pr_dvd _ j h1 (by omega)⟩
def rkB (pg nw kd : Int) (T : Tl) : Int := if kd = 0 then T.b % 2 else if kd = 1 then T.lv else if kd = 2 then T.cl else if kd = 3 then T.bo else if kd = 4 then T.lv else if kd = 6 then rkW pg nw (mnOf pg) T else 0
def trn (c : Int) : Prop := c / 8 % 3 = 0
instance (c : Int) : Decidable (trn c) := inferInstanceAs (Decidable (c / 8 % 3 = 0))
def rkC (pg nw : Int) (T : Tl) (c : Int) : Int := if trn c then 0 - rkB pg nw (c % 8) T else rkB pg nw (c % 8) T
def lamEx (i : Nat) : Expr := match ((defBody s_law_base)[i]? : Option Stmt) with
  | some (Stmt.If _ (Stmt.Return (some (Expr.Call _ (e :: _) _ _)) _ :: _) _ _) => e
  | _ => Expr.Name "" ⟨0, 0, 0, 0⟩
abbrev lamA (i : Nat) : Arguments := match lamEx i with
  | .Lambda a _ _ _ => a
  | _ => defArgs s_law_base
abbrev lamB (i : Nat) : Expr := match lamEx i with
  | .Lambda _ b _ _ => b
  | _ => lamEx i
abbrev lamSc (i : Nat) : Scope := match lamEx i with
  | .Lambda _ _ s _ => s
  | _ => defScope s_law_base
abbrev lamP (i : Nat) : Pos := match lamEx i with
  | .Lambda _ _ _ p => p
  | _ => ⟨0, 0, 0, 0⟩
abbrev lamQ : Str := (PyProof.Rows.envOfC "_law_base" (defScope s_law_base) 0 0 .none).qual ++ "<lambda>"
abbrev lamFd (i : Nat) (pm ct : Value) (c : Addr) : FuncData := PySem.W.kla_fn "<lambda>" lamQ (lamA i) (lamB i) (lamSc i) [] pm (.ref c) ct
theorem sc_lam0 : FnScope ["_law_tally"] ["_law_tally"] (lamSc 0) := ⟨rfl, rfl, rfl, by decide +kernel, rfl, by decide +kernel, by decide +kernel⟩
theorem sc_lam2 : FnScope ["_law_tally"] ["_law_tally"] (lamSc 2) := ⟨rfl, rfl, rfl, by decide +kernel, rfl, by decide +kernel, by decide +kernel⟩
def LamAt (i : Nat) (H : Hp) (g : Addr) : Prop := ∃ pm ct c, H g = some (fnO g (lamFd i pm ct c)) ∧ H c = some (cdO c lamQ)
def spLam (i : Nat) (f : Tl → Int) (g c : Addr) (pm ct : Value) : Sp := fun vs H Q _ => ∃ v T, vs = [v] ∧ TlAt H v T ∧ H g = some (fnO g (lamFd i pm ct c)) ∧ H c = some (cdO c lamQ) ∧ Q (.int (f T)) H
theorem ok_lam0 {g c : Addr} {pm ct : Value} : FnOk P w K mg base CX0 1 g (lamFd 0 pm ct c) ["_law_tally"] (spLam 0 (fun T => T.b % 2) g c pm ct) := by
  refine fn_ofL (k := 0) sc_lam0 (fun vs H Q E h => ?_) (fun vs H Q E h => ?_) (fun A outer s H vs Q E hr h => ?_)
  · obtain ⟨v, T, rfl, _⟩ := h
    rfl
  · obtain ⟨v, T, rfl, _, a, b, _⟩ := h
    exact ⟨a, b⟩
  · obtain ⟨v, T, rfl, ⟨ad, rfl, ha⟩, _, _, q⟩ := h
    refine ⟨_, pe_op op_mod (pe_ix ix_tup (pv 0) pe_int (fun _ _ => rfl)) pe_int, ?_⟩
    exact ⟨_, rfl, ad, _, 0, _, rfl, rfl, SqT.of ha, rfl, _, _, rfl, rfl, (by show (0 : Int) < 2; decide), q⟩
theorem ok_lam2 {g c : Addr} {pm ct : Value} : FnOk P w K mg base CX0 1 g (lamFd 2 pm ct c) ["_law_tally"] (spLam 2 Tl.cl g c pm ct) := by
  refine fn_ofL (k := 0) sc_lam2 (fun vs H Q E h => ?_) (fun vs H Q E h => ?_) (fun A outer s H vs Q E hr h => ?_)
  · obtain ⟨v, T, rfl, _⟩ := h
    rfl
  · obtain ⟨v, T, rfl, _, a, b, _⟩ := h
    exact ⟨a, b⟩
  · obtain ⟨v, T, rfl, ⟨ad, rfl, ha⟩, _, _, q⟩ := h
    refine ⟨_, pe_ix ix_tup (pv 0) pe_int (fun _ _ => rfl), ?_⟩
    exact ⟨_, rfl, ad, _, 2, _, rfl, rfl, SqT.of ha, rfl, q⟩
theorem lam_binds0 {c : Addr} {pm ct : Value} : Binds K (lamFd 0 pm ct c) ["_law_tally"] [] := Binds.all fun us hl => match us, hl with | [_], _ => rfl
theorem lam_binds2 {c : Addr} {pm ct : Value} : Binds K (lamFd 2 pm ct c) ["_law_tally"] [] := Binds.all fun us hl => match us, hl with | [_], _ => rfl
theorem LamAt.same {i : Nat} {H H' : Hp} {g : Addr} (h : LamAt i H g) (s : Same H H') : LamAt i H' g := let ⟨pm, ct, c, a, b⟩ := h; ⟨pm, ct, c, s _ _ a, s _ _ b⟩
def spWi (t : Adr) : Sp := fun vs H Q E => ∃ x dx m, vs = [.ref x, m] ∧ H x = some (.ins t.C_Window dx []) ∧ Knd H m ∧
  (if inB m 1 16 = true then Q .non (upd H x (.ins t.C_Window dx [("many", m)])) else E (.ref t.C_NoRule) none H)
theorem ok_Window_init (T : Txt K mg t) (S : Fns K t) : FnOk P w K mg base (CXe P w) 3 t.f_Window_init S.fd_Window_init ["self", "many"] (spWi t) := by
  refine S.F_Window_init.okE sc_Window_init (fun vs H Q E h => ?_) (fun cdv A outer s H vs Q E hr h => ?_)
  · obtain ⟨x, dx, m, rfl, _⟩ := h
    rfl
  · obtain ⟨x, dx, m, rfl, hx, km, q⟩ := h
    refine ⟨_, (pss_cons (ps_if (pt_not (pt_val (pe_call ((ok_is_within T S).mono (by decide)) hr rfl T.mg_is_within T.kp_is_within S.b_is_within .nil pass0 (pa_cons (pv 1) (pa_cons pe_int (pa_cons pe_int pa_nil)))))) (pss_one (ps_raise takes_fn rfl rfl T.mg_NoRule T.x_NoRule (pa_cons pe_str pa_nil))) pss_nil) (pss_one (ps_fld (pv 0) (pv 1) rfl))), ?_⟩
    refine ⟨_, rfl, m, _, _, rfl, km, _, rfl, ?_⟩
    cases z : inB m 1 16 with
    | false =>
      rw [z, if_neg (by decide)] at q
      exact iteT ⟨by show 1 ≤ sizeLine; decide, q⟩
    | true =>
      rw [z, if_pos rfl] at q
      refine iteF ?_
      exact ⟨_, rfl, _, rfl, x, _, dx, _, rfl, hx, T.cl_Window, T.na_Window_many, by simp, q⟩
structure FoAt (t : Adr) (H : Hp) (r dx rl : Addr) (row : List Int) (u : Nat) : Prop where
  ins : H r = some (.ins t.C_Follow dx [("row", .ref rl), ("used", .int u)])
  row : H rl = some (.lst (row.map V.int))
def spFo (K : PySem.W.Frag) (t : Adr) : Sp := fun vs H Q _ => ∃ x dx l row, vs = [.ref x, .ref l] ∧ H x = some (.ins t.C_Follow dx []) ∧ H l = some (.lst (row.map V.int)) ∧
  ∀ rl H', FoAt t H' x dx rl row 0 → H rl = none → (∀ b o, b ≠ x → H b = some o → H' b = some o) → Q .non H'
theorem ok_Follow_init (T : Txt K mg t) (S : Fns K t) : FnOk P w K mg base (CX0) 1 t.f_Follow_init S.fd_Follow_init ["self", "blocks"] (spFo K t) := by
  refine S.F_Follow_init.ok0 sc_Follow_init (fun vs H Q E h => ?_) (fun cdv A outer s H vs Q E hr h => ?_)
  · obtain ⟨x, dx, l, row, rfl, _⟩ := h
    rfl
  · obtain ⟨x, dx, l, row, rfl, hx, hl, q⟩ := h
    refine ⟨_, (pss_cons (ps_fld (pv 0) (pe_callTy call_list_ofN (by rfl) T.b_list (by kernel_rfl) (pa_cons (pv 1) pa_nil)) rfl) (pss_one (ps_fld (pv 0) pe_int rfl))), ?_⟩
    refine ⟨_, rfl, l, _, rfl, .inl (SqL.of hl), fun rl H1 n1 s1 h1 => ?_⟩
    refine ⟨_, rfl, x, _, dx, _, rfl, s1 _ _ hx, T.cl_Follow, T.na_Follow_row, by simp, ?_⟩
    refine ⟨_, rfl, x, _, dx, _, rfl, upd_same, T.cl_Follow, T.na_Follow_used, by show 1 < 1000; decide, ?_⟩
    rw [upd_upd]
    have ne : rl ≠ x := ne_of h1 (s1 _ _ hx) (by intro z; cases z)
    refine q rl _ ⟨upd_same, ?_⟩ n1 (fun b o nb e => ?_)
    · rw [upd_ne ne]
      exact h1
    · rw [upd_ne nb]
      exact s1 _ _ e
def spWe (t : Adr) : Sp := fun vs H Q _ => ∃ x dx v, vs = [.ref x, v] ∧ H x = some (.ins t.C_Weighed dx []) ∧ Q .non (upd H x (.ins t.C_Weighed dx [("weigh", v)]))
theorem ok_Weighed_init (T : Txt K mg t) (S : Fns K t) : FnOk P w K mg base (CX0) 1 t.f_Weighed_init S.fd_Weighed_init ["self", "weigh"] (spWe t) := by
  refine S.F_Weighed_init.ok0 sc_Weighed_init (fun vs H Q E h => ?_) (fun cdv A outer s H vs Q E hr h => ?_)
  · obtain ⟨x, dx, v, rfl, _⟩ := h
    rfl
  · obtain ⟨x, dx, v, rfl, hx, q⟩ := h
    refine ⟨_, (pss_one (ps_fld (pv 0) (pv 1) rfl)), ?_⟩
    exact ⟨_, rfl, _, rfl, x, _, dx, _, rfl, hx, T.cl_Weighed, T.na_Weighed_weigh, by simp, q⟩
def spTu (t : Adr) : Sp := fun vs H Q _ => ∃ x dx v, vs = [.ref x, v] ∧ H x = some (.ins t.C_Turned dx []) ∧ Q .non (upd H x (.ins t.C_Turned dx [("inner", v)]))
theorem ok_Turned_init (T : Txt K mg t) (S : Fns K t) : FnOk P w K mg base (CX0) 1 t.f_Turned_init S.fd_Turned_init ["self", "rule"] (spTu t) := by
  refine S.F_Turned_init.ok0 sc_Turned_init (fun vs H Q E h => ?_) (fun cdv A outer s H vs Q E hr h => ?_)
  · obtain ⟨x, dx, v, rfl, _⟩ := h
    rfl
  · obtain ⟨x, dx, v, rfl, hx, q⟩ := h
    refine ⟨_, (pss_one (ps_fld (pv 0) (pv 1) rfl)), ?_⟩
    exact ⟨_, rfl, _, rfl, x, _, dx, _, rfl, hx, T.cl_Turned, T.na_Turned_inner, by simp, q⟩
def spGaE (t : Adr) : Sp := fun vs H Q _ => ∃ x a b p n A B g dx f, vs = [.ref x, a, b, p, n] ∧ H x = some (.ins t.C_Weighed dx [("weigh", .ref g)]) ∧ ((LamAt 0 H g ∧ f = fun T => T.b % 2) ∨ (LamAt 2 H g ∧ f = Tl.cl)) ∧ TlAt H a A ∧ TlAt H b B ∧ Q (.bl (decide (f A < f B))) H
theorem ok_Weighed_goes_ahead (T : Txt K mg t) (S : Fns K t) : FnOk P w K mg base (CX0) 2 t.f_Weighed_goes_ahead S.fd_Weighed_goes_ahead ["self", "one", "other", "pages", "now"] (spGaE t) := by
  refine S.F_Weighed_goes_ahead.ok0 sc_Weighed_goes_ahead (fun vs H Q E h => ?_) (fun cdv A outer s H vs Q E hr h => ?_)
  · obtain ⟨x, a, b, p, n, A, B, g, dx, f, rfl, _⟩ := h
    rfl
  · obtain ⟨x, a, b, p, n, A, B, g, dx, f, rfl, hx, hl, ha, hb, q⟩ := h
    refine ⟨_, (pss_cons (ps_set (i := 5) sc_Weighed_goes_ahead.nd rfl (Or.inl rfl) (pe_fld (pv 0) rfl)) (pss_one (ps_ret (pe_cmpR op_lt (pe_callV (kk := 1) (pv 5) hr pass0 (pa_cons (pv 1) pa_nil)) (pe_callV (kk := 1) (pv 5) hr pass0 (pa_cons (pv 2) pa_nil)) (nomark _))))), ?_⟩
    refine ⟨_, rfl, x, _, dx, _, _, rfl, hx, T.cl_Weighed, T.na_Weighed_weigh, rfl, ?_⟩
    rcases hl with ⟨⟨pm, ct, c, hg, hc⟩, rfl⟩ | ⟨⟨pm, ct, c, hg, hc⟩, rfl⟩
    · exact ⟨_, rfl, g, _, rfl, _, rfl, hg, 1, _, _, ok_lam0, by decide, lam_binds0, a, A, rfl, ha, hg, hc, _, rfl, g, _, rfl, _, rfl, hg, 1, _, _, ok_lam0, by decide, lam_binds0, b, B, rfl, hb, hg, hc, _, _, rfl, rfl, q⟩
    · exact ⟨_, rfl, g, _, rfl, _, rfl, hg, 1, _, _, ok_lam2, by decide, lam_binds2, a, A, rfl, ha, hg, hc, _, rfl, g, _, rfl, _, rfl, hg, 1, _, _, ok_lam2, by decide, lam_binds2, b, B, rfl, hb, hg, hc, _, _, rfl, rfl, q⟩
def BaAt (t : Adr) (H : Hp) (r : Addr) (kd : Int) : Prop :=
  (∃ dx, H r = some (.ins t.C_Rule dx []) ∧ kd = 7) ∨ (∃ dx, H r = some (.ins t.C_Fewest dx []) ∧ kd = 1) ∨ (∃ dx, H r = some (.ins t.C_Eldest dx []) ∧ kd = 3) ∨ (∃ dx, H r = some (.ins t.C_Worth dx []) ∧ kd = 6) ∨
  (∃ dx g f, H r = some (.ins t.C_Weighed dx [("weigh", .ref g)]) ∧ ((LamAt 0 H g ∧ f = fun T => T.b % 2) ∨ (LamAt 2 H g ∧ f = Tl.cl)) ∧ ∀ pg nw T, rkB pg nw kd T = f T) ∨ (∃ dx m, H r = some (.ins t.C_Window dx [("many", m)]) ∧ kd = 4) ∨ (∃ dx x y, H r = some (.ins t.C_Follow dx [("row", x), ("used", y)]) ∧ kd = 5)
theorem BaAt.same {t : Adr} {H H' : Hp} {r : Addr} {kd : Int} (h : BaAt t H r kd) (s : Same H H') : BaAt t H' r kd := by
  rcases h with ⟨d, a, b⟩ | ⟨d, a, b⟩ | ⟨d, a, b⟩ | ⟨d, a, b⟩ | ⟨d, g, f, a, l, b⟩ | ⟨d, m, a, b⟩ | ⟨d, x, y, a, b⟩
  · exact .inl ⟨d, s _ _ a, b⟩
  · exact .inr (.inl ⟨d, s _ _ a, b⟩)
  · exact .inr (.inr (.inl ⟨d, s _ _ a, b⟩))
  · exact .inr (.inr (.inr (.inl ⟨d, s _ _ a, b⟩)))
  · exact .inr (.inr (.inr (.inr (.inl ⟨d, g, f, s _ _ a, l.imp (fun z => ⟨z.1.same s, z.2⟩) (fun z => ⟨z.1.same s, z.2⟩), b⟩))))
  · exact .inr (.inr (.inr (.inr (.inr (.inl ⟨d, m, s _ _ a, b⟩)))))
  · exact .inr (.inr (.inr (.inr (.inr (.inr ⟨d, x, y, s _ _ a, b⟩)))))
def spT1 (t : Adr) : Sp := fun vs H Q _ => ∃ r a b pg nw A B kd dx r', vs = [.ref r, a, b, .int pg, .int nw] ∧ H r = some (.ins t.C_Turned dx [("inner", .ref r')]) ∧ BaAt t H r' kd ∧ TlAt H a A ∧ TlAt H b B ∧ A.Ok pg nw ∧ B.Ok pg nw ∧ 1 ≤ pg ∧ pg ≤ 16 ∧ Q (.bl (decide (rkB pg nw kd B < rkB pg nw kd A))) H
theorem ok_turned1 (T : Txt K mg t) (S : Fns K t) : FnOk P w K mg base CX0 5 t.f_Turned_goes_ahead S.fd_Turned_goes_ahead ["self", "one", "other", "pages", "now"] (spT1 t) := by
  refine S.F_Turned_goes_ahead.ok0 sc_Turned_goes_ahead (fun vs H Q E h => ?_) (fun cdv A outer s H vs Q E hr h => ?_)
  · obtain ⟨r, a, b, pg, nw, A, B, kd, dx, r', rfl, _⟩ := h
    rfl
  · obtain ⟨r, a, b, pg, nw, A, B, kd, dx, r', rfl, hx, hi, ha, hb, oa, ob, p0, p1, q⟩ := h
    refine ⟨_, (pss_one (ps_ret (pe_alt (pe_meth (pe_fld (pv 0) rfl) T.cl_Rule T.m_Rule_goes_ahead ((ok_Rule_goes_ahead T S).mono (by decide)) hr S.b_Rule_goes_ahead .nil pass0 (pa_cons (pv 2) (pa_cons (pv 1) (pa_cons (pv 3) (pa_cons (pv 4) pa_nil))))) (pe_alt (pe_meth (pe_fld (pv 0) rfl) T.cl_Fewest T.m_Fewest_goes_ahead ((ok_Fewest_goes_ahead T S).mono (by decide)) hr S.b_Fewest_goes_ahead .nil pass0 (pa_cons (pv 2) (pa_cons (pv 1) (pa_cons (pv 3) (pa_cons (pv 4) pa_nil))))) (pe_alt (pe_meth (pe_fld (pv 0) rfl) T.cl_Eldest T.m_Eldest_goes_ahead ((ok_Eldest_goes_ahead T S).mono (by decide)) hr S.b_Eldest_goes_ahead .nil pass0 (pa_cons (pv 2) (pa_cons (pv 1) (pa_cons (pv 3) (pa_cons (pv 4) pa_nil))))) (pe_alt (pe_meth (pe_fld (pv 0) rfl) T.cl_Worth T.m_Worth_goes_ahead ((ok_Worth_goes_ahead T S).mono (by decide)) hr S.b_Worth_goes_ahead .nil pass0 (pa_cons (pv 2) (pa_cons (pv 1) (pa_cons (pv 3) (pa_cons (pv 4) pa_nil))))) (pe_alt (pe_meth (pe_fld (pv 0) rfl) T.cl_Weighed T.m_Weighed_goes_ahead ((ok_Weighed_goes_ahead T S).mono (by decide)) hr S.b_Weighed_goes_ahead .nil pass0 (pa_cons (pv 2) (pa_cons (pv 1) (pa_cons (pv 3) (pa_cons (pv 4) pa_nil))))) (pe_alt (pe_meth (pe_fld (pv 0) rfl) T.cl_Window T.m_Window_goes_ahead ((ok_Fewest_goes_ahead T S).mono (by decide)) hr S.b_Fewest_goes_ahead .nil pass0 (pa_cons (pv 2) (pa_cons (pv 1) (pa_cons (pv 3) (pa_cons (pv 4) pa_nil))))) (pe_meth (pe_fld (pv 0) rfl) T.cl_Follow T.m_Follow_goes_ahead ((ok_Rule_goes_ahead T S).mono (by decide)) hr S.b_Rule_goes_ahead .nil pass0 (pa_cons (pv 2) (pa_cons (pv 1) (pa_cons (pv 3) (pa_cons (pv 4) pa_nil))))))))))))), ?_⟩
    rcases hi with ⟨d, hr', rfl⟩ | ⟨d, hr', rfl⟩ | ⟨d, hr', rfl⟩ | ⟨d, hr', rfl⟩ | ⟨d, g, f, hr', hl, e⟩ | ⟨d, m, hr', rfl⟩ | ⟨d, x, y, hr', rfl⟩
    · have z : decide (rkB pg nw 7 B < rkB pg nw 7 A) = false := decide_eq_false (Int.lt_irrefl 0)
      rw [z] at q
      exact (.inl ⟨_, rfl, r, _, dx, _, _, rfl, hx, T.cl_Turned, T.na_Turned_inner, rfl, r', d, _, rfl, hr', rfl, _, rfl, _, rfl, _, rfl, _, rfl, _, _, _, _, _, rfl, q⟩)
    · exact (.inr (.inl ⟨_, rfl, r, _, dx, _, _, rfl, hx, T.cl_Turned, T.na_Turned_inner, rfl, r', d, _, rfl, hr', rfl, _, rfl, _, rfl, _, rfl, _, rfl, _, _, _, _, _, B, A, rfl, hb, ha, q⟩))
    · exact (.inr (.inr (.inl ⟨_, rfl, r, _, dx, _, _, rfl, hx, T.cl_Turned, T.na_Turned_inner, rfl, r', d, _, rfl, hr', rfl, _, rfl, _, rfl, _, rfl, _, rfl, _, _, _, _, _, B, A, rfl, hb, ha, q⟩)))
    · exact (.inr (.inr (.inr (.inl ⟨_, rfl, r, _, dx, _, _, rfl, hx, T.cl_Turned, T.na_Turned_inner, rfl, r', d, _, rfl, hr', rfl, _, rfl, _, rfl, _, rfl, _, rfl, _, _, _, pg, nw, B, A, rfl, hb, ha, ob, oa, p1, (by rw [decide_eq_decide.mpr (worth_iff (mny_of p0) ob oa)]; exact q)⟩))))
    · rw [e, e] at q
      exact (.inr (.inr (.inr (.inr (.inl ⟨_, rfl, r, _, dx, _, _, rfl, hx, T.cl_Turned, T.na_Turned_inner, rfl, r', d, _, rfl, hr', rfl, _, rfl, _, rfl, _, rfl, _, rfl, r', _, _, _, _, B, A, g, d, f, rfl, hr', hl, hb, ha, q⟩)))))
    · exact (.inr (.inr (.inr (.inr (.inr (.inl ⟨_, rfl, r, _, dx, _, _, rfl, hx, T.cl_Turned, T.na_Turned_inner, rfl, r', d, _, rfl, hr', rfl, _, rfl, _, rfl, _, rfl, _, rfl, _, _, _, _, _, B, A, rfl, hb, ha, q⟩))))))
    · have z : decide (rkB pg nw 5 B < rkB pg nw 5 A) = false := decide_eq_false (Int.lt_irrefl 0)
      rw [z] at q
      exact (.inr (.inr (.inr (.inr (.inr (.inr (⟨_, rfl, r, _, dx, _, _, rfl, hx, T.cl_Turned, T.na_Turned_inner, rfl, r', d, _, rfl, hr', rfl, _, rfl, _, rfl, _, rfl, _, rfl, _, _, _, _, _, rfl, q⟩)))))))
def MdAt (t : Adr) (H : Hp) (r : Addr) (c : Int) : Prop := (trn c ∧ ∃ dx r', H r = some (.ins t.C_Turned dx [("inner", .ref r')]) ∧ BaAt t H r' (c % 8)) ∨ (¬ trn c ∧ BaAt t H r (c % 8))
theorem MdAt.same {t : Adr} {H H' : Hp} {r : Addr} {c : Int} (h : MdAt t H r c) (s : Same H H') : MdAt t H' r c := by
  rcases h with ⟨a, dx, r', b, d⟩ | ⟨a, b⟩
  · exact .inl ⟨a, dx, r', s _ _ b, d.same s⟩
  · exact .inr ⟨a, b.same s⟩
def MdV (t : Adr) (H : Hp) (v : V) (c : Int) : Prop := ∃ a, v = .ref a ∧ MdAt t H a c
def OrAt (t : Adr) (H : Hp) (r : Addr) (cs : List Int) : Prop := ∃ dx l rs, H r = some (.ins t.C_Order dx [("rules", .ref l)]) ∧ H l = some (.lst rs) ∧ Paired (MdV t H) rs cs
theorem OrAt.same {t : Adr} {H H' : Hp} {r : Addr} {cs : List Int} (h : OrAt t H r cs) (s : Same H H') : OrAt t H' r cs := let ⟨dx, l, rs, a, b, c⟩ := h; ⟨dx, l, rs, s _ _ a, s _ _ b, Paired.mapP c fun _ _ ⟨a, e, z⟩ => ⟨a, e, z.same s⟩⟩
def rkL (pg nw : Int) (cs : List Int) (T : Tl) : List Int := cs.map (rkC pg nw T)
theorem lx_at {f g : Int → Int} : ∀ {l : List Int} {i : Nat} {c : Int}, (∀ (j : Nat) d, j < i → l[j]? = some d → f d = g d) → l[i]? = some c → f c ≠ g c → lx (l.map f) (l.map g) = decide (f c < g c)
  | [], _, _, _, e, _ => nomatch e
  | a :: l, 0, c, _, e, n => by
    cases e
    show (if f a = g a then _ else decide (f a < g a)) = _
    rw [if_neg n]
  | a :: l, i + 1, c, h, e, n => by
    show (if f a = g a then lx (l.map f) (l.map g) else _) = _
    rw [if_pos (h 0 a (Nat.succ_pos _) rfl)]
    exact lx_at (fun j d hj hd => h (j + 1) d (Nat.succ_lt_succ hj) hd) e n
theorem lx_all {f g : Int → Int} {l : List Int} (h : ∀ (j : Nat) d, l[j]? = some d → f d = g d) : lx (l.map f) (l.map g) = false := by
  have e : l.map f = l.map g := List.map_congr_left fun a ha => by
    obtain ⟨j, hj⟩ := List.getElem?_of_mem ha
    exact h j a hj
  rw [e]
  exact lx_irr _
def spOr (t : Adr) : Sp := fun vs H Q _ => ∃ r a b pg nw A B cs, vs = [.ref r, a, b, .int pg, .int nw] ∧ OrAt t H r cs ∧ TlAt H a A ∧ TlAt H b B ∧ A.Ok pg nw ∧ B.Ok pg nw ∧ 1 ≤ pg ∧ pg ≤ 16 ∧ Q (.bl (lx (rkL pg nw cs A) (rkL pg nw cs B))) H
set_option maxHeartbeats 0 in
theorem ok_Order_goes_ahead (T : Txt K mg t) (S : Fns K t) : FnOk P w K mg base (CX0) 7 t.f_Order_goes_ahead S.fd_Order_goes_ahead ["self", "one", "other", "pages", "now"] (spOr t) := by
  refine S.F_Order_goes_ahead.ok0 sc_Order_goes_ahead (fun vs H Q E h => ?_) (fun cdv A outer s H vs Q E hr h => ?_)
  · obtain ⟨r, a, b, pg, nw, A, B, cs, rfl, _⟩ := h
    rfl
  · obtain ⟨r, a, b, pg, nw, A, B, cs, rfl, ⟨dx, l, rs, hx, hl, hp⟩, ha, hb, oa, ob, p0, p1, q⟩ := h
    refine ⟨_, (pss_cons (ps_for PassesOwn.never rfl (pi_list (pe_fld (pv 0) rfl)) (pg_name (i := 5) sc_Order_goes_ahead.nd rfl (Or.inl rfl)) (pss_cons (ps_if (pt_val (pe_mid (pe_alt (pe_meth (pv 5) T.cl_Rule T.m_Rule_goes_ahead ((ok_Rule_goes_ahead T S).mono (by decide)) hr S.b_Rule_goes_ahead .nil pass0 (pa_cons (pv 1) (pa_cons (pv 2) (pa_cons (pv 3) (pa_cons (pv 4) pa_nil))))) (pe_alt (pe_meth (pv 5) T.cl_Fewest T.m_Fewest_goes_ahead ((ok_Fewest_goes_ahead T S).mono (by decide)) hr S.b_Fewest_goes_ahead .nil pass0 (pa_cons (pv 1) (pa_cons (pv 2) (pa_cons (pv 3) (pa_cons (pv 4) pa_nil))))) (pe_alt (pe_meth (pv 5) T.cl_Eldest T.m_Eldest_goes_ahead ((ok_Eldest_goes_ahead T S).mono (by decide)) hr S.b_Eldest_goes_ahead .nil pass0 (pa_cons (pv 1) (pa_cons (pv 2) (pa_cons (pv 3) (pa_cons (pv 4) pa_nil))))) (pe_alt (pe_meth (pv 5) T.cl_Worth T.m_Worth_goes_ahead ((ok_Worth_goes_ahead T S).mono (by decide)) hr S.b_Worth_goes_ahead .nil pass0 (pa_cons (pv 1) (pa_cons (pv 2) (pa_cons (pv 3) (pa_cons (pv 4) pa_nil))))) (pe_alt (pe_meth (pv 5) T.cl_Weighed T.m_Weighed_goes_ahead ((ok_Weighed_goes_ahead T S).mono (by decide)) hr S.b_Weighed_goes_ahead .nil pass0 (pa_cons (pv 1) (pa_cons (pv 2) (pa_cons (pv 3) (pa_cons (pv 4) pa_nil))))) (pe_alt (pe_meth (pv 5) T.cl_Window T.m_Window_goes_ahead ((ok_Fewest_goes_ahead T S).mono (by decide)) hr S.b_Fewest_goes_ahead .nil pass0 (pa_cons (pv 1) (pa_cons (pv 2) (pa_cons (pv 3) (pa_cons (pv 4) pa_nil))))) (pe_alt (pe_meth (pv 5) T.cl_Follow T.m_Follow_goes_ahead ((ok_Rule_goes_ahead T S).mono (by decide)) hr S.b_Rule_goes_ahead .nil pass0 (pa_cons (pv 1) (pa_cons (pv 2) (pa_cons (pv 3) (pa_cons (pv 4) pa_nil))))) (pe_meth (pv 5) T.cl_Turned T.m_Turned_goes_ahead ((ok_turned1 T S).mono (by decide)) hr S.b_Turned_goes_ahead .nil pass0 (pa_cons (pv 1) (pa_cons (pv 2) (pa_cons (pv 3) (pa_cons (pv 4) pa_nil)))))))))))))) (pss_one (ps_ret pe_bl)) pss_nil) (pss_one (ps_if (pt_val (pe_mid (pe_alt (pe_meth (pv 5) T.cl_Rule T.m_Rule_goes_ahead ((ok_Rule_goes_ahead T S).mono (by decide)) hr S.b_Rule_goes_ahead .nil pass0 (pa_cons (pv 2) (pa_cons (pv 1) (pa_cons (pv 3) (pa_cons (pv 4) pa_nil))))) (pe_alt (pe_meth (pv 5) T.cl_Fewest T.m_Fewest_goes_ahead ((ok_Fewest_goes_ahead T S).mono (by decide)) hr S.b_Fewest_goes_ahead .nil pass0 (pa_cons (pv 2) (pa_cons (pv 1) (pa_cons (pv 3) (pa_cons (pv 4) pa_nil))))) (pe_alt (pe_meth (pv 5) T.cl_Eldest T.m_Eldest_goes_ahead ((ok_Eldest_goes_ahead T S).mono (by decide)) hr S.b_Eldest_goes_ahead .nil pass0 (pa_cons (pv 2) (pa_cons (pv 1) (pa_cons (pv 3) (pa_cons (pv 4) pa_nil))))) (pe_alt (pe_meth (pv 5) T.cl_Worth T.m_Worth_goes_ahead ((ok_Worth_goes_ahead T S).mono (by decide)) hr S.b_Worth_goes_ahead .nil pass0 (pa_cons (pv 2) (pa_cons (pv 1) (pa_cons (pv 3) (pa_cons (pv 4) pa_nil))))) (pe_alt (pe_meth (pv 5) T.cl_Weighed T.m_Weighed_goes_ahead ((ok_Weighed_goes_ahead T S).mono (by decide)) hr S.b_Weighed_goes_ahead .nil pass0 (pa_cons (pv 2) (pa_cons (pv 1) (pa_cons (pv 3) (pa_cons (pv 4) pa_nil))))) (pe_alt (pe_meth (pv 5) T.cl_Window T.m_Window_goes_ahead ((ok_Fewest_goes_ahead T S).mono (by decide)) hr S.b_Fewest_goes_ahead .nil pass0 (pa_cons (pv 2) (pa_cons (pv 1) (pa_cons (pv 3) (pa_cons (pv 4) pa_nil))))) (pe_alt (pe_meth (pv 5) T.cl_Follow T.m_Follow_goes_ahead ((ok_Rule_goes_ahead T S).mono (by decide)) hr S.b_Rule_goes_ahead .nil pass0 (pa_cons (pv 2) (pa_cons (pv 1) (pa_cons (pv 3) (pa_cons (pv 4) pa_nil))))) (pe_meth (pv 5) T.cl_Turned T.m_Turned_goes_ahead ((ok_turned1 T S).mono (by decide)) hr S.b_Turned_goes_ahead .nil pass0 (pa_cons (pv 2) (pa_cons (pv 1) (pa_cons (pv 3) (pa_cons (pv 4) pa_nil)))))))))))))) (pss_one (ps_ret pe_bl)) pss_nil)))) (pss_one (ps_ret pe_bl))), ?_⟩
    refine ⟨_, rfl, r, _, dx, _, _, rfl, hx, T.cl_Order, T.na_Order_rules, rfl, l, rfl, ⟨_, SqL.of hl⟩, ?_⟩
    refine for_list (K := K) (a := l) (xs := rs) (fun i σ' H' => H = H' ∧ (∃ y, σ' = [some (.ref r), some a, some b, some (.int pg), some (.int nw), y]) ∧ ∀ (j : Nat) d, j < i → cs[j]? = some d → rkC pg nw A d = rkC pg nw B d) ⟨rfl, ⟨_, rfl⟩, fun j d hj => absurd hj (Nat.not_lt_zero _)⟩ (fun i σ' H' _ hp => by obtain ⟨rfl, _⟩ := hp; exact SqL.of hl) (fun i v σ' H' hv hp' => ?_) (fun σ' H' hp' => ?_)
    · obtain ⟨rfl, ⟨y, rfl⟩, eq⟩ := hp'
      obtain ⟨c, hc, ra, rfl, md⟩ := Paired.at hp hv
      refine ⟨fun v H' => v = .bl (decide (rkC pg nw A c < rkC pg nw B c)) ∧ H = H', ?_, ?_⟩
      · have q0 : (trn c ∧ V.bl (decide (rkB pg nw (c % 8) B < rkB pg nw (c % 8) A)) = V.bl (decide (rkC pg nw A c < rkC pg nw B c))) ∨ (¬ trn c ∧ V.bl (decide (rkB pg nw (c % 8) A < rkB pg nw (c % 8) B)) = V.bl (decide (rkC pg nw A c < rkC pg nw B c))) := by
          by_cases z : trn c
          · refine .inl ⟨z, ?_⟩
            rw [rkC, rkC, if_pos z, if_pos z]
            exact congrArg V.bl (decide_eq_decide.mpr (by omega))
          · refine .inr ⟨z, ?_⟩
            rw [rkC, rkC, if_neg z, if_neg z]
        generalize decide (rkC pg nw A c < rkC pg nw B c) = X at q0 ⊢
        have md := md
        unfold MdAt at md
        generalize c % 8 = kd at q0 md
        rcases md with ⟨z, dx2, r2, hx2, hi⟩ | ⟨z, hi⟩
        · have q1 : V.bl (decide (rkB pg nw kd B < rkB pg nw kd A)) = V.bl X ∧ H = H := ⟨q0.elim (fun y => y.2) (fun y => absurd z y.1), rfl⟩
          exact (.inr (.inr (.inr (.inr (.inr (.inr (.inr ⟨_, rfl, ra, dx2, _, rfl, hx2, rfl, _, rfl, _, rfl, _, rfl, _, rfl, ra, _, _, pg, nw, A, B, kd, dx2, r2, rfl, hx2, hi, ha, hb, oa, ob, p0, p1, q1⟩)))))))
        · have q1 : V.bl (decide (rkB pg nw kd A < rkB pg nw kd B)) = V.bl X ∧ H = H := ⟨q0.elim (fun y => absurd y.1 z) (fun y => y.2), rfl⟩
          rcases hi with ⟨d, hr', rfl⟩ | ⟨d, hr', rfl⟩ | ⟨d, hr', rfl⟩ | ⟨d, hr', rfl⟩ | ⟨d, g, f, hr', hl, e⟩ | ⟨d, m, hr', rfl⟩ | ⟨d, x, y, hr', rfl⟩
          · have z : decide (rkB pg nw 7 A < rkB pg nw 7 B) = false := decide_eq_false (Int.lt_irrefl 0)
            rw [z] at q1
            exact (.inl ⟨_, rfl, ra, d, _, rfl, hr', rfl, _, rfl, _, rfl, _, rfl, _, rfl, _, _, _, _, _, rfl, q1⟩)
          · exact (.inr (.inl ⟨_, rfl, ra, d, _, rfl, hr', rfl, _, rfl, _, rfl, _, rfl, _, rfl, _, _, _, _, _, A, B, rfl, ha, hb, q1⟩))
          · exact (.inr (.inr (.inl ⟨_, rfl, ra, d, _, rfl, hr', rfl, _, rfl, _, rfl, _, rfl, _, rfl, _, _, _, _, _, A, B, rfl, ha, hb, q1⟩)))
          · exact (.inr (.inr (.inr (.inl ⟨_, rfl, ra, d, _, rfl, hr', rfl, _, rfl, _, rfl, _, rfl, _, rfl, _, _, _, pg, nw, A, B, rfl, ha, hb, oa, ob, p1, (by rw [decide_eq_decide.mpr (worth_iff (mny_of p0) oa ob)]; exact q1)⟩))))
          · rw [e, e] at q1
            exact (.inr (.inr (.inr (.inr (.inl ⟨_, rfl, ra, d, _, rfl, hr', rfl, _, rfl, _, rfl, _, rfl, _, rfl, ra, _, _, _, _, A, B, g, d, f, rfl, hr', hl, ha, hb, q1⟩)))))
          · exact (.inr (.inr (.inr (.inr (.inr (.inl ⟨_, rfl, ra, d, _, rfl, hr', rfl, _, rfl, _, rfl, _, rfl, _, rfl, _, _, _, _, _, A, B, rfl, ha, hb, q1⟩))))))
          · have z : decide (rkB pg nw 5 A < rkB pg nw 5 B) = false := decide_eq_false (Int.lt_irrefl 0)
            rw [z] at q1
            exact (.inr (.inr (.inr (.inr (.inr (.inr (.inl ⟨_, rfl, ra, d, _, rfl, hr', rfl, _, rfl, _, rfl, _, rfl, _, rfl, _, _, _, _, _, rfl, q1⟩)))))))
      rintro v H' ⟨rfl, rfl⟩
      refine ⟨_, rfl, ?_⟩
      by_cases lt1 : rkC pg nw A c < rkC pg nw B c
      · rw [decide_eq_true lt1]
        have z := lx_at (f := rkC pg nw A) (g := rkC pg nw B) eq hc (by omega)
        rw [show lx (rkL pg nw cs A) (rkL pg nw cs B) = true from z.trans (decide_eq_true lt1)] at q
        exact iteT q
      rw [decide_eq_false lt1]
      refine iteF ?_
      refine ⟨fun v H' => v = .bl (decide (rkC pg nw B c < rkC pg nw A c)) ∧ H = H', ?_, ?_⟩
      · have q0 : (trn c ∧ V.bl (decide (rkB pg nw (c % 8) A < rkB pg nw (c % 8) B)) = V.bl (decide (rkC pg nw B c < rkC pg nw A c))) ∨ (¬ trn c ∧ V.bl (decide (rkB pg nw (c % 8) B < rkB pg nw (c % 8) A)) = V.bl (decide (rkC pg nw B c < rkC pg nw A c))) := by
          by_cases z : trn c
          · refine .inl ⟨z, ?_⟩
            rw [rkC, rkC, if_pos z, if_pos z]
            exact congrArg V.bl (decide_eq_decide.mpr (by omega))
          · refine .inr ⟨z, ?_⟩
            rw [rkC, rkC, if_neg z, if_neg z]
        generalize decide (rkC pg nw B c < rkC pg nw A c) = X at q0 ⊢
        have md := md
        unfold MdAt at md
        generalize c % 8 = kd at q0 md
        rcases md with ⟨z, dx2, r2, hx2, hi⟩ | ⟨z, hi⟩
        · have q1 : V.bl (decide (rkB pg nw kd A < rkB pg nw kd B)) = V.bl X ∧ H = H := ⟨q0.elim (fun y => y.2) (fun y => absurd z y.1), rfl⟩
          exact (.inr (.inr (.inr (.inr (.inr (.inr (.inr ⟨_, rfl, ra, dx2, _, rfl, hx2, rfl, _, rfl, _, rfl, _, rfl, _, rfl, ra, _, _, pg, nw, B, A, kd, dx2, r2, rfl, hx2, hi, hb, ha, ob, oa, p0, p1, q1⟩)))))))
        · have q1 : V.bl (decide (rkB pg nw kd B < rkB pg nw kd A)) = V.bl X ∧ H = H := ⟨q0.elim (fun y => absurd y.1 z) (fun y => y.2), rfl⟩
          rcases hi with ⟨d, hr', rfl⟩ | ⟨d, hr', rfl⟩ | ⟨d, hr', rfl⟩ | ⟨d, hr', rfl⟩ | ⟨d, g, f, hr', hl, e⟩ | ⟨d, m, hr', rfl⟩ | ⟨d, x, y, hr', rfl⟩
          · have z : decide (rkB pg nw 7 B < rkB pg nw 7 A) = false := decide_eq_false (Int.lt_irrefl 0)
            rw [z] at q1
            exact (.inl ⟨_, rfl, ra, d, _, rfl, hr', rfl, _, rfl, _, rfl, _, rfl, _, rfl, _, _, _, _, _, rfl, q1⟩)
          · exact (.inr (.inl ⟨_, rfl, ra, d, _, rfl, hr', rfl, _, rfl, _, rfl, _, rfl, _, rfl, _, _, _, _, _, B, A, rfl, hb, ha, q1⟩))
          · exact (.inr (.inr (.inl ⟨_, rfl, ra, d, _, rfl, hr', rfl, _, rfl, _, rfl, _, rfl, _, rfl, _, _, _, _, _, B, A, rfl, hb, ha, q1⟩)))
          · exact (.inr (.inr (.inr (.inl ⟨_, rfl, ra, d, _, rfl, hr', rfl, _, rfl, _, rfl, _, rfl, _, rfl, _, _, _, pg, nw, B, A, rfl, hb, ha, ob, oa, p1, (by rw [decide_eq_decide.mpr (worth_iff (mny_of p0) ob oa)]; exact q1)⟩))))
          · rw [e, e] at q1
            exact (.inr (.inr (.inr (.inr (.inl ⟨_, rfl, ra, d, _, rfl, hr', rfl, _, rfl, _, rfl, _, rfl, _, rfl, ra, _, _, _, _, B, A, g, d, f, rfl, hr', hl, hb, ha, q1⟩)))))
          · exact (.inr (.inr (.inr (.inr (.inr (.inl ⟨_, rfl, ra, d, _, rfl, hr', rfl, _, rfl, _, rfl, _, rfl, _, rfl, _, _, _, _, _, B, A, rfl, hb, ha, q1⟩))))))
          · have z : decide (rkB pg nw 5 B < rkB pg nw 5 A) = false := decide_eq_false (Int.lt_irrefl 0)
            rw [z] at q1
            exact (.inr (.inr (.inr (.inr (.inr (.inr (.inl ⟨_, rfl, ra, d, _, rfl, hr', rfl, _, rfl, _, rfl, _, rfl, _, rfl, _, _, _, _, _, rfl, q1⟩)))))))
      rintro v H' ⟨rfl, rfl⟩
      refine ⟨_, rfl, ?_⟩
      by_cases lt2 : rkC pg nw B c < rkC pg nw A c
      · rw [decide_eq_true lt2]
        have z := lx_at (f := rkC pg nw A) (g := rkC pg nw B) eq hc (by omega)
        rw [show lx (rkL pg nw cs A) (rkL pg nw cs B) = false from z.trans (decide_eq_false (by omega))] at q
        exact iteT q
      rw [decide_eq_false lt2]
      refine iteF ⟨rfl, ⟨_, rfl⟩, fun j d hj hd => ?_⟩
      by_cases z : j = i
      · subst z
        rw [hc] at hd
        cases hd
        omega
      · exact eq j d (by omega) hd
    · obtain ⟨rfl, ⟨y, rfl⟩, eq⟩ := hp'
      have z : lx (rkL pg nw cs A) (rkL pg nw cs B) = false := lx_all fun j d hd => eq j d (by rw [hp.len]; exact (List.getElem?_eq_some_iff.mp hd).1) hd
      rw [z] at q
      exact q
def spT2 (t : Adr) : Sp := fun vs H Q _ => ∃ r a b pg nw A B cs dx i, vs = [.ref r, a, b, .int pg, .int nw] ∧ H r = some (.ins t.C_Turned dx [("inner", .ref i)]) ∧ OrAt t H i cs ∧ TlAt H a A ∧ TlAt H b B ∧ A.Ok pg nw ∧ B.Ok pg nw ∧ 1 ≤ pg ∧ pg ≤ 16 ∧ Q (.bl (lx (rkL pg nw cs B) (rkL pg nw cs A))) H
theorem ok_Turned_goes_ahead (T : Txt K mg t) (S : Fns K t) : FnOk P w K mg base (CX0) 8 t.f_Turned_goes_ahead S.fd_Turned_goes_ahead ["self", "one", "other", "pages", "now"] (spT2 t) := by
  refine S.F_Turned_goes_ahead.ok0 sc_Turned_goes_ahead (fun vs H Q E h => ?_) (fun cdv A outer s H vs Q E hr h => ?_)
  · obtain ⟨r, a, b, pg, nw, A, B, cs, dx, i, rfl, _⟩ := h
    rfl
  · obtain ⟨r, a, b, pg, nw, A, B, cs, dx, i, rfl, hx, ho, ha, hb, oa, ob, p0, p1, q⟩ := h
    refine ⟨_, (pss_one (ps_ret (pe_meth (pe_fld (pv 0) rfl) T.cl_Order T.m_Order_goes_ahead ((ok_Order_goes_ahead T S).mono (by decide)) hr S.b_Order_goes_ahead .nil pass0 (pa_cons (pv 2) (pa_cons (pv 1) (pa_cons (pv 3) (pa_cons (pv 4) pa_nil))))))), ?_⟩
    obtain ⟨d, l, rs, hi, hl, hp⟩ := id ho
    exact ⟨_, rfl, r, _, dx, _, _, rfl, hx, T.cl_Turned, T.na_Turned_inner, rfl, i, d, _, rfl, hi, rfl, _, rfl, _, rfl, _, rfl, _, rfl, i, _, _, pg, nw, B, A, cs, rfl, ho, hb, ha, ob, oa, p0, p1, q⟩
def spOI (K : PySem.W.Frag) (t : Adr) : Sp := fun vs H Q E => ∃ x dx l rs, vs = [.ref x, .ref l] ∧ H x = some (.ins t.C_Order dx []) ∧ H l = some (.lst rs) ∧
  (if 1 ≤ rs.length ∧ rs.length ≤ 8 then ∀ rl H', H rl = none → H' x = some (.ins t.C_Order dx [("rules", .ref rl)]) → H' rl = some (.lst rs) → (∀ b o, b ≠ x → H b = some o → H' b = some o) → Q .non H' else E (.ref t.C_NoRule) none H)
theorem ok_Order_init (T : Txt K mg t) (S : Fns K t) : FnOk P w K mg base (CXe P w) 3 t.f_Order_init S.fd_Order_init ["self", "rules"] (spOI K t) := by
  refine S.F_Order_init.okE sc_Order_init (fun vs H Q E h => ?_) (fun cdv A outer s H vs Q E hr h => ?_)
  · obtain ⟨x, dx, l, rs, rfl, _⟩ := h
    rfl
  · obtain ⟨x, dx, l, rs, rfl, hx, hl, q⟩ := h
    refine ⟨_, (pss_cons (ps_if (pt_not (pt_val (pe_call ((ok_is_within T S).mono (by decide)) hr rfl T.mg_is_within T.kp_is_within S.b_is_within .nil pass0 (pa_cons (pe_callB call_len_seq (by rfl) T.b_len PySem.boot_len (pa_cons (pv 1) pa_nil)) (pa_cons pe_int (pa_cons pe_int pa_nil)))))) (pss_one (ps_raise takes_fn rfl rfl T.mg_NoRule T.x_NoRule (pa_cons pe_str pa_nil))) pss_nil) (pss_one (ps_fld (pv 0) (pe_callTy call_list_ofN (by rfl) T.b_list (by kernel_rfl) (pa_cons (pv 1) pa_nil)) rfl))), ?_⟩
    refine ⟨_, rfl, l, _, rfl, .inl (SqL.of hl), .int rs.length, _, _, rfl, .int _, _, rfl, ?_⟩
    by_cases z : 1 ≤ rs.length ∧ rs.length ≤ 8
    · rw [if_pos z] at q
      have e : inB (.int rs.length) 1 8 = true := by
        show (decide (1 ≤ (rs.length : Int)) && decide ((rs.length : Int) ≤ 8)) = true
        rw [decide_eq_true (by omega), decide_eq_true (by omega)]
        rfl
      rw [e]
      refine iteF ?_
      refine ⟨_, rfl, l, _, rfl, .inl (SqL.of hl), fun rl H1 n1 s1 h1 => ?_⟩
      refine ⟨_, rfl, x, _, dx, _, rfl, s1 _ _ hx, T.cl_Order, T.na_Order_rules, by simp, ?_⟩
      have ne : rl ≠ x := ne_of h1 (s1 _ _ hx) (by intro z; cases z)
      refine q rl _ n1 upd_same ?_ (fun b o nb e => ?_)
      · rw [upd_ne ne]
        exact h1
      · rw [upd_ne nb]
        exact s1 _ _ e
    · rw [if_neg z] at q
      have e : inB (.int rs.length) 1 8 = false := by
        show (decide (1 ≤ (rs.length : Int)) && decide ((rs.length : Int) ≤ 8)) = false
        by_cases y : 1 ≤ rs.length
        · rw [decide_eq_false (show ¬ (rs.length : Int) ≤ 8 by omega), Bool.and_false]
        · rw [decide_eq_false (show ¬ 1 ≤ (rs.length : Int) by omega), Bool.false_and]
      rw [e]
      exact iteT ⟨by show 1 ≤ sizeLine; decide, q⟩
theorem rkW_in {pg nw : Int} {T : Tl} (o : T.Ok pg nw) (p0 : 1 ≤ pg) (p1 : pg ≤ 16) (hn : nw ≤ 10 ^ 30) : -(10 ^ 60) ≤ rkW pg nw (mnOf pg) T ∧ rkW pg nw (mnOf pg) T ≤ 0 := by
  obtain ⟨b0, b1, l0, l1, c0, c1, o0, o1⟩ := o
  have m0 := pr_pos p0 (pg + 1).toNat
  have m1 := pr_le p0 p1 (pg + 1).toNat (by omega)
  have m2 : (33 : Int) ^ (pg + 1).toNat ≤ 33 ^ 17 := by
    have : pg = 1 ∨ pg = 2 ∨ pg = 3 ∨ pg = 4 ∨ pg = 5 ∨ pg = 6 ∨ pg = 7 ∨ pg = 8 ∨ pg = 9 ∨ pg = 10 ∨ pg = 11 ∨ pg = 12 ∨ pg = 13 ∨ pg = 14 ∨ pg = 15 ∨ pg = 16 := by omega
    rcases this with rfl | rfl | rfl | rfl | rfl | rfl | rfl | rfl | rfl | rfl | rfl | rfl | rfl | rfl | rfl | rfl <;> decide
  unfold rkW mnOf
  generalize pr pg (pg + 1).toNat = M at m0 m1 ⊢
  have d0 : 0 ≤ M / (pg + T.lv) := Int.ediv_nonneg (by omega) (by omega)
  have d1 : M / (pg + T.lv) ≤ M := Int.ediv_le_self _ (by omega)
  generalize M / (pg + T.lv) = d at d0 d1 ⊢
  have x0 : 0 ≤ (pg - T.lv) * (nw - T.bo) := Int.mul_nonneg (by omega) (by omega)
  have x1 : (pg - T.lv) * (nw - T.bo) ≤ 16 * 10 ^ 30 := Int.mul_le_mul (by omega) (by omega) (by omega) (by decide)
  generalize (pg - T.lv) * (nw - T.bo) = x at x0 x1 ⊢
  have y0 : 0 ≤ x * d := Int.mul_nonneg x0 d0
  have y1 : x * d ≤ 16 * 10 ^ 30 * 33 ^ 17 := Int.mul_le_mul x1 (by omega) d0 (by decide)
  have y2 : (16 : Int) * 10 ^ 30 * 33 ^ 17 ≤ 10 ^ 60 := by decide
  omega
theorem rkC_in {pg nw : Int} {T : Tl} (o : T.Ok pg nw) (p0 : 1 ≤ pg) (p1 : pg ≤ 16) (hn : nw ≤ 10 ^ 30) (c : Int) : -(10 ^ 60) ≤ rkC pg nw T c ∧ rkC pg nw T c ≤ 10 ^ 60 := by
  have w := rkW_in o p0 p1 hn
  have b : ∀ kd, -(10 ^ 60) ≤ rkB pg nw kd T ∧ rkB pg nw kd T ≤ 10 ^ 60 := fun kd => by
    obtain ⟨b0, b1, l0, l1, c0, c1, o0, o1⟩ := o
    unfold rkB
    split
    · omega
    · split
      · omega
      · split
        · omega
        · split
          · omega
          · split
            · omega
            · split <;> omega
  have := b (c % 8)
  unfold rkC
  split <;> omega
def encT (pg nw : Int) (cs : List Int) (T : Tl) : Int := enc (4 * 10 ^ 60) (rkL pg nw cs T)
theorem lx_enc {pg nw : Int} {A B : Tl} {cs : List Int} (oa : A.Ok pg nw) (ob : B.Ok pg nw) (p0 : 1 ≤ pg) (p1 : pg ≤ 16) (hn : nw ≤ 10 ^ 30) : lx (rkL pg nw cs A) (rkL pg nw cs B) = decide (encT pg nw cs A < encT pg nw cs B) := by
  refine enc_lx (by decide) (by rw [rkL, rkL, List.length_map, List.length_map]) (fun a ha => ?_) (fun a ha => ?_)
  · obtain ⟨c, _, rfl⟩ := List.mem_map.mp ha
    exact rkC_in oa p0 p1 hn c
  · obtain ⟨c, _, rfl⟩ := List.mem_map.mp ha
    exact rkC_in ob p0 p1 hn c
def RuAt (t : Adr) (H : Hp) (r : Addr) (pg nw : Int) (f : Tl → Int) : Prop := ∃ cs, 1 ≤ pg ∧ nw ≤ 10 ^ 30 ∧ ((OrAt t H r cs ∧ f = encT pg nw cs) ∨ (∃ dx i, H r = some (.ins t.C_Turned dx [("inner", .ref i)]) ∧ OrAt t H i cs ∧ f = fun T => 0 - encT pg nw cs T))
def spUn (t : Adr) (K : PySem.W.Frag) : Sp := fun vs H Q _ => ∃ r v l pg nw T us ts f, vs = [.ref r, v, .ref l, .int pg, .int nw] ∧ RuAt t H r pg nw f ∧ TlAt H v T ∧ SqL K H l us ∧ Tls H us ts ∧ T.Ok pg nw ∧ (∀ o ∈ ts, o.Ok pg nw) ∧ pg ≤ 16 ∧ Q (.bl (unb f ts T)) H
theorem ok_is_unbeaten (T : Txt K mg t) (S : Fns K t) : FnOk P w K mg base (CX0) 9 t.f_is_unbeaten S.fd_is_unbeaten ["rule", "tally", "tallies", "pages", "now"] (spUn t K) := by
  refine S.F_is_unbeaten.ok0 sc_is_unbeaten (fun vs H Q E h => ?_) (fun cdv A outer s H vs Q E hr h => ?_)
  · obtain ⟨r, v, l, pg, nw, A, us, ts, f, rfl, _⟩ := h
    rfl
  · obtain ⟨r, v, l, pg, nw, A, us, ts, f, rfl, hR, hv, hl, hts, oa, os, hpg, q⟩ := h
    obtain ⟨va, rfl, hva⟩ := id hv
    have hlen := hts.len
    refine ⟨_, (pss_cons (ps_for PassesOwn.never rfl (pi_list (pv 2)) (pg_name (i := 5) sc_is_unbeaten.nd rfl (Or.inl rfl)) (pss_one (ps_if (PW.pt (pw_and (pt_cmpR (op_neTI hr.units) (pv 5) (pv 1) (nomark _)) (pw_and1 (pt_val (pe_mid (pe_alt (pe_meth (pv 0) T.cl_Order T.m_Order_goes_ahead ((ok_Order_goes_ahead T S).mono (by decide)) hr S.b_Order_goes_ahead .nil pass0 (pa_cons (pv 5) (pa_cons (pv 1) (pa_cons (pv 3) (pa_cons (pv 4) pa_nil))))) (pe_meth (pv 0) T.cl_Turned T.m_Turned_goes_ahead ((ok_Turned_goes_ahead T S).mono (by decide)) hr S.b_Turned_goes_ahead .nil pass0 (pa_cons (pv 5) (pa_cons (pv 1) (pa_cons (pv 3) (pa_cons (pv 4) pa_nil))))))))))) (pss_one (ps_ret pe_bl)) pss_nil))) (pss_one (ps_ret pe_bl))), ?_⟩
    refine ⟨_, rfl, l, rfl, ⟨us, hl⟩, ?_⟩
    refine for_list (K := K) (xs := us) (fun i σ' H2 => ∃ y, σ' = [some (.ref r), some (.ref va), some (.ref l), some (.int pg), some (.int nw), y] ∧ H2 = H ∧ ∀ j, ∀ hj : j < ts.length, j < i → ¬ f ts[j] < f A) ⟨_, rfl, rfl, fun j _ z => absurd z (Nat.not_lt_zero _)⟩ (fun i σ' H2 hi hp => ?_) (fun i x σ' H2 hx hp => ?_) (fun σ' H2 hp => ?_)
    · obtain ⟨y, rfl, rfl, _⟩ := hp
      exact hl
    · obtain ⟨y, rfl, rfl, hm⟩ := hp
      obtain ⟨O, hO, ho⟩ := Paired.at hts hx
      obtain ⟨xa, rfl, hxa⟩ := id ho
      have hi : i < ts.length := (List.getElem?_eq_some_iff.mp hO).1
      obtain rfl : ts[i] = O := (List.getElem?_eq_some_iff.mp hO).2
      have ok : (ts[i]).Ok pg nw := os _ (List.getElem_mem hi)
      refine ⟨_, rfl, _, rfl, xa, va, (ts[i]).ns, A.ns, rfl, rfl, SqT.of hxa, SqT.of hva, rfl, _, rfl, ?_⟩
      by_cases e : (ts[i]).ns = A.ns
      · rw [decide_eq_true e]
        refine iteF (iteF ⟨_, rfl, rfl, fun j hj z => ?_⟩)
        by_cases ej : j = i
        · subst ej
          rw [Tl.eq_of e]
          exact Int.lt_irrefl _
        · exact hm j hj (by omega)
      · rw [decide_eq_false e]
        refine iteT ?_
        refine ⟨fun v' H' => v' = .bl (decide (f ts[i] < f A)) ∧ H' = H2, ?_, ?_⟩
        · obtain ⟨cs, p0, hn, ⟨hO, rfl⟩ | ⟨dx, io, hx, hO, rfl⟩⟩ := hR
          · obtain ⟨d, l2, rs, hI, _⟩ := id hO
            exact .inl ⟨_, rfl, r, d, _, rfl, hI, rfl, _, rfl, _, rfl, _, rfl, _, rfl, r, _, _, pg, nw, ts[i], A, cs, rfl, hO, ho, hv, ok, oa, p0, hpg, by rw [lx_enc ok oa p0 hpg hn], rfl⟩
          · exact .inr ⟨_, rfl, r, dx, _, rfl, hx, rfl, _, rfl, _, rfl, _, rfl, _, rfl, r, _, _, pg, nw, ts[i], A, cs, dx, io, rfl, hx, hO, ho, hv, ok, oa, p0, hpg, congrArg V.bl ((lx_enc oa ok p0 hpg hn).trans (decide_eq_decide.mpr (by dsimp only; omega))), rfl⟩
        · rintro v' H' ⟨rfl, rfl⟩
          refine ⟨_, rfl, ?_⟩
          by_cases g : f ts[i] < f A
          · rw [decide_eq_true g]
            refine iteT ?_
            have z : unb f ts A = false := by
              cases z : unb f ts A with
              | false => rfl
              | true => exact absurd (unb_iff.mp z _ (List.getElem_mem hi)) (by omega)
            rw [z] at q
            exact q
          · rw [decide_eq_false g]
            refine iteF ⟨_, rfl, rfl, fun j hj z => ?_⟩
            by_cases ej : j = i
            · subst ej
              exact g
            · exact hm j hj (by omega)
    · obtain ⟨y, rfl, rfl, hm⟩ := hp
      have z : unb f ts A = true := unb_iff.mpr fun o ho => by
        obtain ⟨j, hj, rfl⟩ := List.getElem_of_mem ho
        have := hm j hj (by omega)
        omega
      rw [z] at q
      exact q
def spFu (t : Adr) (K : PySem.W.Frag) : Sp := fun vs H Q _ => ∃ r l pg nw us ts f, vs = [.ref r, .ref l, .int pg, .int nw] ∧ RuAt t H r pg nw f ∧ SqL K H l us ∧ Tls H us ts ∧ (∀ o ∈ ts, o.Ok pg nw) ∧ pg ≤ 16 ∧ ts ≠ [] ∧ Q (.int (pk f ts)) H
theorem ok_first_unbeaten (T : Txt K mg t) (S : Fns K t) : FnOk P w K mg base (CX0) 10 t.f_first_unbeaten S.fd_first_unbeaten ["rule", "tallies", "pages", "now"] (spFu t K) := by
  refine S.F_first_unbeaten.ok0 sc_first_unbeaten (fun vs H Q E h => ?_) (fun cdv A outer s H vs Q E hr h => ?_)
  · obtain ⟨r, l, pg, nw, us, ts, f, rfl, _⟩ := h
    rfl
  · obtain ⟨r, l, pg, nw, us, ts, f, rfl, hR, hl, hts, os, hpg, hne, q⟩ := h
    have hlen := hts.len
    obtain ⟨i, hi, hu, hn⟩ := exists_unb f ts hne
    have at' : ∀ j, ∀ hj : j < ts.length, ∃ x, us[j]? = some x ∧ TlAt H x ts[j] := fun j hj => by
      have e : us[j]? = some (us[j]'(by omega)) := List.getElem?_eq_getElem (by omega)
      obtain ⟨O, hO, ho⟩ := Paired.at hts e
      obtain rfl : ts[j] = O := (List.getElem?_eq_some_iff.mp hO).2
      exact ⟨_, e, ho⟩
    refine ⟨_, (pss_cons (ps_set (i := 4) sc_first_unbeaten.nd rfl (Or.inl rfl) pe_int) (pss_cons (ps_while PassesOwn.never (pt_not (pt_val (pe_call ((ok_is_unbeaten T S).mono (by decide)) hr rfl T.mg_is_unbeaten T.kp_is_unbeaten S.b_is_unbeaten .nil pass0 (pa_cons (pv 0) (pa_cons (pe_ix ix_list (pv 1) (pv 4) (fun _ _ => rfl)) (pa_cons (pv 1) (pa_cons (pv 2) (pa_cons (pv 3) pa_nil)))))))) (pss_one (ps_aug (i := 4) sc_first_unbeaten.nd rfl (Or.inl rfl) pe_int ip_add))) (pss_one (ps_ret (pe_ix ix_tup (pe_ix ix_list (pv 1) (pv 4) (fun _ _ => rfl)) pe_int (fun _ _ => rfl)))))), ?_⟩
    refine ⟨fun m σ' H2 => H2 = H ∧ ∃ p : Nat, σ' = [some (.ref r), some (.ref l), some (.int pg), some (.int nw), some (.int p)] ∧ p ≤ i ∧ m = i - p, ⟨i, rfl, 0, rfl, Nat.zero_le _, rfl⟩, ?_⟩
    rintro m σ' H2 ⟨rfl, p, rfl, hpi, rfl⟩
    obtain ⟨x, hx, tx⟩ := at' p (by omega)
    refine ⟨_, rfl, _, rfl, _, rfl, l, us, p, x, rfl, rfl, hl, atI_nat hx, _, rfl, _, rfl, _, rfl, r, x, l, pg, nw, ts[p], us, ts, f, rfl, hR, tx, hl, hts, os _ (List.getElem_mem _), os, hpg, ?_⟩
    by_cases e : p = i
    · subst e
      rw [hu]
      refine ⟨_, rfl, iteF ?_⟩
      obtain ⟨xa, rfl, hxa⟩ := tx
      refine ⟨_, rfl, _, rfl, l, us, p, _, rfl, rfl, hl, atI_nat hx, xa, _, 0, _, rfl, rfl, SqT.of hxa, rfl, ?_⟩
      rw [pk_eq hi hu hn] at q
      exact q
    · rw [hn p (by omega)]
      refine ⟨_, rfl, iteT ⟨_, fun _ _ z => z, ?_⟩⟩
      exact ⟨_, rfl, _, _, rfl, rfl, i - (p + 1), by omega, rfl, p + 1, rfl, by omega, rfl⟩
theorem ok_Rule_choose (T : Txt K mg t) (S : Fns K t) : FnOk P w K mg base (CX0) 11 t.f_Rule_choose S.fd_Rule_choose ["self", "tallies", "pages", "now"] (spFu t K) := by
  refine S.F_Rule_choose.ok0 sc_Rule_choose (fun vs H Q E h => ?_) (fun cdv A outer s H vs Q E hr h => ?_)
  · obtain ⟨r, l, pg, nw, us, ts, f, rfl, _⟩ := h
    rfl
  · obtain ⟨r, l, pg, nw, us, ts, f, rfl, z⟩ := h
    refine ⟨_, (pss_one (ps_ret (pe_call ((ok_first_unbeaten T S).mono (by decide)) hr rfl T.mg_first_unbeaten T.kp_first_unbeaten S.b_first_unbeaten .nil pass0 (pa_cons (pv 0) (pa_cons (pv 1) (pa_cons (pv 2) (pa_cons (pv 3) pa_nil))))))), ?_⟩
    exact ⟨_, rfl, _, rfl, _, rfl, _, rfl, r, l, pg, nw, us, ts, f, rfl, z⟩
def spNow : Sp := fun vs H Q _ => ∃ c, vs = [.int c] ∧ ∀ n : Int, 0 < n → n ≤ 10 ^ 30 → Q (.int n) H
theorem ok_law_now (T : Txt K mg t) (S : Fns K t) : FnOk P w K mg base (CX0) 1 t.f_law_now S.fd_law_now ["_law_cell"] spNow := by
  refine S.F_law_now.ok0 sc_law_now (fun vs H Q E h => ?_) (fun cdv A outer s H vs Q E hr h => ?_)
  · obtain ⟨c, rfl, _⟩ := h
    rfl
  · obtain ⟨c, rfl, q⟩ := h
    refine ⟨_, (pss_cons (ps_if (pt_cmpR op_eq (pe_op op_mod (pv 0) pe_int) pe_int (nomark _)) (pss_one (ps_ret (pe_op op_add pe_int (pe_op op_mod (pe_op op_fdiv (pv 0) pe_int) pe_int)))) pss_nil) (pss_cons (ps_if (pt_cmpR op_eq (pe_op op_mod (pv 0) pe_int) pe_int (nomark _)) (pss_one (ps_ret (pe_op op_sub (pe_op op_pow pe_int pe_int) pe_int))) pss_nil) (pss_one (ps_ret (pe_op op_add pe_int (pe_op op_mod (pe_op op_mul (pv 0) pe_int) (pe_op op_sub (pe_op op_pow pe_int pe_int) pe_int))))))), ?_⟩
    have e30 : (10 : Int) ^ (30 : Int).toNat = 1000000000000000000000000000000 := by decide
    refine ⟨_, rfl, _, _, rfl, rfl, (by show (0 : Int) < 4; decide), rfl, _, rfl, ?_⟩
    refine ite2 (fun h1 => ?_) (fun h1 => ?_)
    · refine ⟨_, rfl, _, _, rfl, rfl, ⟨by decide, by decide⟩, _, _, rfl, rfl, (by show (0 : Int) < 9; decide), _, _, rfl, rfl, q _ ?_ ?_⟩
      · have := mod_in (c / 4) 9 (by decide)
        omega
      · have := mod_in (c / 4) 9 (by decide)
        omega
    · refine ⟨_, rfl, _, _, rfl, rfl, (by show (0 : Int) < 4; decide), rfl, _, rfl, ?_⟩
      refine ite2 (fun h2 => ?_) (fun h2 => ?_)
      · refine ⟨_, _, rfl, rfl, ⟨by decide, by decide, by decide⟩, _, _, rfl, rfl, q _ ?_ ?_⟩
        · rw [e30]; decide
        · rw [e30]; decide
      · refine ⟨_, rfl, _, _, rfl, rfl, .inr ⟨by decide, by decide⟩, _, _, rfl, rfl, ⟨by decide, by decide, by decide⟩, _, _, rfl, rfl, _, _, rfl, rfl, (by show (0 : Int) < 10 ^ (30 : Int).toNat - 1; decide), _, _, rfl, rfl, q _ ?_ ?_⟩
        · have := mod_in (c * 48271) (10 ^ (30 : Int).toNat - 1) (by decide)
          omega
        · have := mod_in (c * 48271) (10 ^ (30 : Int).toNat - 1) (by decide)
          rw [e30] at this ⊢
          omega
def spTl (K : PySem.W.Frag) : Sp := fun vs H Q _ => ∃ (a : Addr) (ns : List Int) (st pg nw : Int), vs = [.ref a, .int st, .int pg, .int nw] ∧ SqL K H a (ns.map V.int) ∧ 0 ≤ st ∧ 1 ≤ pg ∧ pg ≤ 16 ∧ 0 < nw ∧
  ∀ l us ts H', Same H H' → H l = none → H' l = some (.lst us) → Tls H' us ts → (∀ o ∈ ts, Tl.Ok pg nw o) → ts ≠ [] → ts.length ≤ 16 → (ts.Pairwise fun a b => a.b < b.b) → Q (.ref l) H'
theorem ok_law_tallies (T : Txt K mg t) (S : Fns K t) : FnOk P w K mg base (CX0) 2 t.f_law_tallies S.fd_law_tallies ["_law_script", "_law_start", "_law_pages", "_law_now_here"] (spTl K) := by
  refine S.F_law_tallies.ok0 sc_law_tallies (fun vs H Q E h => ?_) (fun cdv A outer s H vs Q E hr h => ?_)
  · obtain ⟨a, ns, st, pg, nw, rfl, _⟩ := h
    rfl
  · obtain ⟨a, ns, st, pg, nw, rfl, hS, s0, p0, p1, n0, q⟩ := h
    refine ⟨_, (pss_cons (ps_set (i := 4) sc_law_tallies.nd rfl (Or.inl rfl) (pe_lstN pa_nil)) (pss_cons (ps_for PassesOwn.never rfl (pi_range1 rfl T.b_range (pa_cons pe_int pa_nil)) (pg_name (i := 5) sc_law_tallies.nd rfl (Or.inl rfl)) (pss_cons (ps_set (i := 6) sc_law_tallies.nd rfl (Or.inl rfl) (pe_call ((ok_law_cell_at T S).mono (by decide)) hr rfl T.mg_law_cell_at T.kp_law_cell_at S.b_law_cell_at .nil pass0 (pa_cons (pv 0) (pa_cons (pe_op op_add (pv 1) (pv 5)) pa_nil)))) (pss_one (ps_if (pt_cmpR op_gt (pe_op op_mod (pv 6) pe_int) pe_int (nomark _)) (pss_cons (ps_set (i := 7) sc_law_tallies.nd rfl (Or.inl rfl) (pe_op op_mod (pe_op op_add (pe_op op_add (pe_op op_mul (pv 6) pe_int) (pe_op op_mul pe_int (pv 5))) pe_int) pe_int)) (pss_cons (ps_set (i := 8) sc_law_tallies.nd rfl (Or.inl rfl) (pe_op op_mod (pe_op op_mul (pe_op op_mul (pv 7) (pv 7)) pe_int) (pe_ix ix_list (pe_lstN (pa_cons pe_int (pa_cons (pe_op op_pow pe_int pe_int) pa_nil))) (pe_op op_mod (pe_op op_fdiv (pv 6) pe_int) pe_int) (fun _ _ => rfl)))) (pss_one (ps_expr (pe_bm PySem.F.plainAttrs_list PySem.F.slot_list_append PySem.F.type_list_append mt_append (pv 4) (pa_cons (pe_tupN (pa_cons (pv 5) (pa_cons (pe_op op_mod (pe_op op_fdiv (pv 6) pe_int) (pe_op op_add (pv 2) pe_int)) (pa_cons (pv 8) (pa_cons (pe_op op_mod (pe_op op_mul (pe_op op_mul (pv 7) (pv 7)) (pv 7)) (pv 3)) pa_nil))))) pa_nil star_tup)))))) pss_nil)))) (pss_cons (ps_if (pt_cmpR (op_eqN hr.units) (pv 4) (pe_lstN pa_nil) (nomark _)) (pss_one (ps_expr (pe_bm PySem.F.plainAttrs_list PySem.F.slot_list_append PySem.F.type_list_append mt_append (pv 4) (pa_cons (pe_tupN (pa_cons (pe_op op_mod (pe_op op_fdiv (pe_call ((ok_law_cell_at T S).mono (by decide)) hr rfl T.mg_law_cell_at T.kp_law_cell_at S.b_law_cell_at .nil pass0 (pa_cons (pv 0) (pa_cons (pv 1) pa_nil))) pe_int) pe_int) (pa_cons pe_int (pa_cons pe_int (pa_cons pe_int pa_nil))))) pa_nil star_tup)))) pss_nil) (pss_one (ps_ret (pv 4)))))), ?_⟩
    refine ⟨(by show 0 ≤ sizeLine; decide), fun l H1 nl sm1 hl1 => ?_⟩
    refine ⟨_, rfl, by decide, by decide, ?_⟩
    refine for_range (fun i σ' H2 => ∃ y1 y2 y3 y4 us ts, σ' = [some (.ref a), some (.int st), some (.int pg), some (.int nw), some (.ref l), y1, y2, y3, y4] ∧ H2 l = some (.lst us) ∧ Tls H2 us ts ∧ (∀ o ∈ ts, Tl.Ok pg nw o) ∧ ts.length ≤ i ∧ (∀ o ∈ ts, o.b < (i : Int)) ∧ (ts.Pairwise fun a b => a.b < b.b) ∧ Same H H2) ⟨_, _, _, _, [], [], rfl, hl1, .nil, (fun _ z => by cases z), Nat.zero_le _, (fun _ z => by cases z), .nil, sm1⟩ (fun i σ' H2 hi hp => ?_) (fun σ' H2 hp => ?_)
    · obtain ⟨y1, y2, y3, y4, us, ts, rfl, hl2, ht2, ok2, ln2, bb2, pw2, sm2⟩ := hp
      have hi' : (i : Int) < 16 := by omega
      refine ⟨_, rfl, _, rfl, _, rfl, _, _, rfl, rfl, a, ns, _, rfl, sm2.seq hS, by omega, ?_⟩
      try dsimp only
      generalize cellAt ns (st + (0 + (i : Int))) = c
      refine ⟨_, rfl, _, _, rfl, rfl, (by show (0 : Int) < 3; decide), _, _, rfl, rfl, _, rfl, ?_⟩
      refine ite2 (fun h1 => ?_) (fun h1 => ?_)
      · refine ⟨_, rfl, _, _, rfl, rfl, .inr ⟨by decide, by decide⟩, _, rfl, _, _, rfl, rfl, .inl ⟨by decide, by decide⟩, _, _, rfl, rfl, _, _, rfl, rfl, _, _, rfl, rfl, (by show (0 : Int) < 2147483647; decide), ?_⟩
        try dsimp only
        have nb := mod_in (c * 48271 + 7919 * (0 + (i : Int)) + 11) 2147483647 (by decide)
        generalize (c * 48271 + 7919 * (0 + (i : Int)) + 11) % 2147483647 = n at nb ⊢
        have nn0 : 0 ≤ n * n := Int.mul_nonneg nb.1 nb.1
        have nn1 : n * n ≤ 2147483647 * 2147483647 := Int.mul_le_mul (by omega) (by omega) nb.1 (by decide)
        refine ⟨_, rfl, _, rfl, _, _, rfl, rfl, .inl ⟨by omega, by omega⟩, _, _, rfl, rfl, .inr ⟨by decide, by decide⟩, _, _, rfl, rfl, ⟨by decide, by decide, by decide⟩, (by show 2 ≤ sizeLine; decide), fun w2 H3 n3 s3 h3 => ?_⟩
        obtain ⟨d, hd, d0, d1⟩ : ∃ d : Int, atI [V.int 4, V.int ((10 : Int) ^ (30 : Int).toNat)] (c / 3 % 2) = some (.int d) ∧ 0 < d ∧ d ≤ 10 ^ 30 := by
          have := mod_in (c / 3) 2 (by decide)
          by_cases z : c / 3 % 2 = 0
          · exact ⟨4, by rw [z]; rfl, by decide, by decide⟩
          · have z1 : c / 3 % 2 = 1 := by omega
            exact ⟨10 ^ 30, by rw [z1]; rfl, by decide, by decide⟩
        refine ⟨_, rfl, _, _, rfl, rfl, ⟨by decide, by decide⟩, _, _, rfl, rfl, (by show (0 : Int) < 2; decide), w2, _, _, _, rfl, rfl, SqL.of h3, hd, _, _, rfl, rfl, d0, ?_⟩
        try dsimp only
        have cb := mod_in (n * n * 69621) d d0
        generalize n * n * 69621 % d = cl at cb ⊢
        have hl3 := s3 _ _ hl2
        refine ⟨_, rfl, .inl ⟨rfl, us, SqL.of hl3⟩, ?_⟩
        refine ⟨_, rfl, _, rfl, _, _, rfl, rfl, ⟨by decide, by decide⟩, _, rfl, _, _, rfl, rfl, _, _, rfl, rfl, (by show (0 : Int) < pg + 1; omega), _, rfl, _, rfl, _, rfl, _, _, rfl, rfl, .inl ⟨by omega, by omega⟩, _, rfl, _, _, rfl, rfl, .inl ⟨by omega, by omega⟩, _, rfl, _, _, rfl, rfl, n0, (by show 4 ≤ sizeLine; decide), fun tp H4 n4 s4 h4 => ?_⟩
        have hl4 := s4 _ _ hl3
        have ht4 := (ht2.same s3).same s4
        have hlen := ht2.len
        have tn : TlAt H4 (.ref tp) ⟨0 + (i : Int), c / 6 % (pg + 1), cl, n * n * n % nw⟩ := ⟨tp, rfl, h4⟩
        refine ⟨l, us, .ref tp, rfl, rfl, hl4, by have : (16 : Nat) < sizeLine := by decide
                                                  omega, ?_⟩
        refine ⟨_, _, _, _, us ++ [.ref tp], ts ++ [⟨0 + (i : Int), c / 6 % (pg + 1), cl, n * n * n % nw⟩], rfl, upd_same, L2.Paired.snoc (Paired.mapP ht4 fun _ _ z => z.updL hl4) (tn.updL hl4), fun o ho => ?_, by rw [List.length_append, List.length_singleton]; omega, fun o ho => ?_, ?_, fun b o e => ?_⟩
        · rcases List.mem_append.mp ho with ho | ho
          · exact ok2 o ho
          · rw [List.mem_singleton.mp ho]
            have m1 := mod_in (c / 6) (pg + 1) (by omega)
            have m2 := mod_in (n * n * n) nw n0
            exact ⟨by show 0 ≤ 0 + (i : Int); omega, by show 0 + (i : Int) < 16; omega, m1.1, by show c / 6 % (pg + 1) ≤ pg; omega, cb.1, by show cl < 10 ^ 30; omega, m2.1, m2.2⟩
        · rcases List.mem_append.mp ho with ho | ho
          · have := bb2 o ho
            omega
          · rw [List.mem_singleton.mp ho]
            show 0 + (i : Int) < ((i + 1 : Nat) : Int)
            omega
        · refine List.pairwise_append.mpr ⟨pw2, List.pairwise_singleton .., fun x hx y hy => ?_⟩
          rw [List.mem_singleton.mp hy]
          have := bb2 x hx
          show x.b < 0 + (i : Int)
          omega
        · rw [upd_ne (ne_of_none e nl)]
          exact s4 _ _ (s3 _ _ (sm2 _ _ e))
      · exact ⟨_, _, _, _, us, ts, rfl, hl2, ht2, ok2, by omega, fun o ho => by have := bb2 o ho; omega, pw2, sm2⟩
    · obtain ⟨y1, y2, y3, y4, us, ts, rfl, hl2, ht2, ok2, ln2, bb2, pw2, sm2⟩ := hp
      refine ⟨_, rfl, (by show 0 ≤ sizeLine; decide), fun w2 H3 n3 s3 h3 => ?_⟩
      refine ⟨l, us, w2, rfl, rfl, SqL.of (s3 _ _ hl2), SqL.of h3, _, rfl, ?_⟩
      by_cases e : us = []
      · rw [decide_eq_true e]
        subst e
        have hts : ts = [] := by cases ht2; rfl
        subst hts
        refine iteT ?_
        have hl3 := s3 _ _ hl2
        have sm3 := sm2.trans s3
        refine ⟨_, rfl, .inl ⟨rfl, [], SqL.of hl3⟩, ?_⟩
        refine ⟨_, rfl, _, rfl, a, ns, st, rfl, sm3.seq hS, s0, ?_⟩
        try dsimp only
        generalize cellAt ns st = c
        refine ⟨_, _, rfl, rfl, ⟨by decide, by decide⟩, _, _, rfl, rfl, (by show (0 : Int) < 16; decide), (by show 4 ≤ sizeLine; decide), fun tp H4 n4 s4 h4 => ?_⟩
        have hl4 := s4 _ _ hl3
        have tn : TlAt H4 (.ref tp) ⟨c / 3 % 16, 0, 0, 0⟩ := ⟨tp, rfl, h4⟩
        refine ⟨l, [], .ref tp, rfl, rfl, hl4, by decide, ?_⟩
        refine ⟨_, rfl, q l [.ref tp] [⟨c / 3 % 16, 0, 0, 0⟩] _ (fun b o e => ?_) nl upd_same (.cons (tn.updL hl4) .nil) (fun o ho => ?_) (by simp) (by simp) (List.pairwise_singleton ..)⟩
        · rw [upd_ne (ne_of_none e nl)]
          exact s4 _ _ (sm3 _ _ e)
        · rw [List.mem_singleton.mp ho]
          have m1 := mod_in (c / 3) 16 (by decide)
          exact ⟨m1.1, m1.2, by show (0 : Int) ≤ 0; decide, by show (0 : Int) ≤ pg; omega, by show (0 : Int) ≤ 0; decide, by show (0 : Int) < 10 ^ 30; decide, by show (0 : Int) ≤ 0; decide, n0⟩
      · rw [decide_eq_false e]
        refine iteF ?_
        refine ⟨_, rfl, q l us ts _ (sm2.trans s3) nl (s3 _ _ hl2) (ht2.same s3) ok2 (fun z => e ?_) (by omega) pw2⟩
        subst z
        cases ht2
        rfl
theorem lx_eq : ∀ {r s : List Int}, r.length = s.length → lx r s = false → lx s r = false → r = s
  | [], [], _, _, _ => rfl
  | a :: r, b :: s, hl, h1, h2 => by
    have h1 : (if a = b then lx r s else decide (a < b)) = false := h1
    have h2 : (if b = a then lx s r else decide (b < a)) = false := h2
    by_cases z : a = b
    · subst z
      rw [if_pos rfl] at h1 h2
      rw [lx_eq (Nat.succ.inj hl) h1 h2]
    · rw [if_neg z] at h1
      rw [if_neg (Ne.symm z)] at h2
      have := of_decide_eq_false h1
      have := of_decide_eq_false h2
      omega
  | [], _ :: _, h, _, _ => nomatch h
  | _ :: _, [], h, _, _ => nomatch h
theorem encT_inj {pg nw : Int} {A B : Tl} {cs : List Int} (oa : A.Ok pg nw) (ob : B.Ok pg nw) (p0 : 1 ≤ pg) (p1 : pg ≤ 16) (hn : nw ≤ 10 ^ 30) (h : rkL pg nw cs A = rkL pg nw cs B) : encT pg nw cs A = encT pg nw cs B := by
  unfold encT
  rw [h]
def spFi (K : PySem.W.Frag) : Sp := fun vs H Q _ => ∃ l us ts rl rs pg nw cs, vs = [.ref l, .ref rl] ∧ SqL K H l us ∧ Tls H us ts ∧ SqL K H rl rs ∧ Paired (LstI K H) rs (ts.map (rkL pg nw cs)) ∧ (∀ o ∈ ts, Tl.Ok pg nw o) ∧ 1 ≤ pg ∧ pg ≤ 16 ∧ nw ≤ 10 ^ 30 ∧ ts ≠ [] ∧ ∀ H', Same H H' → Q (.int (pk (encT pg nw cs) ts)) H'
theorem lsti_same {K : PySem.W.Frag} {H H' : Hp} {v : V} {ns : List Int} (s : Same H H') (h : LstI K H v ns) : LstI K H' v ns := let ⟨p, e, q⟩ := h; ⟨p, e, s.seq q⟩
theorem ok_law_first (T : Txt K mg t) (S : Fns K t) : FnOk P w K mg base (CX0) 1 t.f_law_first S.fd_law_first ["_law_tallies_here", "_law_ranks"] (spFi K) := by
  refine S.F_law_first.ok0 sc_law_first (fun vs H Q E h => ?_) (fun cdv A outer s H vs Q E hr h => ?_)
  · obtain ⟨l, us, ts, rl, rs, pg, nw, cs, rfl, _⟩ := h
    rfl
  · obtain ⟨l, us, ts, rl, rs, pg, nw, cs, rfl, hl, hts, hr1, hrs, os, p0, p1, hn0, hne, q⟩ := h
    have hlen := hts.len
    have rlen := hrs.len
    rw [List.length_map] at rlen
    have tpos : 0 < ts.length := List.length_pos_iff.mpr hne
    refine ⟨_, (pss_cons (ps_set (i := 2) sc_law_first.nd rfl (Or.inl rfl) (pe_callB (call_minLL rfl hr.units) (by rfl) T.b_min (by kernel_rfl) (pa_cons (pv 1) pa_nil))) (pss_cons (ps_for PassesOwn.never rfl (pi_zip rfl T.b_zip (pa_cons (pv 0) (pa_cons (pv 1) pa_nil))) (pg_tup rfl (pgs_cons (pg_name (i := 3) sc_law_first.nd rfl (Or.inl rfl)) (pgs_cons (pg_name (i := 4) sc_law_first.nd rfl (Or.inl rfl)) pgs_nil))) (pss_one (ps_if (pt_cmpR (op_eqLI hr.units) (pv 4) (pv 2) (nomark _)) (pss_one (ps_ret (pe_ix ix_tup (pv 3) pe_int (fun _ _ => rfl)))) pss_nil))) (pss_one (ps_ret pe_non)))), ?_⟩
    have ln : ∀ k ∈ ts.map (rkL pg nw cs), k.length = cs.length := fun k hk => by
      obtain ⟨o, _, rfl⟩ := List.mem_map.mp hk
      rw [rkL, List.length_map]
    refine ⟨_, rfl, rl, rs, ts.map (rkL pg nw cs), cs.length, rfl, hr1, hrs, ln, by omega, fun m hm hmin => ?_⟩
    have gk : ∀ j, ∀ hj : j < ts.length, (ts.map (rkL pg nw cs)).getD j [] = rkL pg nw cs ts[j] := fun j hj => by
      rw [List.getD_eq_getElem?_getD, List.getElem?_map, List.getElem?_eq_getElem hj]
      rfl
    have hm' : m < ts.length := by omega
    have mn : ∀ j, ∀ hj : j < ts.length, encT pg nw cs ts[m] ≤ encT pg nw cs ts[j] := fun j hj => by
      have z := hmin j (by omega)
      rw [gk j hj, gk m hm', lx_enc (os _ (List.getElem_mem hj)) (os _ (List.getElem_mem hm')) p0 p1 hn0] at z
      have := of_decide_eq_false z
      omega
    have lv : LstI K H (rs.getD m .non) (rkL pg nw cs ts[m]) := by
      have e : rs[m]? = some (rs[m]) := List.getElem?_eq_getElem hm
      obtain ⟨k, k1, k2⟩ := Paired.at hrs e
      rw [List.getElem?_map, List.getElem?_eq_getElem hm'] at k1
      cases k1
      rw [List.getD_eq_getElem?_getD, e]
      exact k2
    generalize rs.getD m .non = lst at lv ⊢
    refine ⟨_, rfl, _, rfl, l, rl, rfl, ⟨us, hl⟩, ⟨_, hr1⟩, ?_⟩
    refine for_zip (K := K) (xs := us) (ys := rs) (fun i σ' H2 => ∃ y1 y2, σ' = [some (.ref l), some (.ref rl), some lst, y1, y2] ∧ Same H H2 ∧ ∀ j, ∀ hj : j < ts.length, j < i → encT pg nw cs ts[j] ≠ encT pg nw cs ts[m]) ⟨_, _, rfl, Same.refl H, fun j _ z => absurd z (Nat.not_lt_zero _)⟩ (fun i σ' H2 hp => ?_) (by omega) (fun i σ' H2 x y W hx hy hp nW => ?_) (fun σ' H2 hp => ?_)
    · obtain ⟨y1, y2, rfl, sm, _⟩ := hp
      exact ⟨sm.seq hl, sm.seq hr1⟩
    · obtain ⟨y1, y2, rfl, sm, hn⟩ := hp
      obtain ⟨O, hO, ho⟩ := Paired.at hts hx
      have hi : i < ts.length := (List.getElem?_eq_some_iff.mp hO).1
      obtain rfl : ts[i] = O := (List.getElem?_eq_some_iff.mp hO).2
      have ly : LstI K H y (rkL pg nw cs ts[i]) := by
        obtain ⟨k, k1, k2⟩ := Paired.at hrs hy
        rw [List.getElem?_map, List.getElem?_eq_getElem hi] at k1
        cases k1
        exact k2
      refine ⟨W, _, rfl, SqT.of upd_same, rfl, _, _, rfl, _, _, rfl, rfl, ?_⟩
      have s2 : Same H (upd H2 W (.tup [x, y])) := sm.trans (Same.upd nW)
      refine ⟨_, rfl, _, rfl, _, _, lsti_same s2 ly, lsti_same s2 lv, by simp [rkL], _, rfl, ?_⟩
      by_cases e : rkL pg nw cs ts[i] = rkL pg nw cs ts[m]
      · rw [decide_eq_true e]
        refine iteT ?_
        obtain ⟨xa, rfl, hxa⟩ := ho
        refine ⟨_, rfl, xa, _, 0, _, rfl, rfl, SqT.of (s2 _ _ hxa), rfl, ?_⟩
        have z := q _ s2
        have ee : encT pg nw cs ts[i] = encT pg nw cs ts[m] := encT_inj (os _ (List.getElem_mem hi)) (os _ (List.getElem_mem hm')) p0 p1 hn0 e
        rw [pk_eq hi (unb_iff.mpr fun o ho => ?_) (fun j hj => ?_)] at z
        · exact z
        · obtain ⟨j, hj, rfl⟩ := List.getElem_of_mem ho
          have := mn j hj
          omega
        · cases u : unb (encT pg nw cs) ts (ts[j]'(by omega)) with
          | false => rfl
          | true =>
            have g := unb_iff.mp u _ (List.getElem_mem hm')
            have := mn j (by omega)
            exact absurd (show encT pg nw cs ts[j] = encT pg nw cs ts[m] by omega) (hn j (by omega) hj)
      · rw [decide_eq_false e]
        refine iteF ⟨_, _, rfl, s2, fun j hj z => ?_⟩
        by_cases ej : j = i
        · subst ej
          intro ee
          have a1 := os _ (List.getElem_mem hi)
          have a2 := os _ (List.getElem_mem hm')
          have x1 := lx_enc (cs := cs) a1 a2 p0 p1 hn0
          have x2 := lx_enc (cs := cs) a2 a1 p0 p1 hn0
          rw [ee, decide_eq_false (Int.lt_irrefl _)] at x1
          rw [ee, decide_eq_false (Int.lt_irrefl _)] at x2
          exact e (lx_eq (by rw [rkL, rkL, List.length_map, List.length_map]) x1 x2)
        · exact hn j hj (by omega)
    · obtain ⟨y1, y2, rfl, sm, hn⟩ := hp
      exact absurd rfl (hn m hm' (by omega))
def spRk (K : PySem.W.Frag) : Sp := fun vs H Q _ => ∃ c v T pg nw, vs = [.int c, v, .int pg, .int nw] ∧ TlAt H v T ∧ T.Ok pg nw ∧ 1 ≤ pg ∧ pg ≤ 16 ∧ nw ≤ 10 ^ 30 ∧ ∀ H', Same H H' → Q (.int (rkC pg nw T c)) H'
set_option maxHeartbeats 0 in
theorem ok_law_rank (T : Txt K mg t) (S : Fns K t) : FnOk P w K mg base (CX0) 1 t.f_law_rank S.fd_law_rank ["_law_cell", "_law_tally", "_law_pages", "_law_now_here"] (spRk K) := by
  refine S.F_law_rank.ok0 sc_law_rank (fun vs H Q E h => ?_) (fun cdv A outer s H vs Q E hr h => ?_)
  · obtain ⟨c, v, A, pg, nw, rfl, _⟩ := h
    rfl
  · obtain ⟨c, v, A, pg, nw, rfl, ⟨xa, rfl, hx⟩, ok, p0, p1, n1, q⟩ := h
    refine ⟨_, (pss_cons (ps_set (i := 4) sc_law_rank.nd rfl (Or.inl rfl) pe_int) (pss_cons (ps_for PassesOwn.never rfl (pi_range2 rfl T.b_range (pa_cons (pv 2) (pa_cons (pe_op op_add (pe_op op_mul pe_int (pv 2)) pe_int) pa_nil))) (pg_name (i := 5) sc_law_rank.nd rfl (Or.inl rfl)) (pss_one (ps_set (i := 4) sc_law_rank.nd rfl (Or.inl rfl) (pe_op op_mul (pv 4) (pv 5))))) (pss_cons (ps_set (i := 6) sc_law_rank.nd rfl (Or.inl rfl) (pe_op op_fdiv (pv 4) (pe_op op_add (pv 2) (pe_ix ix_tup (pv 1) pe_int (fun _ _ => rfl))))) (pss_cons (ps_set (i := 7) sc_law_rank.nd rfl (Or.inl rfl) (pe_op op_mulW (pe_op op_mul (pe_op op_sub (pv 2) (pe_ix ix_tup (pv 1) pe_int (fun _ _ => rfl))) (pe_op op_sub (pv 3) (pe_ix ix_tup (pv 1) pe_int (fun _ _ => rfl)))) (pv 6))) (pss_cons (ps_set (i := 8) sc_law_rank.nd rfl (Or.inl rfl) (pe_lstN (pa_cons (pe_op op_mod (pe_ix ix_tup (pv 1) pe_int (fun _ _ => rfl)) pe_int) (pa_cons (pe_ix ix_tup (pv 1) pe_int (fun _ _ => rfl)) (pa_cons (pe_ix ix_tup (pv 1) pe_int (fun _ _ => rfl)) (pa_cons (pe_ix ix_tup (pv 1) pe_int (fun _ _ => rfl)) pa_nil)))))) (pss_cons (ps_set (i := 9) sc_law_rank.nd rfl (Or.inl rfl) (pe_ix ix_list (pe_op op_catN (pv 8) (pe_lstN (pa_cons (pe_ix ix_tup (pv 1) pe_int (fun _ _ => rfl)) (pa_cons pe_int (pa_cons (pe_op op_sub pe_int (pv 7)) (pa_cons pe_int pa_nil)))))) (pe_op op_mod (pv 0) pe_int) (fun _ _ => rfl))) (pss_cons (ps_if (pt_cmpR op_eq (pe_op op_mod (pe_op op_fdiv (pv 0) pe_int) pe_int) pe_int (nomark _)) (pss_one (ps_ret (pe_op op_sub pe_int (pv 9)))) pss_nil) (pss_one (ps_ret (pv 9)))))))))), ?_⟩
    refine ⟨_, rfl, _, rfl, _, _, rfl, rfl, .inl ⟨by decide, by decide⟩, _, _, rfl, rfl, _, _, rfl, ⟨by omega, by omega, by omega, by omega⟩, ?_⟩
    refine for_range (fun i σ' H2 => ∃ y, σ' = [some (.int c), some (.ref xa), some (.int pg), some (.int nw), some (.int (pr pg i)), y, none, none, none, none] ∧ H2 = H) ⟨_, rfl, rfl⟩ (fun i σ' H2 hi hp => ?_) (fun σ' H2 hp => ?_)
    · obtain ⟨y, rfl, rfl⟩ := hp
      have hb : pg + (i : Int) ≤ 33 := by omega
      refine ⟨_, rfl, _, rfl, _, _, rfl, rfl, .inr ⟨by omega, by omega⟩, ?_⟩
      exact ⟨_, rfl, rfl⟩
    · obtain ⟨y, rfl, rfl⟩ := hp
      have en : pr pg (2 * pg + 1 - pg).toNat = mnOf pg := by
        unfold mnOf
        congr 1
        omega
      rw [en]
      have l0 := ok.l0
      have l1 := ok.l1
      have o0 := ok.o0
      have o1 := ok.o1
      have m0 : 0 < mnOf pg := pr_pos p0 _
      have mb : mnOf pg ≤ 33 ^ 17 := by
        have a1 := pr_le p0 p1 (pg + 1).toNat (by omega)
        have a2 := Nat.pow_le_pow_right (n := 33) (by decide) (show (pg + 1).toNat ≤ 17 by omega)
        exact Int.le_trans a1 (by exact_mod_cast a2)
      refine ⟨_, rfl, _, rfl, _, rfl, xa, _, 1, _, rfl, rfl, SqT.of hx, rfl, _, _, rfl, rfl, _, _, rfl, rfl, ⟨by omega, by omega⟩, ?_⟩
      refine ⟨_, rfl, _, rfl, xa, _, 1, _, rfl, rfl, SqT.of hx, rfl, _, _, rfl, rfl, _, rfl, _, rfl, xa, _, 3, _, rfl, rfl, SqT.of hx, rfl, _, _, rfl, rfl, _, _, rfl, rfl, .inl ⟨by omega, by omega⟩, _, rfl, _, _, rfl, rfl, ?_, ?_⟩
      · have g0 : 0 ≤ (pg - A.lv) * (nw - A.bo) := Int.mul_nonneg (by omega) (by omega)
        have g1 : (pg - A.lv) * (nw - A.bo) ≤ 16 * 10 ^ 30 := Int.mul_le_mul (by omega) (by omega) (by omega) (by decide)
        have s0 : 0 ≤ mnOf pg / (pg + A.lv) := Int.ediv_nonneg (by omega) (by omega)
        have s1 : mnOf pg / (pg + A.lv) ≤ mnOf pg := Int.ediv_le_self _ (by omega)
        constructor
        · exact big_of g0 (Int.le_trans g1 (by decide))
        · exact big_of s0 (Int.le_trans (Int.le_trans s1 mb) (by decide))
      · refine ⟨_, rfl, xa, _, 0, _, rfl, rfl, SqT.of hx, rfl, _, _, rfl, rfl, (by show (0 : Int) < 2; decide), _, rfl, xa, _, 1, _, rfl, rfl, SqT.of hx, rfl, _, rfl, xa, _, 2, _, rfl, rfl, SqT.of hx, rfl, _, rfl, xa, _, 3, _, rfl, rfl, SqT.of hx, rfl, by show 4 ≤ sizeLine; decide, fun l1' H1 n1' s1 e1 => ?_⟩
        have hx1 := s1 _ _ hx
        refine ⟨_, rfl, _, rfl, xa, _, 1, _, rfl, rfl, SqT.of hx1, rfl, _, rfl, _, _, rfl, rfl, by show 4 ≤ sizeLine; decide, fun l2 H3 n3 s3 e3 => ⟨l1', l2, _, _, rfl, rfl, s3 _ _ e1, e3, by show 4 + 4 ≤ sizeLine; decide, fun l3 H4 n4 s4 e4 => ?_⟩⟩
        have c8 := mod_in c 8 (by decide)
        have sm : Same H2 H4 := s1.trans (s3.trans s4)
        refine ⟨_, rfl, _, _, rfl, rfl, (by show (0 : Int) < 8; decide), l3, _, _, .int (rkB pg nw (c % 8) A), rfl, rfl, SqL.of e4, ?_, ?_⟩
        · have w : c % 8 = 0 ∨ c % 8 = 1 ∨ c % 8 = 2 ∨ c % 8 = 3 ∨ c % 8 = 4 ∨ c % 8 = 5 ∨ c % 8 = 6 ∨ c % 8 = 7 := by omega
          have e : 0 - (pg - A.lv) * (nw - A.bo) * (mnOf pg / (pg + A.lv)) = rkW pg nw (mnOf pg) A := rfl
          rcases w with w | w | w | w | w | w | w | w <;> rw [w] <;> rfl
        · refine ⟨_, rfl, _, _, rfl, rfl, ⟨by decide, by decide⟩, _, _, rfl, rfl, (by show (0 : Int) < 3; decide), rfl, _, rfl, ?_⟩
          rw [dec_ii]
          have q := q _ sm
          by_cases z : c / 8 % 3 = 0
          · rw [decide_eq_true z]
            rw [show rkC pg nw A c = 0 - rkB pg nw (c % 8) A from if_pos z] at q
            exact iteT ⟨_, rfl, _, _, rfl, rfl, q⟩
          · rw [decide_eq_false z]
            rw [show rkC pg nw A c = rkB pg nw (c % 8) A from if_neg z] at q
            exact iteF ⟨_, rfl, q⟩
theorem mk_sameF {H : Hp} {x dx : Addr} {o : HO} (nx : H x = none) (nd : H dx = none) : Same H (upd (upd H dx (.own x)) x o) := fun b u e => by
  rw [upd_ne (ne_of_none e nx), upd_ne (ne_of_none e nd)]
  exact e
def tri (i : Nat) (c : Addr) : Array Value := #[rawInt (lamP i).line, rawInt (lamP i).col, .ref c]
def Cd (H : Hp) (c : Addr) : Prop := H c = some (cdO c lamQ)
def TbAt (t : Adr) (H : Hp) : Prop := ∃ ps, H t.T_law_base = some (.tbl ps) ∧ (ps = #[] ∨ (∃ c, ps = tri 0 c ∧ Cd H c) ∨ (∃ c, ps = tri 2 c ∧ Cd H c) ∨ (∃ c d, ps = tri 0 c ++ tri 2 d ∧ Cd H c ∧ Cd H d) ∨ (∃ c d, ps = tri 2 c ++ tri 0 d ∧ Cd H c ∧ Cd H d))
theorem TbAt.same {t : Adr} {H H' : Hp} (s : Same H H') (h : TbAt t H) : TbAt t H' := by
  obtain ⟨ps, hT, h⟩ := h
  refine ⟨ps, s _ _ hT, ?_⟩
  rcases h with h | ⟨c, h, a⟩ | ⟨c, h, a⟩ | ⟨c, d, h, a, b⟩ | ⟨c, d, h, a, b⟩
  · exact .inl h
  · exact .inr (.inl ⟨c, h, s _ _ a⟩)
  · exact .inr (.inr (.inl ⟨c, h, s _ _ a⟩))
  · exact .inr (.inr (.inr (.inl ⟨c, d, h, s _ _ a, s _ _ b⟩)))
  · exact .inr (.inr (.inr (.inr ⟨c, d, h, s _ _ a, s _ _ b⟩)))
theorem tb_ask {t : Adr} {H : Hp} (h : TbAt t H) {i : Nat} (hi : i = 0 ∨ i = 2) : ∃ ps, H t.T_law_base = some (.tbl ps) ∧ TriplesOk ps.toList ∧
    ((codeAmong (lamP i) ps.toList = none ∧ ∀ c H', H' t.T_law_base = some (.tbl (ps ++ tri i c)) → Cd H' c → (∀ d, Cd H d → Cd H' d) → TbAt t H') ∨ ∃ c, codeAmong (lamP i) ps.toList = some (.ref c) ∧ Cd H c) := by
  obtain ⟨ps, hT, h⟩ := h
  rcases hi with rfl | rfl
  · rcases h with rfl | ⟨c, rfl, a⟩ | ⟨c, rfl, a⟩ | ⟨c, d, rfl, a, b⟩ | ⟨c, d, rfl, a, b⟩
    · exact ⟨_, hT, trivial, .inl ⟨rfl, fun c H' e1 e2 e3 => ⟨_, e1, .inr (.inl ⟨c, rfl, e2⟩)⟩⟩⟩
    · exact ⟨_, hT, trivial, .inr ⟨c, rfl, a⟩⟩
    · exact ⟨_, hT, trivial, .inl ⟨rfl, fun d H' e1 e2 e3 => ⟨_, e1, .inr (.inr (.inr (.inr ⟨c, d, rfl, e3 _ a, e2⟩)))⟩⟩⟩
    · exact ⟨_, hT, trivial, .inr ⟨c, rfl, a⟩⟩
    · exact ⟨_, hT, trivial, .inr ⟨d, rfl, b⟩⟩
  · rcases h with rfl | ⟨c, rfl, a⟩ | ⟨c, rfl, a⟩ | ⟨c, d, rfl, a, b⟩ | ⟨c, d, rfl, a, b⟩
    · exact ⟨_, hT, trivial, .inl ⟨rfl, fun c H' e1 e2 e3 => ⟨_, e1, .inr (.inr (.inl ⟨c, rfl, e2⟩))⟩⟩⟩
    · exact ⟨_, hT, trivial, .inl ⟨rfl, fun d H' e1 e2 e3 => ⟨_, e1, .inr (.inr (.inr (.inl ⟨c, d, rfl, e3 _ a, e2⟩)))⟩⟩⟩
    · exact ⟨_, hT, trivial, .inr ⟨c, rfl, a⟩⟩
    · exact ⟨_, hT, trivial, .inr ⟨d, rfl, b⟩⟩
    · exact ⟨_, hT, trivial, .inr ⟨c, rfl, a⟩⟩
def spBa (t : Adr) : Sp := fun vs H Q _ => ∃ kd : Int, vs = [.int kd] ∧ 0 ≤ kd ∧ kd < 8 ∧ TbAt t H ∧ ∀ r H', BaAt t H' r kd → TbAt t H' → (∀ b o, b ≠ t.T_law_base → H b = some o → H' b = some o) → Q (.ref r) H'
set_option maxHeartbeats 0 in
theorem ok_law_base (T : Txt K mg t) (S : Fns K t) (B : BmIn base mg) : FnOk P w K mg base (CX0) 5 t.f_law_base S.fd_law_base ["_law_kind"] (spBa t) := by
  refine S.F_law_base.ok0 sc_law_base (fun vs H Q E h => ?_) (fun A outer s H vs Q E hr h => ?_)
  · obtain ⟨kd, rfl, _⟩ := h
    rfl
  · obtain ⟨kd, rfl, k0, k8, tb, q⟩ := h
    refine ⟨_, (pss_cons (ps_if (pt_cmpR op_eq (pv 0) pe_int (nomark _)) (pss_one (ps_ret (pe_make T.mk_Weighed ((ok_Weighed_init T S).mono (by decide)) hr rfl T.mg_Weighed S.b_Weighed_init .nil pass0 (pa_cons (pe_lamG rfl T.cd_law_base B rfl rfl) pa_nil)))) pss_nil) (pss_cons (ps_if (pt_cmpR op_eq (pv 0) pe_int (nomark _)) (pss_one (ps_ret (pe_mk0 T.mk0_Fewest rfl T.mg_Fewest))) pss_nil) (pss_cons (ps_if (pt_cmpR op_eq (pv 0) pe_int (nomark _)) (pss_one (ps_ret (pe_make T.mk_Weighed ((ok_Weighed_init T S).mono (by decide)) hr rfl T.mg_Weighed S.b_Weighed_init .nil pass0 (pa_cons (pe_lamG rfl T.cd_law_base B rfl rfl) pa_nil)))) pss_nil) (pss_cons (ps_if (pt_cmpR op_eq (pv 0) pe_int (nomark _)) (pss_one (ps_ret (pe_mk0 T.mk0_Eldest rfl T.mg_Eldest))) pss_nil) (pss_cons (ps_if (pt_cmpR op_eq (pv 0) pe_int (nomark _)) (pss_one (ps_ret (pe_makeS takes_never T.mk_Window ((ok_Window_init T S).mono (by decide)) hr rfl T.mg_Window S.b_Window_init .nil (pa_cons pe_int pa_nil)))) pss_nil) (pss_cons (ps_if (pt_cmpR op_eq (pv 0) pe_int (nomark _)) (pss_one (ps_ret (pe_make T.mk_Follow ((ok_Follow_init T S).mono (by decide)) hr rfl T.mg_Follow S.b_Follow_init .nil pass0 (pa_cons (pe_lstN (pa_cons pe_int (pa_cons pe_int pa_nil))) pa_nil star_lst)))) pss_nil) (pss_cons (ps_if (pt_cmpR op_eq (pv 0) pe_int (nomark _)) (pss_one (ps_ret (pe_mk0 T.mk0_Worth rfl T.mg_Worth))) pss_nil) (pss_one (ps_ret (pe_mk0 T.mk0_Rule rfl T.mg_Rule)))))))))), ?_⟩
    refine ⟨_, rfl, rfl, _, rfl, ?_⟩
    rw [dec_ii]
    by_cases z0 : kd = 0
    · subst z0
      obtain ⟨ps, hT, ht, hc⟩ := tb_ask tb (i := 0) (.inl rfl)
      rcases hc with ⟨cn, grow⟩ | ⟨c, cs, hcd⟩
      · refine iteT (.inl ⟨ps, hT, ht, cn, fun g c ct ng nc gc => ?_⟩)
        refine fun r d nr nd ne => ⟨r, d, .ref g, rfl, upd_same, rfl, ?_⟩
        rw [upd_upd]
        have cT : c ≠ t.T_law_base := fun z => by rw [z, hT] at nc; cases nc
        have gT : g ≠ t.T_law_base := fun z => by rw [z, hT] at ng; cases ng
        have sM := mk_sameF (o := .ins t.C_Weighed d [("weigh", .ref g)]) nr nd
        refine q r _ (.inr (.inr (.inr (.inr (.inl ⟨d, g, _, upd_same, .inl ⟨⟨_, ct, c, sM _ _ upd_same, sM _ _ ?_⟩, rfl⟩, fun _ _ _ => rfl⟩))))) (grow c _ (sM _ _ ?_) (sM _ _ ?_) fun d' hd' => sM _ _ ?_) (fun b o nb e => sM _ _ ?_)
        · rw [upd_ne gc.symm]
          exact upd_same
        · rw [upd_ne gT.symm, upd_ne cT.symm]
          exact upd_same
        · rw [upd_ne gc.symm]
          exact upd_same
        · have d1 : d' ≠ g := ne_of_none hd' ng
          have d2 : d' ≠ c := ne_of_none hd' nc
          have d3 : d' ≠ t.T_law_base := fun z => by
            have hd' : H d' = _ := hd'
            rw [z, hT] at hd'
            cases hd'
          rw [upd_ne d1, upd_ne d2, upd_ne d3]
          exact hd'
        · rw [upd_ne (ne_of_none e ng), upd_ne (ne_of_none e nc), upd_ne nb]
          exact e
      · refine iteT (.inr ⟨ps, c, hT, ht, cs, fun g ct ng => ?_⟩)
        refine fun r d nr nd ne => ⟨r, d, .ref g, rfl, upd_same, rfl, ?_⟩
        rw [upd_upd]
        have sM := mk_sameF (o := .ins t.C_Weighed d [("weigh", .ref g)]) nr nd
        have sG := (Same.upd ng).trans sM
        exact q r _ (.inr (.inr (.inr (.inr (.inl ⟨d, g, _, upd_same, .inl ⟨⟨_, ct, c, sM _ _ upd_same, sG _ _ hcd⟩, rfl⟩, fun _ _ _ => rfl⟩))))) (tb.same sG) (fun b o _ e => sG _ _ e)
    rw [decide_eq_false z0]
    refine iteF ?_
    refine ⟨_, rfl, rfl, _, rfl, ?_⟩
    rw [dec_ii]
    by_cases z1 : kd = 1
    · subst z1
      refine iteT ?_
      exact fun r d nr nd ne => q r _ (.inr (.inl ⟨d, upd_same, rfl⟩)) (tb.same (mk_sameF nr nd)) (fun b o _ e => mk_sameF nr nd b o e)
    rw [decide_eq_false z1]
    refine iteF ?_
    refine ⟨_, rfl, rfl, _, rfl, ?_⟩
    rw [dec_ii]
    by_cases z2 : kd = 2
    · subst z2
      obtain ⟨ps, hT, ht, hc⟩ := tb_ask tb (i := 2) (.inr rfl)
      rcases hc with ⟨cn, grow⟩ | ⟨c, cs, hcd⟩
      · refine iteT (.inl ⟨ps, hT, ht, cn, fun g c ct ng nc gc => ?_⟩)
        refine fun r d nr nd ne => ⟨r, d, .ref g, rfl, upd_same, rfl, ?_⟩
        rw [upd_upd]
        have cT : c ≠ t.T_law_base := fun z => by rw [z, hT] at nc; cases nc
        have gT : g ≠ t.T_law_base := fun z => by rw [z, hT] at ng; cases ng
        have sM := mk_sameF (o := .ins t.C_Weighed d [("weigh", .ref g)]) nr nd
        refine q r _ (.inr (.inr (.inr (.inr (.inl ⟨d, g, _, upd_same, .inr ⟨⟨_, ct, c, sM _ _ upd_same, sM _ _ ?_⟩, rfl⟩, fun _ _ _ => rfl⟩))))) (grow c _ (sM _ _ ?_) (sM _ _ ?_) fun d' hd' => sM _ _ ?_) (fun b o nb e => sM _ _ ?_)
        · rw [upd_ne gc.symm]
          exact upd_same
        · rw [upd_ne gT.symm, upd_ne cT.symm]
          exact upd_same
        · rw [upd_ne gc.symm]
          exact upd_same
        · have d1 : d' ≠ g := ne_of_none hd' ng
          have d2 : d' ≠ c := ne_of_none hd' nc
          have d3 : d' ≠ t.T_law_base := fun z => by
            have hd' : H d' = _ := hd'
            rw [z, hT] at hd'
            cases hd'
          rw [upd_ne d1, upd_ne d2, upd_ne d3]
          exact hd'
        · rw [upd_ne (ne_of_none e ng), upd_ne (ne_of_none e nc), upd_ne nb]
          exact e
      · refine iteT (.inr ⟨ps, c, hT, ht, cs, fun g ct ng => ?_⟩)
        refine fun r d nr nd ne => ⟨r, d, .ref g, rfl, upd_same, rfl, ?_⟩
        rw [upd_upd]
        have sM := mk_sameF (o := .ins t.C_Weighed d [("weigh", .ref g)]) nr nd
        have sG := (Same.upd ng).trans sM
        exact q r _ (.inr (.inr (.inr (.inr (.inl ⟨d, g, _, upd_same, .inr ⟨⟨_, ct, c, sM _ _ upd_same, sG _ _ hcd⟩, rfl⟩, fun _ _ _ => rfl⟩))))) (tb.same sG) (fun b o _ e => sG _ _ e)
    rw [decide_eq_false z2]
    refine iteF ?_
    refine ⟨_, rfl, rfl, _, rfl, ?_⟩
    rw [dec_ii]
    by_cases z3 : kd = 3
    · subst z3
      refine iteT ?_
      exact fun r d nr nd ne => q r _ (.inr (.inr (.inl ⟨d, upd_same, rfl⟩))) (tb.same (mk_sameF nr nd)) (fun b o _ e => mk_sameF nr nd b o e)
    rw [decide_eq_false z3]
    refine iteF ?_
    refine ⟨_, rfl, rfl, _, rfl, ?_⟩
    rw [dec_ii]
    by_cases z4 : kd = 4
    · subst z4
      refine iteT ?_
      refine fun r d nr nd ne => ⟨r, d, .int 1, rfl, upd_same, .int _, ?_⟩
      rw [if_pos (by decide)]
      refine ⟨rfl, ?_⟩
      rw [upd_upd]
      exact q r _ (.inr (.inr (.inr (.inr (.inr (.inl ⟨d, _, upd_same, rfl⟩)))))) (tb.same (mk_sameF nr nd)) (fun b o _ e => mk_sameF nr nd b o e)
    rw [decide_eq_false z4]
    refine iteF ?_
    refine ⟨_, rfl, rfl, _, rfl, ?_⟩
    rw [dec_ii]
    by_cases z5 : kd = 5
    · subst z5
      refine iteT ⟨by show 2 ≤ sizeLine; decide, fun l H1 n1 s1 e1 => ?_⟩
      refine fun r d nr nd ne => ⟨r, d, l, [3, 1], rfl, upd_same, mk_sameF nr nd _ _ e1, fun rl H' fo nrl k => ⟨rfl, ?_⟩⟩
      have sF : Same H H' := fun b o e => k b o (ne_of_none (s1 _ _ e) nr) (mk_sameF nr nd _ _ (s1 _ _ e))
      exact q r _ (.inr (.inr (.inr (.inr (.inr (.inr ⟨d, _, _, fo.ins, rfl⟩)))))) (tb.same sF) (fun b o _ e => sF _ _ e)
    rw [decide_eq_false z5]
    refine iteF ?_
    refine ⟨_, rfl, rfl, _, rfl, ?_⟩
    rw [dec_ii]
    by_cases z6 : kd = 6
    · subst z6
      refine iteT ?_
      exact fun r d nr nd ne => q r _ (.inr (.inr (.inr (.inl ⟨d, upd_same, rfl⟩)))) (tb.same (mk_sameF nr nd)) (fun b o _ e => mk_sameF nr nd b o e)
    rw [decide_eq_false z6]
    refine iteF ?_
    exact fun r d nr nd ne => q r _ (.inl ⟨d, upd_same, by omega⟩) (tb.same (mk_sameF nr nd)) (fun b o _ e => mk_sameF nr nd b o e)
def spMd (t : Adr) : Sp := fun vs H Q _ => ∃ c : Int, vs = [.int c] ∧ TbAt t H ∧ ∀ r H', MdAt t H' r c → TbAt t H' → (∀ b o, b ≠ t.T_law_base → H b = some o → H' b = some o) → Q (.ref r) H'
theorem ok_law_made (T : Txt K mg t) (S : Fns K t) (B : BmIn base mg) : FnOk P w K mg base (CX0) 6 t.f_law_made S.fd_law_made ["_law_cell"] (spMd t) := by
  refine S.F_law_made.ok0 sc_law_made (fun vs H Q E h => ?_) (fun cdv A outer s H vs Q E hr h => ?_)
  · obtain ⟨c, rfl, _⟩ := h
    rfl
  · obtain ⟨c, rfl, tb, q⟩ := h
    refine ⟨_, (pss_cons (ps_set (i := 1) sc_law_made.nd rfl (Or.inl rfl) (pe_call ((ok_law_base T S B).mono (by decide)) hr rfl T.mg_law_base T.kp_law_base S.b_law_base .nil pass0 (pa_cons (pe_op op_mod (pv 0) pe_int) pa_nil))) (pss_cons (ps_if (pt_cmpR op_eq (pe_op op_mod (pe_op op_fdiv (pv 0) pe_int) pe_int) pe_int (nomark _)) (pss_one (ps_ret (pe_make T.mk_Turned ((ok_Turned_init T S).mono (by decide)) hr rfl T.mg_Turned S.b_Turned_init .nil pass0 (pa_cons (pv 1) pa_nil)))) pss_nil) (pss_one (ps_ret (pv 1))))), ?_⟩
    have c8 := mod_in c 8 (by decide)
    refine ⟨_, rfl, _, _, rfl, rfl, (by show (0 : Int) < 8; decide), _, rfl, c8.1, c8.2, tb, fun r H1 ba tb1 k1 => ?_⟩
    refine ⟨_, rfl, _, _, rfl, rfl, ⟨by decide, by decide⟩, _, _, rfl, rfl, (by show (0 : Int) < 3; decide), rfl, _, rfl, ?_⟩
    rw [dec_ii]
    by_cases z : c / 8 % 3 = 0
    · rw [decide_eq_true z]
      refine iteT ⟨_, rfl, fun x d nx nd ne => ⟨x, d, .ref r, rfl, upd_same, rfl, ?_⟩⟩
      rw [upd_upd]
      have sM := mk_sameF (o := .ins t.C_Turned d [("inner", .ref r)]) nx nd
      exact q x _ (.inl ⟨z, d, r, upd_same, ba.same sM⟩) (tb1.same sM) (fun b o nb e => sM _ _ (k1 b o nb e))
    · rw [decide_eq_false z]
      exact iteF ⟨_, rfl, q r _ (.inr ⟨z, ba⟩) tb1 k1⟩
theorem op_gtL {X : Cx} (hu : X.A.units + 64 < cLine) : OpR X (compareOp .Gt) (fun x y H Q => ∃ ns ms, LstI X.K H x ns ∧ LstI X.K H y ms ∧ ns.length = ms.length ∧ Q (.bl (lx ms ns)) H) := by
  intro pins s σ H x y v u Q I rx ry ⟨ns, ms, ⟨p, e1, h1⟩, ⟨q, e2, h2⟩, hl, k⟩
  subst e1 e2
  cases rx
  cases ry
  obtain ⟨i1, r1, p1, _⟩ := I.list h1
  obtain ⟨i2, r2, p2, _⟩ := I.list h2
  have l1 := r1.length
  have l2 := r2.length
  rw [List.length_map] at l1 l2
  show wpAny _ _ (richCompare .Gt (.ref p) (.ref q)) _ _ _
  refine gt_lists p1.isList p2.isList (by simp; omega) (fun j => ns.getD j 0) (fun j => ms.getD j 0) (fun j h1 h2 => ?_) (by omega) ?_
  · obtain ⟨t, e⟩ := vals_lints r1 j (by simpa using h1)
    obtain ⟨u, e'⟩ := vals_lints r2 j (by simpa using h2)
    exact ⟨t, u, by simpa using e, by simpa using e'⟩
  · refine ⟨.bl _, H, I, rfl, ?_⟩
    rw [show i1.toArray.size = ns.length by simp; omega, rowGt_lx hl ns.length 0 rfl]
    exact k
theorem op_eqLIK {X : Cx} {K : PySem.W.Frag} (e : X.K = K) (hu : X.A.units + 64 < cLine) : OpR X (compareOp .Eq) (fun x y H Q => ∃ ns ms, LstI K H x ns ∧ LstI K H y ms ∧ ns.length = ms.length ∧ Q (.bl (decide (ns = ms))) H) := by
  subst e
  exact op_eqLI hu
def spCe (K : PySem.W.Frag) : Sp := fun vs H Q _ => ∃ (a : Addr) (ns : List Int), vs = [.ref a] ∧ SqL K H a (ns.map V.int) ∧ ∀ l cs H', H l = none → Same H H' → H' l = some (.lst (List.map V.int cs)) → 1 ≤ cs.length → cs.length ≤ 8 → Q (.ref l) H'
theorem ok_law_cells (T : Txt K mg t) (S : Fns K t) : FnOk P w K mg base (CX0) 2 t.f_law_cells S.fd_law_cells ["_law_script"] (spCe K) := by
  refine S.F_law_cells.ok0 sc_law_cells (fun vs H Q E h => ?_) (fun cdv A outer s H vs Q E hr h => ?_)
  · obtain ⟨a, ns, rfl, _⟩ := h
    rfl
  · obtain ⟨sa, ns, rfl, hS, q⟩ := h
    refine ⟨_, (pss_cons (ps_lcset (i := 1) ["_law_script", "_law_k"] [0] rfl (pi_range1 rfl T.b_range (pa_cons (pe_op op_add pe_int (pe_op op_mod (pe_call ((ok_law_cell_at T S).mono (by decide)) hr rfl T.mg_law_cell_at T.kp_law_cell_at S.b_law_cell_at .nil pass0 (pa_cons (pv 0) (pa_cons pe_int pa_nil))) pe_int)) pa_nil)) (fun _ _ _ _ _ => (pg_name (i := 1) (show List.Nodup (["_law_script", "_law_k"] : List Str) from by decide) rfl (Or.inl rfl))) (fun _ _ _ _ _ => pif_nil) (fun _ _ _ _ _ => (pe_op op_mod (pe_call ((ok_law_cell_at T S).mono (by decide)) hr rfl T.mg_law_cell_at T.kp_law_cell_at S.b_law_cell_at .nil pass0 (pa_cons (pv 0) (pa_cons (pe_op op_add pe_int (pv 1)) pa_nil))) (pe_op op_pow pe_int pe_int))) (by kernel_rfl) (own_name (by decide)) sc_law_cells.nd rfl (Or.inl rfl)) (pss_mid (ps_if (pt_cmpR op_eq (pe_op op_mod (pe_op op_fdiv (pe_call ((ok_law_cell_at T S).mono (by decide)) hr rfl T.mg_law_cell_at T.kp_law_cell_at S.b_law_cell_at .nil pass0 (pa_cons (pv 0) (pa_cons pe_int pa_nil))) pe_int) pe_int) pe_int (nomark _)) (pss_one (ps_set (i := 1) sc_law_cells.nd rfl (Or.inl rfl) (pe_op op_catN (pe_comp ["_law_cell"] [] rfl (pi_list (pe_slice sl_list (pv 1) po_none (po_some (pe_un un_neg pe_int)))) (fun _ _ _ _ _ => (pg_name (i := 0) (show List.Nodup (["_law_cell"] : List Str) from by decide) rfl (Or.inl rfl))) (fun _ _ _ _ _ => pif_nil) (fun _ _ _ _ _ => (pe_ix (ix_listK (K := K) rfl) (pe_lstN (pa_cons pe_int (pa_cons pe_int pa_nil))) (pe_op op_mod (pv 0) pe_int) (fun _ _ => rfl))) (by kernel_rfl) (own_name (by decide))) (pe_slice sl_list (pv 1) (po_some (pe_un un_neg pe_int)) po_none)))) pss_nil) (pss_one (ps_ret (pv 1))))), ?_⟩
    refine ⟨_, rfl, sa, ns, 18, rfl, hS, by decide, _, _, rfl, rfl, (by show (0 : Int) < 8; decide), _, _, rfl, rfl, ?_⟩
    dsimp only
    have n8 := mod_in (cellAt ns 18) 8 (by decide)
    refine ⟨_, rfl, by omega, by omega, fun D H2 nD sD eD => ?_⟩
    refine lc_rangeR (lo := 0) (n := (1 + cellAt ns 18 % 8).toNat) (D := D) (k := 1) (fun i H3 => Same H H3 ∧ ∃ cs, H3 D = some (.lst (List.map V.int cs)) ∧ cs.length = i) ⟨sD, [], eD, rfl⟩ (fun i H3 hi hp => ?_) (fun H3 hp => ?_)
    · obtain ⟨s3, cs, e3, l3⟩ := hp
      refine ⟨_, rfl, _, rfl, _, _, rfl, rfl, sa, ns, _, rfl, s3.seq hS, by omega, _, _, rfl, rfl, ⟨by decide, by decide, by decide⟩, _, _, rfl, rfl, (by show (0 : Int) < 10 ^ Int.toNat 6; decide), _, e3, by rw [List.length_map, sizeLine_eq]; omega, fun b o e => by rw [upd_ne (ne_of_none e nD)]; exact s3 _ _ e, cs ++ [cellAt ns (19 + (0 + (i : Int))) % 10 ^ Int.toNat 6], ?_, by rw [List.length_append, l3]; rfl⟩
      rw [List.map_append]
      exact upd_same
    · obtain ⟨s3, cs, e3, l3⟩ := hp
      have c1 : 1 ≤ cs.length := by omega
      have c2 : cs.length ≤ 8 := by omega
      refine ⟨fun σ' H' => ∃ l cs, σ' = [some (.ref sa), some (.ref l)] ∧ H l = none ∧ Same H H' ∧ H' l = some (.lst (List.map V.int cs)) ∧ 1 ≤ cs.length ∧ cs.length ≤ 8, ?_, ?_⟩
      · refine ⟨_, rfl, sa, ns, 18, rfl, s3.seq hS, by decide, _, _, rfl, rfl, ⟨by decide, by decide⟩, _, _, rfl, rfl, (by show (0 : Int) < 4; decide), rfl, _, rfl, ?_⟩
        rw [dec_ii]
        by_cases z : cellAt ns 18 / 32 % 4 = 1
        · rw [decide_eq_true z]
          refine iteT ?_
          have x1 : cutV (List.map V.int cs) none (some (-1)) = List.map V.int (cs.take (cs.length - 1)) := by rw [cut_m1 (by rw [List.length_map]; exact c1), List.length_map, List.map_take]
          have x2 : cutV (List.map V.int cs) (some (-1)) none = List.map V.int (cs.drop (cs.length - 1)) := by rw [cut_l1 (by rw [List.length_map]; exact c1), List.length_map, List.map_drop]
          refine ⟨_, rfl, 1, rfl, _, rfl, D, _, rfl, SqL.of e3, fun p np => ?_⟩
          rw [x1]
          have s4 : Same H3 (upd H3 p (.lst (List.map V.int (cs.take (cs.length - 1))))) := Same.upd np
          have e4 : (upd H3 p (.lst (List.map V.int (cs.take (cs.length - 1))))) p = some (.lst (List.map V.int (cs.take (cs.length - 1)))) := upd_same
          generalize upd H3 p (.lst (List.map V.int (cs.take (cs.length - 1)))) = H4 at s4 e4 ⊢
          refine ⟨p, rfl, ⟨_, SqL.of e4⟩, fun D2 H5 n5 s5 e5 => ?_⟩
          refine lc_listR (K := K) (a := p) (xs := List.map V.int (cs.take (cs.length - 1))) (D := D2) (k := 0) (fun i H6 => Same H4 H6 ∧ ∃ ds, H6 D2 = some (.lst (List.map V.int ds)) ∧ ds.length = i) ⟨s5, [], e5, rfl⟩ (fun i H6 hp => SqL.of (hp.1 _ _ e4)) (fun i x H6 hx hp => ?_) (fun H6 hp => ?_)
          · obtain ⟨s6, ds, e6, l6⟩ := hp
            have hi : i < (List.map V.int (cs.take (cs.length - 1))).length := (List.getElem?_eq_some_iff.mp hx).1
            rw [List.length_map, List.length_take] at hi
            obtain ⟨c, hc⟩ : ∃ c, x = .int c := by
              obtain ⟨c, _, e⟩ := List.mem_map.mp (List.mem_of_getElem? hx)
              exact ⟨c, e.symm⟩
            subst hc
            have m2 := mod_in c 2 (by decide)
            have ax : atI [V.int 13, V.int 15] (c % 2) = some (.int (if c % 2 = 0 then 13 else 15)) := by
              have w : c % 2 = 0 ∨ c % 2 = 1 := by omega
              rcases w with w | w <;> rw [w] <;> rfl
            refine ⟨by show 2 ≤ sizeLine; decide, fun l7 H7 n7 s7 e7 => ⟨_, rfl, _, _, rfl, rfl, (by show (0 : Int) < 2; decide), l7, _, _, _, rfl, rfl, SqL.of e7, ax, _, s7 _ _ e6, by rw [List.length_map, sizeLine_eq]; omega, fun b o e => by rw [upd_ne (ne_of_none e n5)]; exact s7 _ _ (s6 _ _ e), ds ++ [if c % 2 = 0 then 13 else 15], ?_, by rw [List.length_append, l6]; rfl⟩⟩
            rw [List.map_append]
            exact upd_same
          · obtain ⟨s6, ds, e6, l6⟩ := hp
            rw [List.length_map, List.length_take] at l6
            have e3' := s6 _ _ (s4 _ _ e3)
            refine ⟨_, rfl, 1, rfl, _, rfl, D, _, rfl, SqL.of e3', fun p2 np2 => ?_⟩
            rw [x2]
            refine ⟨D2, p2, _, _, rfl, rfl, Same.upd np2 _ _ e6, upd_same, by rw [List.length_map, List.length_map, List.length_drop, sizeLine_eq]; omega, fun l9 H9 n9 s9 e9 => ?_⟩
            have n9' : H l9 = none := s3.free (s4.free (s6.free ((Same.upd np2).free n9)))
            refine ⟨l9, ds ++ cs.drop (cs.length - 1), rfl, n9', s3.trans (s4.trans (s6.trans ((Same.upd np2).trans s9))), ?_, ?_, ?_⟩
            · rw [List.map_append]
              exact e9
            · rw [List.length_append, List.length_drop]; omega
            · rw [List.length_append, List.length_drop]; omega
        · rw [decide_eq_false z]
          exact iteF ⟨D, cs, rfl, nD, s3, e3, c1, c2⟩
      · rintro σ' H' ⟨l, cs, rfl, nl, s', e', a1, a2⟩
        exact ⟨_, rfl, q l cs H' nl s' e' a1 a2⟩
def spRf : Sp := fun vs H Q _ => ∃ n : Int, vs = [.int n] ∧ (n = 0 ∨ (9 ≤ n ∧ n ≤ 12)) ∧ ∀ H', Same H H' → Q (.bl true) H'
set_option maxHeartbeats 0 in
theorem ok_law_refused (T : Txt K mg t) (S : Fns K t) : FnOk P w K mg base (CX0) 5 t.f_law_refused S.fd_law_refused ["_law_many"] spRf := by
  refine S.F_law_refused.ok0 sc_law_refused (fun vs H Q E h => ?_) (fun cdv A outer s H vs Q E hr h => ?_)
  · obtain ⟨n, rfl, _⟩ := h
    rfl
  · obtain ⟨n, rfl, hn, q⟩ := h
    refine ⟨_, (pss_cons (ps_set (i := 1) sc_law_refused.nd rfl (Or.inl rfl) pe_non) (pss_cons (ps_try (fun pins XE ES tk1 po1 => (pss_one (ps_expr (pe_makeS tk1 T.mk_Order ((ok_Order_init T S).mono (by decide)) hr rfl T.mg_Order S.b_Order_init .nil (pa_cons (pe_comp ["_law_k"] [] rfl (pi_range1 rfl T.b_range (pa_cons (pv 0) pa_nil)) (fun _ _ _ _ _ => (pg_name (i := 0) (show List.Nodup (["_law_k"] : List Str) from by decide) rfl (Or.inl rfl))) (fun _ _ _ _ _ => pif_nil) (fun _ _ _ _ _ => (pe_mk0 T.mk0_Rule rfl T.mg_Rule)) (by kernel_rfl) (own_name (by decide))) pa_nil))))) (ph_as (i := 2) sc_law_refused.nd rfl rfl rfl (fun ea => (pe_glob rfl T.mg_WornError rfl (v := .ref t.C_WornError))) rfl (fun ea => (pss_one (ps_set (i := 1) sc_law_refused.nd rfl (Or.inl rfl) (pe_lstN (pa_cons (pe_callB (call_isinstK (K := K) rfl) (by rfl) T.b_isinstance (by kernel_rfl) (pa_cons (pv 2) (pa_cons (pe_glob rfl T.mg_NoRule rfl (v := .ref t.C_NoRule)) pa_nil))) (pa_cons (pe_callB (call_isinstK (K := K) rfl) (by rfl) T.b_isinstance (by kernel_rfl) (pa_cons (pv 2) (pa_cons (pe_bltn rfl T.b_ValueError (by kernel_rfl) rfl (v := .ty "ValueError")) pa_nil))) (pa_cons (pe_callB (call_isinstK (K := K) rfl) (by rfl) T.b_isinstance (by kernel_rfl) (pa_cons (pv 2) (pa_cons (pe_glob rfl T.mg_NoRace rfl (v := .ref t.C_NoRace)) pa_nil))) pa_nil))))))) (ph_nil takes_never))) (pss_one (ps_ret (pe_cmpR (op_eqS hr.units) (pv 1) (pe_lstN (pa_cons pe_bl (pa_cons pe_bl (pa_cons pe_bl pa_nil)))) (nomark _)))))), ?_⟩
    refine ⟨_, rfl, n, rfl, by omega, by omega, fun D H2 nD sD eD => ?_⟩
    refine lc_rangeR (lo := 0) (n := n.toNat) (D := D) (k := 0) (fun i H3 => Same H H3 ∧ ∃ vs, H3 D = some (.lst vs) ∧ vs.length = i) ⟨sD, [], eD, rfl⟩ (fun i H3 hi hp => ?_) (fun H3 hp => ?_)
    · obtain ⟨s3, vs, e3, l3⟩ := hp
      refine fun r d nr nd ne => ?_
      have sM := mk_sameF (o := .ins t.C_Rule d []) nr nd
      exact ⟨vs, sM _ _ e3, by rw [sizeLine_eq]; omega, fun b o e => by rw [upd_ne (ne_of_none e nD)]; exact sM _ _ (s3 _ _ e), _, upd_same, by rw [List.length_append, l3]; rfl⟩
    · obtain ⟨s3, vs, e3, l3⟩ := hp
      refine fun x dx nx nd ne => ?_
      have s4 := mk_sameF (o := .ins t.C_Order dx []) nx nd
      refine ⟨x, dx, D, vs, rfl, upd_same, s4 _ _ e3, ?_⟩
      rw [if_neg (by omega)]
      intro ea hea
      refine ⟨_, T.xm_NoRule_WornError, iteT ?_⟩
      have sX : Same H (upd (upd (upd H3 dx (.own x)) x (.ins t.C_Order dx [])) ea (XO ea (.ref t.C_NoRule) none)) := s3.trans (s4.trans (Same.upd hea))
      have kn : KndT K (upd (upd (upd H3 dx (.own x)) x (.ins t.C_Order dx [])) ea (XO ea (.ref t.C_NoRule) none)) (.ref ea) (.ref t.C_NoRule) := .inr ⟨ea, _, none, rfl, rfl, .inl upd_same, T.xr_NoRule, .inl rfl⟩
      refine ⟨_, rfl, _, _, _, _, _, rfl, rfl, kn, T.xk_NoRule_NoRule, _, rfl, _, _, _, _, _, rfl, rfl, kn, T.xk_NoRule_ValueError, _, rfl, _, _, _, _, _, rfl, rfl, kn, T.xk_NoRule_NoRace, by show 3 ≤ sizeLine; decide, fun l5 H5 n5 s5 e5 => ?_⟩
      refine ⟨_, rfl, by show 3 ≤ sizeLine; decide, fun l6 H6 n6 s6 e6 => ⟨?_, q H6 (sX.trans (s5.trans s6))⟩⟩
      refine .lst (SqL.of (s6 _ _ e5)) (SqL.of e6) rfl fun i x y ex ey => ?_
      have exy : x = y := Option.some.inj (ex.symm.trans ey)
      subst exy
      refine .flat ?_
      have := List.mem_of_getElem? ey
      simp only [List.mem_cons, List.not_mem_nil, or_false] at this
      rcases this with rfl | rfl | rfl <;> rfl
def spTg (K : PySem.W.Frag) (t : Adr) : Sp := fun vs H Q _ => ∃ r l us ts rl rs pg nw cs, vs = [.ref r, .ref l, .ref rl, .int pg, .int nw] ∧ OrAt t H r cs ∧ H l = some (.lst us) ∧ Tls H us ts ∧ SqL K H rl rs ∧ Paired (LstI K H) rs (ts.map (rkL pg nw cs)) ∧ (∀ o ∈ ts, Tl.Ok pg nw o) ∧ 1 ≤ pg ∧ pg ≤ 16 ∧ nw ≤ 10 ^ 30 ∧ ts ≠ [] ∧ ts.length ≤ 16 ∧ ∀ H', Same H H' → Q (.bl true) H'
set_option maxHeartbeats 0 in
theorem ok_law_turned_good (T : Txt K mg t) (S : Fns K t) : FnOk P w K mg base (CX0) 12 t.f_law_turned_good S.fd_law_turned_good ["_law_rule", "_law_tallies_here", "_law_ranks", "_law_pages", "_law_now_here"] (spTg K t) := by
  refine S.F_law_turned_good.ok0 sc_law_turned_good (fun vs H Q E h => ?_) (fun cdv A outer s H vs Q E hr h => ?_)
  · obtain ⟨r, l, us, ts, rl, rs, pg, nw, cs, rfl, _⟩ := h
    rfl
  · obtain ⟨r, l, us, ts, rl, rs, pg, nw, cs, rfl, hO, hl, hts, hr1, hrs, os, p0, p1, hn0, hne, hln, q⟩ := h
    have hlen := hts.len
    have rlen := hrs.len
    rw [List.length_map] at rlen
    have tpos : 0 < ts.length := List.length_pos_iff.mpr hne
    refine ⟨_, (pss_cons (ps_set (i := 5) sc_law_turned_good.nd rfl (Or.inl rfl) (pe_make T.mk_Turned ((ok_Turned_init T S).mono (by decide)) hr rfl T.mg_Turned S.b_Turned_init .nil pass0 (pa_cons (pv 0) pa_nil))) (pss_cons (ps_if (pt_cmpR op_ne (pe_meth (pv 5) T.cl_Turned T.m_Turned_goes_ahead ((ok_Turned_goes_ahead T S).mono (by decide)) hr S.b_Turned_goes_ahead .nil pass0 (pa_cons (pe_ix ix_list (pv 1) pe_int (fun _ _ => rfl)) (pa_cons (pe_ix ix_list (pv 1) (pe_un un_neg pe_int) (fun _ _ => rfl)) (pa_cons (pv 3) (pa_cons (pv 4) pa_nil))))) (pe_cmpR (op_gtL hr.units) (pe_ix ix_list (pv 2) pe_int (fun _ _ => rfl)) (pe_ix ix_list (pv 2) (pe_un un_neg pe_int) (fun _ _ => rfl)) (nomark _)) (nomark _)) (pss_one (ps_ret pe_bl)) pss_nil) (pss_cons (ps_set (i := 6) sc_law_turned_good.nd rfl (Or.inr rfl) (pe_callB (call_maxLL rfl hr.units) (by rfl) T.b_max (by kernel_rfl) (pa_cons (pv 2) pa_nil))) (pss_cons (ps_lcset (i := 7) ["_law_most", "_law_tally", "_law_rank_here"] [6] rfl (pi_zip rfl T.b_zip (pa_cons (pv 1) (pa_cons (pv 2) pa_nil))) (fun _ _ _ _ _ => (pg_tupK (K := K) (n := 2) rfl rfl (pgs_cons (pg_name (i := 1) (show List.Nodup (["_law_most", "_law_tally", "_law_rank_here"] : List Str) from by decide) rfl (Or.inl rfl)) (pgs_cons (pg_name (i := 2) (show List.Nodup (["_law_most", "_law_tally", "_law_rank_here"] : List Str) from by decide) rfl (Or.inl rfl)) pgs_nil)) rfl rfl)) (fun _ _ _ _ _ => (pif_one (pt_cmpR (op_eqLIK (K := K) rfl hr.units) (pv 2) (pv 0) (nomark _)))) (fun _ _ _ _ _ => (pe_ix (ix_tupK (K := K) rfl) (pv 1) pe_int (fun _ _ => rfl))) (by kernel_rfl) (own_tup (own_cons (by decide) (own_cons (by decide) own_nil))) sc_law_turned_good.nd rfl (Or.inl rfl)) (pss_one (ps_ret (pe_cmpR op_eq (pe_meth (pv 5) T.cl_Turned T.m_Turned_choose ((ok_Rule_choose T S).mono (by decide)) hr S.b_Rule_choose .nil pass0 (pa_cons (pe_callTy call_list_ofN (by rfl) T.b_list (by kernel_rfl) (pa_cons (pv 1) pa_nil)) (pa_cons (pv 3) (pa_cons (pv 4) pa_nil)))) (pe_ix ix_list (pv 7) pe_int (fun _ _ => rfl)) (nomark _)))))))), ?_⟩
    refine ⟨_, rfl, fun x d nx nd ne => ⟨x, d, .ref r, rfl, upd_same, rfl, ?_⟩⟩
    rw [upd_upd]
    have s1 := mk_sameF (o := .ins t.C_Turned d [("inner", .ref r)]) nx nd
    have hx : (upd (upd H d (.own x)) x (.ins t.C_Turned d [("inner", .ref r)])) x = some (.ins t.C_Turned d [("inner", .ref r)]) := upd_same
    generalize upd (upd H d (.own x)) x (.ins t.C_Turned d [("inner", .ref r)]) = H1 at s1 hx ⊢
    have hO1 := hO.same s1
    have hl1 := s1 _ _ hl
    have hts1 : Tls H1 us ts := Paired.mapP hts fun _ _ z => z.same s1
    have hr11 := s1.seq hr1
    have hrs1 : Paired (LstI K H1) rs (ts.map (rkL pg nw cs)) := Paired.mapP hrs fun _ _ z => lsti_same s1 z
    have atU : ∀ j, ∀ hj : j < ts.length, ∃ v, us[j]? = some v ∧ TlAt H1 v ts[j] := fun j hj => by
      have e : us[j]? = some (us[j]'(by omega)) := List.getElem?_eq_getElem (by omega)
      obtain ⟨O, hO, ho⟩ := Paired.at hts1 e
      obtain rfl : ts[j] = O := (List.getElem?_eq_some_iff.mp hO).2
      exact ⟨_, e, ho⟩
    have atR : ∀ j, ∀ hj : j < ts.length, ∃ v, rs[j]? = some v ∧ LstI K H1 v (rkL pg nw cs ts[j]) := fun j hj => by
      have e : rs[j]? = some (rs[j]'(by omega)) := List.getElem?_eq_getElem (by omega)
      obtain ⟨k, k1, k2⟩ := Paired.at hrs1 e
      rw [List.getElem?_map, List.getElem?_eq_getElem hj] at k1
      cases k1
      exact ⟨_, e, k2⟩
    have last : ∀ {α : Type} {ys : List α} {v : α}, ys.length = ts.length → ys[ts.length - 1]? = some v → atI ys (-1) = some v := fun {α ys v} e1 e2 => by
      unfold atI
      have z : ixN ys.length (-1) = some (ts.length - 1) := by
        unfold ixN
        rw [if_neg (by decide)]
        rw [if_pos (by omega)]
        congr 1
        omega
      rw [z]
      exact e2
    obtain ⟨v0, u0, a0⟩ := atU 0 tpos
    obtain ⟨v1, u1, a1⟩ := atU (ts.length - 1) (by omega)
    obtain ⟨w0, x0, c0⟩ := atR 0 tpos
    obtain ⟨w1, x1, c1⟩ := atR (ts.length - 1) (by omega)
    refine ⟨_, rfl, x, d, _, rfl, hx, rfl, _, rfl, l, us, 0, v0, rfl, rfl, SqL.of hl1, atI_nat (j := 0) u0, _, rfl, 1, rfl, l, us, -1, v1, rfl, rfl, SqL.of hl1, last hlen u1, _, rfl, _, rfl, x, _, _, pg, nw, _, _, cs, d, r, rfl, hx, hO1, a0, a1, os _ (List.getElem_mem _), os _ (List.getElem_mem _), p0, p1, ?_⟩
    refine ⟨_, rfl, rl, rs, 0, w0, rfl, rfl, hr11, atI_nat (j := 0) x0, _, rfl, 1, rfl, rl, rs, -1, w1, rfl, rfl, hr11, last rlen x1, _, _, c0, c1, by simp [rkL], rfl, _, rfl, ?_⟩
    rw [decide_eq_true rfl]
    refine iteF ?_
    have ln : ∀ k ∈ ts.map (rkL pg nw cs), k.length = cs.length := fun k hk => by
      obtain ⟨o, _, rfl⟩ := List.mem_map.mp hk
      rw [rkL, List.length_map]
    refine ⟨_, rfl, rl, rs, ts.map (rkL pg nw cs), cs.length, rfl, hr11, hrs1, ln, by omega, fun m hm hmax => ?_⟩
    have gk : ∀ j, ∀ hj : j < ts.length, (ts.map (rkL pg nw cs)).getD j [] = rkL pg nw cs ts[j] := fun j hj => by
      rw [List.getD_eq_getElem?_getD, List.getElem?_map, List.getElem?_eq_getElem hj]
      rfl
    have hm' : m < ts.length := by omega
    have mx : ∀ j, ∀ hj : j < ts.length, encT pg nw cs ts[j] ≤ encT pg nw cs ts[m] := fun j hj => by
      have z := hmax j (by omega)
      rw [gk j hj, gk m hm', lx_enc (os _ (List.getElem_mem hm')) (os _ (List.getElem_mem hj)) p0 p1 hn0] at z
      have := of_decide_eq_false z
      omega
    obtain ⟨lst, e0, lv⟩ := atR m hm'
    have e0' : rs.getD m .non = lst := by rw [List.getD_eq_getElem?_getD, e0]; rfl
    rw [e0']
    refine ⟨_, rfl, _, rfl, l, rl, rfl, ⟨us, SqL.of hl1⟩, ⟨_, hr11⟩, fun D H2 nD sD eD => ?_⟩
    refine lc_zipX (K := K) (l1 := l) (l2 := rl) (xs := us) (ys := rs) (D := D) (fun i H3 => Same H1 H3 ∧ ∃ bs, H3 D = some (.lst (List.map V.int bs)) ∧ bs.length ≤ i ∧ ((bs = [] ∧ ∀ j, ∀ hj : j < ts.length, j < i → encT pg nw cs ts[j] ≠ encT pg nw cs ts[m]) ∨ ∃ bs', bs = pk (fun T => 0 - encT pg nw cs T) ts :: bs')) ⟨sD, [], eD, Nat.le_refl _, .inl ⟨rfl, fun j _ z => absurd z (Nat.not_lt_zero _)⟩⟩ (fun i H3 hp => ⟨SqL.of (hp.1 _ _ hl1), hp.1.seq hr11⟩) (by omega) (fun i xv yv W H3 hxv hyv hp nW => ?_) (fun H3 hp => ?_)
    · obtain ⟨s3, bs, e3, l3, hb⟩ := hp
      obtain ⟨O, hO', ho⟩ := Paired.at hts1 hxv
      have hi : i < ts.length := (List.getElem?_eq_some_iff.mp hO').1
      obtain rfl : ts[i] = O := (List.getElem?_eq_some_iff.mp hO').2
      have ly : LstI K H1 yv (rkL pg nw cs ts[i]) := by
        obtain ⟨v, e, z⟩ := atR i hi
        rw [e] at hyv
        cases hyv
        exact z
      refine ⟨W, _, rfl, SqT.of upd_same, rfl, _, _, rfl, _, _, rfl, rfl, ?_⟩
      have s4 : Same H3 (upd H3 W (.tup [xv, yv])) := Same.upd nW
      have s14 : Same H1 (upd H3 W (.tup [xv, yv])) := s3.trans s4
      refine ⟨_, rfl, _, rfl, _, _, lsti_same s14 ly, lsti_same s14 lv, by simp [rkL], _, rfl, ?_⟩
      by_cases e : rkL pg nw cs ts[i] = rkL pg nw cs ts[m]
      · rw [decide_eq_true e]
        refine iteT ?_
        obtain ⟨xa, rfl, hxa⟩ := ho
        refine ⟨_, rfl, xa, _, 0, _, rfl, rfl, SqT.of (s14 _ _ hxa), rfl, _, s4 _ _ e3, by rw [List.length_map, sizeLine_eq]; omega, fun b o eb => by rw [upd_ne (ne_of_none eb nD)]; exact s14 _ _ eb, bs ++ [(ts[i]).b], ?_, by rw [List.length_append]; show bs.length + 1 ≤ i + 1; omega, .inr ?_⟩
        · rw [List.map_append]
          exact upd_same
        · have ee : encT pg nw cs ts[i] = encT pg nw cs ts[m] := encT_inj (os _ (List.getElem_mem hi)) (os _ (List.getElem_mem hm')) p0 p1 hn0 e
          rcases hb with ⟨rfl, hn⟩ | ⟨bs', rfl⟩
          · refine ⟨[], ?_⟩
            rw [pk_eq hi (unb_iff.mpr fun o ho => ?_) (fun j hj => ?_)]
            · rfl
            · obtain ⟨j, hj, rfl⟩ := List.getElem_of_mem ho
              have := mx j hj
              omega
            · cases u : unb (fun T => 0 - encT pg nw cs T) ts (ts[j]'(by omega)) with
              | false => rfl
              | true =>
                have g := unb_iff.mp u _ (List.getElem_mem hm')
                have := mx j (by omega)
                exact absurd (show encT pg nw cs ts[j] = encT pg nw cs ts[m] by omega) (hn j (by omega) hj)
          · exact ⟨bs' ++ [(ts[i]).b], rfl⟩
      · rw [decide_eq_false e]
        refine iteF ⟨s14, bs, s4 _ _ e3, by omega, ?_⟩
        rcases hb with ⟨rfl, hn⟩ | h
        · refine .inl ⟨rfl, fun j hj z => ?_⟩
          by_cases ej : j = i
          · subst ej
            intro ee
            have a1 := os _ (List.getElem_mem hi)
            have a2 := os _ (List.getElem_mem hm')
            have x1 := lx_enc (cs := cs) a1 a2 p0 p1 hn0
            have x2 := lx_enc (cs := cs) a2 a1 p0 p1 hn0
            rw [ee, decide_eq_false (Int.lt_irrefl _)] at x1
            rw [ee, decide_eq_false (Int.lt_irrefl _)] at x2
            exact e (lx_eq (by simp [rkL]) x1 x2)
          · exact hn j hj (by omega)
        · exact .inr h
    · obtain ⟨s3, bs, e3, l3, hb⟩ := hp
      rcases hb with ⟨rfl, hn⟩ | ⟨bs', rfl⟩
      · exact absurd rfl (hn m hm' (by omega))
      · refine ⟨_, rfl, x, d, _, rfl, s3 _ _ hx, rfl, _, rfl, l, us, rfl, .inl (SqL.of (s3 _ _ hl1)), fun l5 H5 n5 s5 e5 => ?_⟩
        have s15 := s3.trans s5
        refine ⟨_, rfl, _, rfl, x, l5, pg, nw, us, ts, _, rfl, ⟨cs, p0, hn0, .inr ⟨d, r, s15 _ _ hx, hO1.same s15, rfl⟩⟩, SqL.of e5, hts1.same s15, os, p1, hne, ?_⟩
        refine ⟨_, rfl, D, _, 0, .int (pk (fun T => 0 - encT pg nw cs T) ts), rfl, rfl, SqL.of (s5 _ _ e3), atI_nat (j := 0) rfl, rfl, ?_⟩
        rw [decide_eq_true rfl]
        exact q _ (s1.trans s15)
theorem sql_kp {H H' : Hp} {sa : Addr} {xs : List V} {F : List Addr} (h : SqL K H sa xs) (f : ∀ b ∈ F, H b = none ∨ ∃ ps, H b = some (.tbl ps)) (k : ∀ b o, b ∉ F → H b = some o → H' b = some o) : SqL K H' sa xs := by
  have nf : ∀ b o, H b = some o → (∀ ps, o ≠ .tbl ps) → H' b = some o := fun b o e n => k b o (fun z => by
    rcases f b z with y | ⟨ps, y⟩
    · rw [y] at e; cases e
    · rw [y] at e; exact n ps (Option.some.inj e).symm) e
  rcases h with (h | ⟨u, h⟩) | h
  · exact .inl (.inl (nf _ _ h (by intro ps z; cases z)))
  · exact .inl (.inr ⟨u, nf _ _ h (by intro ps z; cases z)⟩)
  · exact .inr h
def UnK (H H' : Hp) : Prop := ∀ b o, (∀ xs, o ≠ .lst xs) → (∀ ps, o ≠ .tbl ps) → H b = some o → H' b = some o
theorem UnK.trans {H H1 H2 : Hp} (a : UnK H H1) (b : UnK H1 H2) : UnK H H2 := fun c o n m e => b c o n m (a c o n m e)
theorem UnK.of {H H' : Hp} (s : Same H H') : UnK H H' := fun b o _ _ e => s b o e
theorem UnK.upd {H : Hp} {p : Addr} {vs ws : List V} (h : H p = some (.lst vs)) : UnK H (upd H p (.lst ws)) := fun b o n _ e => by
  rw [upd_ne (fun z => by rw [z, h] at e; exact n _ (Option.some.inj e).symm)]
  exact e
theorem LamAt.un {i : Nat} {H H' : Hp} {g : Addr} (h : LamAt i H g) (s : UnK H H') : LamAt i H' g := let ⟨pm, ct, c, a, b⟩ := h; ⟨pm, ct, c, s _ _ (by intro xs z; cases z) (by intro xs z; cases z) a, s _ _ (by intro xs z; cases z) (by intro xs z; cases z) b⟩
theorem BaAt.un {t : Adr} {H H' : Hp} {r : Addr} {kd : Int} (h : BaAt t H r kd) (u : UnK H H') : BaAt t H' r kd := by
  have s : ∀ b C d fs, H b = some (.ins C d fs) → H' b = some (.ins C d fs) := fun b C d fs e => u b _ (by intro xs z; cases z) (by intro xs z; cases z) e
  rcases h with ⟨d, a, b⟩ | ⟨d, a, b⟩ | ⟨d, a, b⟩ | ⟨d, a, b⟩ | ⟨d, g, f, a, l, b⟩ | ⟨d, m, a, b⟩ | ⟨d, x, y, a, b⟩
  · exact .inl ⟨d, s _ _ _ _ a, b⟩
  · exact .inr (.inl ⟨d, s _ _ _ _ a, b⟩)
  · exact .inr (.inr (.inl ⟨d, s _ _ _ _ a, b⟩))
  · exact .inr (.inr (.inr (.inl ⟨d, s _ _ _ _ a, b⟩)))
  · exact .inr (.inr (.inr (.inr (.inl ⟨d, g, f, s _ _ _ _ a, l.imp (fun z => ⟨z.1.un u, z.2⟩) (fun z => ⟨z.1.un u, z.2⟩), b⟩))))
  · exact .inr (.inr (.inr (.inr (.inr (.inl ⟨d, m, s _ _ _ _ a, b⟩)))))
  · exact .inr (.inr (.inr (.inr (.inr (.inr ⟨d, x, y, s _ _ _ _ a, b⟩)))))
theorem MdAt.un {t : Adr} {H H' : Hp} {r : Addr} {c : Int} (h : MdAt t H r c) (u : UnK H H') : MdAt t H' r c := by
  rcases h with ⟨a, dx, r', b, d⟩ | ⟨a, b⟩
  · exact .inl ⟨a, dx, r', u _ _ (by intro xs z; cases z) (by intro xs z; cases z) b, d.un u⟩
  · exact .inr ⟨a, b.un u⟩
theorem mds_un {t : Adr} {H H' : Hp} {vs : List V} {cs : List Int} (h : Paired (MdV t H) vs cs) (u : UnK H H') : Paired (MdV t H') vs cs := Paired.mapP h fun _ _ ⟨a, e, z⟩ => ⟨a, e, z.un u⟩
theorem Tls.un {H H' : Hp} {vs : List V} {ts : List Tl} (h : Tls H vs ts) (u : UnK H H') : Tls H' vs ts := Paired.mapP h fun _ _ ⟨a, e, z⟩ => ⟨a, e, u _ _ (by intro xs z; cases z) (by intro xs z; cases z) z⟩
theorem TbAt.updL {t : Adr} {H : Hp} {D : Addr} {vs ws : List V} (h : TbAt t H) (hD : H D = some (.lst vs)) : TbAt t (upd H D (.lst ws)) := by
  have cd : ∀ c, Cd H c → Cd (upd H D (.lst ws)) c := fun c hc => by
    have hc : H c = _ := hc
    show (upd H D (.lst ws)) c = _
    rw [upd_ne (fun z => by rw [z, hD] at hc; cases hc)]
    exact hc
  obtain ⟨ps, hT, h⟩ := h
  refine ⟨ps, by rw [upd_ne (fun z => by rw [z, hD] at hT; cases hT)]; exact hT, ?_⟩
  rcases h with h | ⟨c, h, a⟩ | ⟨c, h, a⟩ | ⟨c, d, h, a, b⟩ | ⟨c, d, h, a, b⟩
  · exact .inl h
  · exact .inr (.inl ⟨c, h, cd _ a⟩)
  · exact .inr (.inr (.inl ⟨c, h, cd _ a⟩))
  · exact .inr (.inr (.inr (.inl ⟨c, d, h, cd _ a, cd _ b⟩)))
  · exact .inr (.inr (.inr (.inr ⟨c, d, h, cd _ a, cd _ b⟩)))
def LsN (rk D : Addr) (H : Hp) (v : V) (ns : List Int) : Prop := ∃ p, v = .ref p ∧ p ≠ rk ∧ p ≠ D ∧ H p = some (.lst (List.map V.int ns))
theorem LsN.lst {rk D : Addr} {H : Hp} {v : V} {ns : List Int} (h : LsN rk D H v ns) : LstI K H v ns := let ⟨p, e, _, _, q⟩ := h; ⟨p, e, SqL.of q⟩
theorem two_end {H : Hp} {us rs : List V} {ts : List Tl} {pg nw : Int} {cs : List Int} (h : Tls H us ts) (hr : Paired (LstI K H) rs (ts.map (rkL pg nw cs))) (h0 : 0 < ts.length) {p : Int} (hp : p = 0 ∨ p = -1) :
    ∃ j, ∃ hj : j < ts.length, ∃ x y, atI us p = some x ∧ TlAt H x ts[j] ∧ atI rs p = some y ∧ LstI K H y (rkL pg nw cs ts[j]) := by
  have hlen := h.len
  have rlen := hr.len
  rw [List.length_map] at rlen
  have key : ∀ j, ∀ hj : j < ts.length, ∃ x y, us[j]? = some x ∧ TlAt H x ts[j] ∧ rs[j]? = some y ∧ LstI K H y (rkL pg nw cs ts[j]) := fun j hj => by
    have e : us[j]? = some (us[j]'(by omega)) := List.getElem?_eq_getElem (by omega)
    obtain ⟨O, hO, ho⟩ := Paired.at h e
    obtain rfl : ts[j] = O := (List.getElem?_eq_some_iff.mp hO).2
    have e' : rs[j]? = some (rs[j]'(by omega)) := List.getElem?_eq_getElem (by omega)
    obtain ⟨k, k1, k2⟩ := Paired.at hr e'
    rw [List.getElem?_map, List.getElem?_eq_getElem hj] at k1
    cases k1
    exact ⟨_, _, e, ho, e', k2⟩
  rcases hp with rfl | rfl
  · obtain ⟨x, y, e1, e2, e3, e4⟩ := key 0 h0
    exact ⟨0, h0, x, y, atI_nat (j := 0) e1, e2, atI_nat (j := 0) e3, e4⟩
  · obtain ⟨x, y, e1, e2, e3, e4⟩ := key (ts.length - 1) (by omega)
    refine ⟨ts.length - 1, by omega, x, y, ?_, e2, ?_, e4⟩
    · rw [atI_last (by omega), hlen]
      exact e1
    · rw [atI_last (by omega), rlen]
      exact e3
set_option maxHeartbeats 0 in
theorem ok_law (T : Txt K mg t) (S : Fns K t) (B : BmIn base mg) : FnOk P w K mg base (CX0) 13 t.f_law S.fd_law ["_law_script"] (spLawT K [t.T_law_base]) := by
  refine S.F_law.ok0 sc_law (fun vs H Q E h => ?_) (fun cdv A outer s H vs Q E hr h => ?_)
  · obtain ⟨a, ns, rfl, _⟩ := h
    rfl
  · obtain ⟨a, ns, rfl, hS, hlen, hT, k⟩ := h
    replace hT := hT _ (List.mem_singleton.mpr rfl)
    refine ⟨_, (pss_cons (ps_set (i := 1) sc_law.nd rfl (Or.inr rfl) (pe_op op_add pe_int (pe_op op_mod (pe_call ((ok_law_cell_at T S).mono (by decide)) hr rfl T.mg_law_cell_at T.kp_law_cell_at S.b_law_cell_at .nil pass0 (pa_cons (pv 0) (pa_cons pe_int pa_nil))) pe_int))) (pss_cons (ps_set (i := 2) sc_law.nd rfl (Or.inr rfl) (pe_call ((ok_law_now T S).mono (by decide)) hr rfl T.mg_law_now T.kp_law_now S.b_law_now .nil pass0 (pa_cons (pe_call ((ok_law_cell_at T S).mono (by decide)) hr rfl T.mg_law_cell_at T.kp_law_cell_at S.b_law_cell_at .nil pass0 (pa_cons (pv 0) (pa_cons pe_int pa_nil))) pa_nil))) (pss_cons (ps_set (i := 3) sc_law.nd rfl (Or.inl rfl) (pe_call ((ok_law_tallies T S).mono (by decide)) hr rfl T.mg_law_tallies T.kp_law_tallies S.b_law_tallies .nil pass0 (pa_cons (pv 0) (pa_cons pe_int (pa_cons (pv 1) (pa_cons (pv 2) pa_nil)))))) (pss_cons (ps_set (i := 4) sc_law.nd rfl (Or.inl rfl) (pe_call ((ok_law_cells T S).mono (by decide)) hr rfl T.mg_law_cells T.kp_law_cells S.b_law_cells .nil pass0 (pa_cons (pv 0) pa_nil))) (pss_cons (ps_lcset (i := 5) ["_law_cell"] [] rfl (pi_list (pv 4)) (fun _ _ _ _ _ => (pg_name (i := 0) (show List.Nodup (["_law_cell"] : List Str) from by decide) rfl (Or.inl rfl))) (fun _ _ _ _ _ => pif_nil) (fun _ _ _ _ _ => (pe_call ((ok_law_made T S B).mono (by decide)) hr rfl T.mg_law_made T.kp_law_made S.b_law_made .nil pass0 (pa_cons (pv 0) pa_nil))) (by kernel_rfl) (own_name (by decide)) sc_law.nd rfl (Or.inl rfl)) (pss_cons (ps_set (i := 6) sc_law.nd rfl (Or.inl rfl) (pe_makeS takes_never T.mk_Order ((ok_Order_init T S).mono (by decide)) hr rfl T.mg_Order S.b_Order_init .nil (pa_cons (pv 5) pa_nil))) (pss_cons (ps_set (i := 7) sc_law.nd rfl (Or.inl rfl) (pe_lstN pa_nil)) (pss_cons (ps_for PassesOwn.never rfl (pi_list (pv 3)) (pg_name (i := 8) sc_law.nd rfl (Or.inr rfl)) (pss_one (ps_expr (pe_bm PySem.F.plainAttrs_list PySem.F.slot_list_append PySem.F.type_list_append mt_append (pv 7) (pa_cons (pe_comp ["_law_pages", "_law_now_here", "_law_tally", "_law_cell"] [1, 2, 8] rfl (pi_list (pv 4)) (fun _ _ _ _ _ => (pg_name (i := 3) (show List.Nodup (["_law_pages", "_law_now_here", "_law_tally", "_law_cell"] : List Str) from by decide) rfl (Or.inl rfl))) (fun _ _ _ _ _ => pif_nil) (fun _ _ _ _ _ => (pe_call ((ok_law_rank T S).mono (by decide)) hr rfl T.mg_law_rank T.kp_law_rank S.b_law_rank .nil pass0 (pa_cons (pv 3) (pa_cons (pv 2) (pa_cons (pv 0) (pa_cons (pv 1) pa_nil)))))) (by kernel_rfl) (own_name (by decide))) pa_nil))))) (pss_cons (ps_if (pt_cmpR op_ne (pe_callB call_len_seq (by rfl) T.b_len PySem.boot_len (pa_cons (pv 5) pa_nil)) (pe_callB call_len_seq (by rfl) T.b_len PySem.boot_len (pa_cons (pv 4) pa_nil)) (nomark _)) (pss_one (ps_ret pe_bl)) pss_nil) (pss_cons (ps_for PassesOwn.never rfl (pi_range1 rfl T.b_range (pa_cons pe_int pa_nil)) (pg_name (i := 9) sc_law.nd rfl (Or.inl rfl)) (pss_cons (ps_for PassesOwn.never rfl (pi_list (pe_lstN (pa_cons (pe_tupN (pa_cons pe_int (pa_cons (pe_un un_neg pe_int) pa_nil))) (pa_cons (pe_tupN (pa_cons (pe_un un_neg pe_int) (pa_cons pe_int pa_nil))) pa_nil star_tup) star_tup))) (pg_tup rfl (pgs_cons (pg_name (i := 10) sc_law.nd rfl (Or.inl rfl)) (pgs_cons (pg_name (i := 11) sc_law.nd rfl (Or.inl rfl)) pgs_nil))) (pss_cons (ps_set (i := 12) sc_law.nd rfl (Or.inl rfl) (pe_meth (pv 6) T.cl_Order T.m_Order_goes_ahead ((ok_Order_goes_ahead T S).mono (by decide)) hr S.b_Order_goes_ahead .nil pass0 (pa_cons (pe_ix ix_list (pv 3) (pv 10) (fun _ _ => rfl)) (pa_cons (pe_ix ix_list (pv 3) (pv 11) (fun _ _ => rfl)) (pa_cons (pv 1) (pa_cons (pv 2) pa_nil)))))) (pss_one (ps_if (PW.pt (pw_or (pt_not (pt_val (pe_callB call_isinstC (by rfl) T.b_isinstance (by kernel_rfl) (pa_cons (pv 12) (pa_cons (pe_bltn rfl T.b_bool (by kernel_rfl) rfl (v := .ty "bool")) pa_nil))))) (pw_or1 (pt_cmpR op_ne (pv 12) (pe_cmpR (op_ltL hr.units) (pe_ix ix_list (pv 7) (pv 10) (fun _ _ => rfl)) (pe_ix ix_list (pv 7) (pv 11) (fun _ _ => rfl)) (nomark _)) (nomark _))))) (pss_one (ps_ret pe_bl)) pss_nil)))) (pss_cons (ps_set (i := 13) sc_law.nd rfl (Or.inl rfl) (pe_callTy call_list_ofN (by rfl) T.b_list (by kernel_rfl) (pa_cons (pv 3) pa_nil))) (pss_cons (ps_set (i := 12) sc_law.nd rfl (Or.inl rfl) (pe_meth (pv 6) T.cl_Order T.m_Order_choose ((ok_Rule_choose T S).mono (by decide)) hr S.b_Rule_choose .nil pass0 (pa_cons (pv 13) (pa_cons (pv 1) (pa_cons (pv 2) pa_nil))))) (pss_cons (ps_if (PW.pt (pw_or (pt_not (pt_val (pe_call ((ok_law_whole T S).mono (by decide)) hr rfl T.mg_law_whole T.kp_law_whole S.b_law_whole .nil pass0 (pa_cons (pv 12) pa_nil)))) (pw_or (pt_cmpR op_ne (pv 12) (pe_call ((ok_law_first T S).mono (by decide)) hr rfl T.mg_law_first T.kp_law_first S.b_law_first .nil pass0 (pa_cons (pv 3) (pa_cons (pv 7) pa_nil))) (nomark _)) (pw_or1 (pt_cmpR (op_neS hr.units) (pv 13) (pv 3) (nomark _)))))) (pss_one (ps_ret pe_bl)) pss_nil) (pss_one (ps_expr (pe_bm0 PySem.F.plainAttrs_list PySem.F.slot_list_clear PySem.F.type_list_clear mt_clear (pv 5))))))))) (pss_cons (ps_if (pt_not (pt_val (pe_call ((ok_law_turned_good T S).mono (by decide)) hr rfl T.mg_law_turned_good T.kp_law_turned_good S.b_law_turned_good .nil pass0 (pa_cons (pv 6) (pa_cons (pv 3) (pa_cons (pv 7) (pa_cons (pv 1) (pa_cons (pv 2) pa_nil)))))))) (pss_one (ps_ret pe_bl)) pss_nil) (pss_one (ps_ret (pe_and (pe_call ((ok_law_refused T S).mono (by decide)) hr rfl T.mg_law_refused T.kp_law_refused S.b_law_refused .nil pass0 (pa_cons pe_int pa_nil)) (pe_one (pe_call ((ok_law_refused T S).mono (by decide)) hr rfl T.mg_law_refused T.kp_law_refused S.b_law_refused .nil pass0 (pa_cons (pe_op op_add pe_int (pe_op op_mod (pe_op op_fdiv (pe_call ((ok_law_cell_at T S).mono (by decide)) hr rfl T.mg_law_cell_at T.kp_law_cell_at S.b_law_cell_at .nil pass0 (pa_cons (pv 0) (pa_cons pe_int pa_nil))) pe_int) pe_int)) pa_nil))))))))))))))))), ?_⟩
    refine ⟨_, rfl, a, ns, 0, rfl, hS, by decide, _, _, rfl, rfl, (by show (0 : Int) < 16; decide), _, _, rfl, rfl, ?_⟩
    try dsimp only
    have m0 := mod_in (cellAt ns 0) 16 (by decide)
    generalize cellAt ns 0 % 16 = p at m0 ⊢
    obtain ⟨pg, epg⟩ : ∃ pg, pg = 1 + p := ⟨_, rfl⟩
    rw [← epg]
    have p0 : 1 ≤ pg := by omega
    have p1 : pg ≤ 16 := by omega
    refine ⟨_, rfl, a, ns, 1, rfl, hS, by decide, _, rfl, fun nw n0 n1 => ?_⟩
    refine ⟨_, rfl, _, rfl, _, rfl, a, ns, 2, pg, nw, rfl, hS, by decide, p0, p1, n0, fun l us ts H1 sm1 nl hl1 ht1 ok1 ne1 ln1 _ => ?_⟩
    have t0 : 0 < ts.length := List.length_pos_iff.mpr ne1
    have hlen1 := ht1.len
    refine ⟨_, rfl, a, ns, rfl, sm1.seq hS, fun cl cs H2 ncl s2 e2 c1 c2 => ?_⟩
    have tb2 : TbAt t H2 := ⟨#[], s2 _ _ (sm1 _ _ hT), .inl rfl⟩
    have hT2 := s2 _ _ (sm1 _ _ hT)
    refine ⟨_, rfl, cl, rfl, ⟨_, SqL.of e2⟩, fun D H3 nD sD eD => ?_⟩
    refine lc_listR (K := K) (a := cl) (xs := List.map V.int cs) (D := D) (k := 0) (fun i H4 => (∀ b o, b ≠ t.T_law_base → H2 b = some o → H4 b = some o) ∧ TbAt t H4 ∧ ∃ vs, H4 D = some (.lst vs) ∧ Paired (MdV t H4) vs (cs.take i)) ⟨fun b o _ e => sD _ _ e, tb2.same sD, [], eD, .nil⟩ (fun i H4 hp => SqL.of (hp.1 _ _ (fun z => by rw [z, hT2] at e2; cases e2) e2)) (fun i x H4 hx hp => ?_) (fun H4 hp => ?_)
    · obtain ⟨k4, tb4, vs, e4, pv4⟩ := hp
      have hi : i < cs.length := by
        have := (List.getElem?_eq_some_iff.mp hx).1
        rwa [List.length_map] at this
      obtain rfl : V.int cs[i] = x := by
        rw [List.getElem?_map, List.getElem?_eq_getElem hi] at hx
        exact Option.some.inj hx
      refine ⟨_, rfl, cs[i], rfl, tb4, fun r H5 md tb5 k5 => ?_⟩
      obtain ⟨ps, hT4, _⟩ := id tb4
      have e5 : H5 D = some (.lst vs) := k5 _ _ (fun z => by rw [z, hT4] at e4; cases e4) e4
      have u5 : UnK H4 H5 := fun b o _ n2 e => k5 b o (fun z => by rw [z, hT4] at e; exact n2 _ (Option.some.inj e).symm) e
      have ld := pv4.len
      rw [List.length_take] at ld
      refine ⟨vs, e5, by rw [ld, sizeLine_eq]; omega, fun b o nb e => ?_, tb5.updL e5, vs ++ [.ref r], upd_same, ?_⟩
      · rw [upd_ne (ne_of_none e nD)]
        exact k5 _ _ nb (k4 _ _ nb e)
      · rw [List.take_add_one, List.getElem?_eq_getElem hi]
        exact L2.Paired.snoc (mds_un pv4 (u5.trans (UnK.upd e5))) ⟨r, rfl, md.un (UnK.upd e5)⟩
    · obtain ⟨k4, tb4, vs, e4, pv4⟩ := hp
      rw [List.length_map, List.take_length] at pv4
      have ld := pv4.len
      have kT : ∀ b o, H2 b = some o → (∀ ps, o ≠ .tbl ps) → H4 b = some o := fun b o e n => k4 b o (fun z => by rw [z, hT2] at e; exact n _ (Option.some.inj e).symm) e
      have hl4 : H4 l = some (.lst us) := kT _ _ (s2 _ _ hl1) (by intro ps z; cases z)
      have hc4 : H4 cl = some (.lst (List.map V.int cs)) := kT _ _ e2 (by intro ps z; cases z)
      have ht4 : Tls H4 us ts := (ht1.same s2).un fun b o _ n e => kT b o e n
      have hS4 : SqL K H4 a (ns.map V.int) := sql_kp (F := [t.T_law_base]) (s2.seq (sm1.seq hS)) (fun b hb => by rw [List.mem_singleton.mp hb]; exact .inr ⟨_, hT2⟩) fun b o nb e => k4 b o (fun z => nb (List.mem_singleton.mpr z)) e
      refine ⟨_, rfl, fun x dx nx nd ne => ?_⟩
      have sM := mk_sameF (o := .ins t.C_Order dx []) nx nd
      refine ⟨x, dx, D, vs, rfl, upd_same, sM _ _ e4, ?_⟩
      rw [if_pos ⟨by omega, by omega⟩]
      refine fun ql H5 nq hx5 hq5 k5 => ⟨rfl, ?_⟩
      have s5 : Same H4 H5 := fun b o e => k5 b o (ne_of_none e nx) (sM _ _ e)
      have pv5 : Paired (MdV t H5) vs cs := mds_un pv4 (.of s5)
      have qD : ql ≠ D := fun z => by rw [z, sM _ _ e4] at nq; cases nq
      refine ⟨by show 0 ≤ sizeLine; decide, fun rk H6 n6 s6 e6 => ?_⟩
      have s46 := s5.trans s6
      have hx6 := s6 _ _ hx5
      have hq6 := s6 _ _ hq5
      have hD6 := s46 _ _ e4
      have hl6 := s46 _ _ hl4
      have hc6 := s46 _ _ hc4
      have ht6 := ht4.same s46
      have hS6 := s46.seq hS4
      have pv6 : Paired (MdV t H6) vs cs := mds_un pv5 (.of s6)
      have nrk : ∀ b o, H5 b = some o → b ≠ rk := fun b o e z => by rw [z, n6] at e; cases e
      -- the ranks
      refine ⟨_, rfl, l, rfl, ⟨us, SqL.of hl6⟩, ?_⟩
      have rD : rk ≠ D := fun z => nrk _ _ (s5 _ _ e4) z.symm
      refine for_list (K := K) (a := l) (xs := us) (fun i σ' H' => ∃ y8 rs, σ' = [some (.ref a), some (.int pg), some (.int nw), some (.ref l), some (.ref cl), some (.ref D), some (.ref x), some (.ref rk), y8, none, none, none, none, none] ∧ (∀ b o, b ≠ rk → H6 b = some o → H' b = some o) ∧ H' rk = some (.lst rs) ∧ Paired (LsN rk D H') rs ((ts.take i).map (rkL pg nw cs))) ⟨_, [], rfl, fun b o _ e => e, e6, .nil⟩ (fun i σ' H' _ hp => by obtain ⟨y8, rs, rfl, k7, _⟩ := hp; exact SqL.of (k7 _ _ (nrk _ _ (s5 _ _ hl4)) hl6)) (fun i v σ' H' hv hp => ?_) (fun σ' H' hp => ?_)
      · obtain ⟨y8, rs, rfl, k7, hrk, prs⟩ := hp
        obtain ⟨O, hO, ho⟩ := Paired.at ht6 hv
        have hi : i < ts.length := (List.getElem?_eq_some_iff.mp hO).1
        obtain rfl : ts[i] = O := (List.getElem?_eq_some_iff.mp hO).2
        have ho' : TlAt H' v ts[i] := by
          obtain ⟨ta, rfl, hta⟩ := ho
          refine ⟨ta, rfl, k7 _ _ (fun z => ?_) hta⟩
          rw [z, e6] at hta
          cases hta
        have hc' := k7 _ _ (nrk _ _ (s5 _ _ hc4)) hc6
        have lrs := prs.len
        rw [List.length_map, List.length_take] at lrs
        refine ⟨_, rfl, .inl ⟨rfl, _, SqL.of hrk⟩, _, rfl, cl, rfl, ⟨_, SqL.of hc'⟩, fun D2 G1 n1' u1 f1 => ?_⟩
        refine lc_listR (K := K) (a := cl) (xs := List.map V.int cs) (D := D2) (k := 3) (fun j G => Same H' G ∧ G D2 = some (.lst (List.map V.int ((cs.take j).map (rkC pg nw ts[i]))))) ⟨u1, f1⟩ (fun j G hp => SqL.of (hp.1 _ _ hc')) (fun j z G hz hp => ?_) (fun G hp => ?_)
        · obtain ⟨sg, eg⟩ := hp
          have hj : j < cs.length := by
            have := (List.getElem?_eq_some_iff.mp hz).1
            rwa [List.length_map] at this
          obtain rfl : V.int cs[j] = z := by
            rw [List.getElem?_map, List.getElem?_eq_getElem hj] at hz
            exact Option.some.inj hz
          refine ⟨_, rfl, _, rfl, _, rfl, _, rfl, cs[j], v, ts[i], pg, nw, rfl, ho'.same sg, ok1 _ (List.getElem_mem hi), p0, p1, n1, fun G2 s2' => ⟨_, s2' _ _ eg, by rw [List.length_map, List.length_map, List.length_take, sizeLine_eq]; omega, fun b o e => by rw [upd_ne (ne_of_none e n1')]; exact s2' _ _ (sg _ _ e), ?_⟩⟩
          rw [List.take_add_one, List.getElem?_eq_getElem hj, List.map_append, List.map_append]
          exact upd_same
        · obtain ⟨sg, eg⟩ := hp
          rw [List.length_map, List.take_length] at eg
          have dr : D2 ≠ rk := fun z => by rw [z, hrk] at n1'; cases n1'
          have dD : D2 ≠ D := fun z => by rw [z, k7 _ _ rD.symm hD6] at n1'; cases n1'
          refine ⟨rk, rs, .ref D2, rfl, rfl, sg _ _ hrk, by rw [lrs, sizeLine_eq]; omega, ?_⟩
          refine ⟨_, rs ++ [.ref D2], rfl, fun b o nb e => by rw [upd_ne nb]; exact sg _ _ (k7 _ _ nb e), upd_same, ?_⟩
          rw [List.take_add_one, List.getElem?_eq_getElem hi, List.map_append]
          refine L2.Paired.snoc (Paired.mapP prs fun w ms ⟨p, ew, q1, q2, q3⟩ => ⟨p, ew, q1, q2, by rw [upd_ne q1]; exact sg _ _ q3⟩) ⟨D2, rfl, dr, dD, by rw [upd_ne dr]; exact eg⟩
      obtain ⟨y8, rs, rfl, k7, hrk, prs⟩ := hp
      rw [hlen1, List.take_length] at prs
      have g5 : ∀ b o, H5 b = some o → H' b = some o := fun b o e => k7 _ _ (nrk _ _ e) (s6 _ _ e)
      have hD7 := g5 _ _ (s5 _ _ e4)
      have hl7 := g5 _ _ (s5 _ _ hl4)
      have hc7 := g5 _ _ (s5 _ _ hc4)
      have hx7 := g5 _ _ hx5
      have hq7 := g5 _ _ hq5
      have pv7 : Paired (MdV t H') vs cs := mds_un pv5 fun b o _ _ e => g5 b o e
      have ht7 : Tls H' us ts := (ht4.same s5).un fun b o _ _ e => g5 b o e
      have hS7 : SqL K H' a (ns.map V.int) := sql_kp (F := []) (s5.seq hS4) (by simp) fun b o _ e => g5 b o e
      refine ⟨_, rfl, D, _, rfl, .inl (SqL.of hD7), _, rfl, cl, _, rfl, .inl (SqL.of hc7), rfl, _, rfl, ?_⟩
      rw [dec_ii, decide_eq_true (by rw [List.length_map, ld])]
      refine iteF ?_
      have lD : ∀ b xs, H' b = some (.lst xs) → (∀ vs', xs = vs' → b = D → False) → b ≠ D := fun b xs e n z => n xs rfl z
      have l_D : l ≠ D := fun z => by
        have y := s2 _ _ hl1
        rw [z, nD] at y
        cases y
      have c_D : cl ≠ D := fun z => by rw [z, nD] at e2; cases e2
      generalize H' = H7 at *
      refine ⟨_, rfl, by decide, by decide, ?_⟩
      refine for_range (fun i σ' H' => ∃ y9 y10 y11 y12 y13 hv, σ' = [some (.ref a), some (.int pg), some (.int nw), some (.ref l), some (.ref cl), some (.ref D), some (.ref x), some (.ref rk), y8, y9, y10, y11, y12, y13] ∧ (∀ b o, b ≠ D → H7 b = some o → H' b = some o) ∧ H' D = some (.lst hv)) ⟨_, _, _, _, _, vs, rfl, fun b o _ e => e, hD7⟩ (fun i σ' H8 hi hp => ?_) (fun σ' H8 hp => ?_)
      · obtain ⟨y9, y10, y11, y12, y13, hv, rfl, k8, hD8⟩ := hp
        have u8 : UnK H7 H8 := fun b o n _ e => k8 b o (fun z => by rw [z, hD7] at e; exact n _ (Option.some.inj e).symm) e
        have hl8 := k8 _ _ l_D hl7
        have ht8 := ht7.un u8
        have hO8 : OrAt t H8 x cs := ⟨dx, ql, vs, u8 _ _ (by intro xs z; cases z) (by intro xs z; cases z) hx7, k8 _ _ qD hq7, mds_un pv7 u8⟩
        have hr8 := k8 _ _ rD hrk
        have prs8 : Paired (LstI K H8) rs (ts.map (rkL pg nw cs)) := Paired.mapP prs fun w ms ⟨p, ew, q1, q2, q3⟩ => ⟨p, ew, SqL.of (k8 _ _ q2 q3)⟩
        refine ⟨1, rfl, (by show 2 ≤ sizeLine; decide), fun t1 Ha na sa ha => ?_⟩
        refine ⟨1, rfl, (by show 2 ≤ sizeLine; decide), fun t2 Hb nb sb hb => ?_⟩
        refine ⟨(by show 2 ≤ sizeLine; decide), fun tl Hc nc sc hc => ?_⟩
        have g1 := sc _ _ (sb _ _ ha)
        have g2 := sc _ _ hb
        have s8c : Same H8 Hc := sa.trans (sb.trans sc)
        refine ⟨tl, rfl, ⟨_, SqL.of hc⟩, ?_⟩
        refine for_list (K := K) (xs := [.ref t1, .ref t2]) (fun i' σ' Hd => ∃ y10 y11 y12, σ' = [some (.ref a), some (.int pg), some (.int nw), some (.ref l), some (.ref cl), some (.ref D), some (.ref x), some (.ref rk), y8, some (.int (0 + (i : Int))), y10, y11, y12, y13] ∧ Same Hc Hd) ⟨_, _, _, rfl, Same.refl _⟩ (fun i' σ' Hd hi hp => ?_) (fun i' xx σ' Hd hx hp => ?_) (fun σ' Hd hp => ?_)
        · obtain ⟨y2, y3, y4, rfl, sd⟩ := hp
          exact SqL.of (sd _ _ hc)
        · obtain ⟨y2, y3, y4, rfl, sd⟩ := hp
          obtain ⟨ta, u, v, rfl, hta, hu', hv'⟩ : ∃ ta u v, xx = .ref ta ∧ Hc ta = some (.tup [.int u, .int v]) ∧ (u = 0 ∨ u = -1) ∧ (v = 0 ∨ v = -1) := by
            match i', hx with
            | 0, e => obtain rfl := Option.some.inj e; exact ⟨t1, _, _, rfl, g1, .inl rfl, .inr rfl⟩
            | 1, e => obtain rfl := Option.some.inj e; exact ⟨t2, _, _, rfl, g2, .inr rfl, .inl rfl⟩
            | _ + 2, e => exact absurd e (by simp)
          have s8d : Same H8 Hd := s8c.trans sd
          have htd := ht8.same s8d
          have hld := s8d _ _ hl8
          have hrd := s8d _ _ hr8
          have prd : Paired (LstI K Hd) rs (ts.map (rkL pg nw cs)) := Paired.mapP prs8 fun _ _ z => lsti_same s8d z
          obtain ⟨j1, hj1, x1, w1, a1, tx1, r1, lr1⟩ := two_end htd prd t0 hu'
          obtain ⟨j2, hj2, x2, w2, a2, tx2, r2, lr2⟩ := two_end htd prd t0 hv'
          have o1 := ok1 _ (List.getElem_mem hj1)
          have o2 := ok1 _ (List.getElem_mem hj2)
          have rud := hO8.same s8d
          obtain ⟨dx', l', rs', hins, _⟩ := id rud
          refine ⟨ta, _, rfl, SqT.of (sd _ _ hta), rfl, _, _, rfl, _, _, rfl, rfl, ?_⟩
          refine ⟨_, rfl, x, dx', _, rfl, hins, rfl, _, rfl, _, rfl, l, us, u, x1, rfl, rfl, SqL.of hld, a1, _, rfl, _, rfl, l, us, v, x2, rfl, rfl, SqL.of hld, a2, _, rfl, _, rfl, x, _, _, pg, nw, ts[j1], ts[j2], cs, rfl, rud, tx1, tx2, o1, o2, p0, p1, ?_⟩
          refine ⟨_, rfl, .bl _, _, _, .type "bool", _, rfl, rfl, .inl (.bl _), kit_bB, _, rfl, iteF ?_⟩
          refine ⟨_, rfl, _, rfl, _, rfl, rk, _, u, _, rfl, rfl, SqL.of hrd, r1, _, rfl, _, rfl, rk, _, v, _, rfl, rfl, SqL.of hrd, r2, _, _, lr1, lr2, by simp [rkL], rfl, _, rfl, ?_⟩
          rw [dec_bb, decide_eq_true rfl]
          exact iteF ⟨_, _, _, rfl, sd⟩
        · obtain ⟨y2, y3, y4, rfl, sd⟩ := hp
          have s8d : Same H8 Hd := s8c.trans sd
          refine ⟨_, rfl, l, us, rfl, .inl (SqL.of (s8d _ _ hl8)), fun hd He ne se he => ?_⟩
          have s8e := s8d.trans se
          have hte := ht8.same s8e
          have hOe := hO8.same s8e
          obtain ⟨dx', l', rs', hins, _⟩ := id hOe
          refine ⟨_, rfl, x, dx', _, rfl, hins, rfl, _, rfl, _, rfl, _, rfl, x, hd, pg, nw, us, ts, _, rfl, ⟨cs, p0, n1, .inl ⟨hOe, rfl⟩⟩, SqL.of he, hte, ok1, p1, ne1, ?_⟩
          refine ⟨_, rfl, _, rfl, .int _, _, rfl, iteF ?_⟩
          refine ⟨_, rfl, _, rfl, _, rfl, l, us, ts, rk, rs, pg, nw, cs, rfl, SqL.of (s8e _ _ hl8), hte, SqL.of (s8e _ _ hr8), Paired.mapP prs8 fun _ _ z => lsti_same s8e z, ok1, p0, p1, n1, ne1, fun Hf sf => ?_⟩
          refine ⟨rfl, _, rfl, ?_⟩
          rw [dec_ii, decide_eq_true rfl]
          refine iteF ?_
          have s8f := s8e.trans sf
          refine ⟨_, rfl, _, rfl, eqv_tls (SqL.of (sf _ _ he)) (SqL.of (s8f _ _ hl8)) (hte.same sf), _, rfl, iteF ?_⟩
          refine ⟨_, rfl, .inl ⟨rfl, _, SqL.of (s8f _ _ hD8)⟩, D, hv, rfl, rfl, s8f _ _ hD8, ?_⟩
          exact ⟨_, _, _, _, _, [], rfl, fun b o nb e => by rw [upd_ne nb]; exact s8f _ _ (k8 _ _ nb e), upd_same⟩
      obtain ⟨y9, y10, y11, y12, y13, hv, rfl, k8, hD8⟩ := hp
      have u8 : UnK H7 H8 := fun b o n _ e => k8 b o (fun z => by rw [z, hD7] at e; exact n _ (Option.some.inj e).symm) e
      have hO8 : OrAt t H8 x cs := ⟨dx, ql, vs, u8 _ _ (by intro xs z; cases z) (by intro xs z; cases z) hx7, k8 _ _ qD hq7, mds_un pv7 u8⟩
      have hr8 := k8 _ _ rD hrk
      have prs8 : Paired (LstI K H8) rs (ts.map (rkL pg nw cs)) := Paired.mapP prs fun w ms ⟨p, ew, q1, q2, q3⟩ => ⟨p, ew, SqL.of (k8 _ _ q2 q3)⟩
      refine ⟨_, rfl, _, rfl, _, rfl, _, rfl, _, rfl, x, l, us, ts, rk, rs, pg, nw, cs, rfl, hO8, k8 _ _ l_D hl7, ht7.un u8, SqL.of hr8, prs8, ok1, p0, p1, n1, ne1, ln1, fun H9 s9 => ⟨_, rfl, iteF ?_⟩⟩
      refine ⟨0, rfl, .inl rfl, fun H10 s10 => ⟨_, rfl, iteT ?_⟩⟩
      have h2rk : H2 rk = none := by
        cases z : H2 rk with
        | none => rfl
        | some o =>
          by_cases y : rk = t.T_law_base
          · obtain ⟨ps, hT4, _⟩ := tb4
            have := s5 _ _ hT4
            rw [← y, n6] at this
            cases this
          · have := s5 _ _ (k4 _ _ y z)
            rw [n6] at this
            cases this
      have hS8 : SqL K H8 a (ns.map V.int) := by
        refine sql_kp (F := [t.T_law_base, D, rk]) (s2.seq (sm1.seq hS)) (fun b hb => ?_) (fun b o nb e => ?_)
        · simp only [List.mem_cons, List.not_mem_nil, or_false] at hb
          rcases hb with rfl | rfl | rfl
          · exact .inr ⟨_, hT2⟩
          · exact .inl nD
          · exact .inl h2rk
        · simp only [List.mem_cons, List.not_mem_nil, or_false, not_or] at nb
          exact k8 _ _ nb.2.1 (g5 _ _ (s5 _ _ (k4 _ _ nb.1 e)))
      have z4 := mod_in (cellAt ns 18 / 8) 4 (by decide)
      refine ⟨_, rfl, a, ns, 18, rfl, (s9.trans s10).seq hS8, by decide, _, _, rfl, rfl, ⟨by decide, by decide⟩, _, _, rfl, rfl, (by show (0 : Int) < 4; decide), _, _, rfl, rfl, ?_⟩
      exact ⟨_, rfl, .inr ⟨by omega, by omega⟩, fun H11 _ => k H11⟩
end
end W1

namespace W1
open PySem L2
set_option maxHeartbeats 0 in
theorem all_mk {l : PySem.W.OpenLaw} {w : World} {K : PySem.W.Frag} {h : Heap} {mg : Str → Option Value} {fa cA_law_base tA_law_base f_is_whole f_is_within f_is_unbeaten f_first_unbeaten f_by_age f_Rule_goes_ahead f_Rule_choose f_Fewest_goes_ahead f_Eldest_goes_ahead f_Worth_goes_ahead f_Weighed_init f_Weighed_goes_ahead f_Turned_init f_Turned_goes_ahead f_Order_init f_Order_goes_ahead f_Window_init f_Window_choose f_Follow_init f_Follow_choose f_law_cell_at f_law_whole f_law_now f_law_tallies f_law_first f_law_base f_law_made f_law_rank f_law_cells f_law_turned_good f_law_refused f_law C_Rule C_Fewest C_Eldest C_Worth C_Weighed C_Turned C_Order C_Window C_Follow C_WornError C_NoRule C_NoRace : Addr} (X : K.In h) (G : h.Ns mainGlobals mg) (hfa : mg "law" = some (.ref fa))
    {od_is_whole an_is_whole od_is_within an_is_within od_is_unbeaten an_is_unbeaten od_first_unbeaten an_first_unbeaten od_by_age an_by_age od_Rule_goes_ahead an_Rule_goes_ahead od_Rule_choose an_Rule_choose od_Fewest_goes_ahead an_Fewest_goes_ahead od_Eldest_goes_ahead an_Eldest_goes_ahead od_Worth_goes_ahead an_Worth_goes_ahead od_Weighed_init an_Weighed_init od_Weighed_goes_ahead an_Weighed_goes_ahead od_Turned_init an_Turned_init od_Turned_goes_ahead an_Turned_goes_ahead od_Order_init an_Order_init od_Order_goes_ahead an_Order_goes_ahead od_Window_init an_Window_init od_Window_choose an_Window_choose od_Follow_init an_Follow_init od_Follow_choose an_Follow_choose od_law_cell_at an_law_cell_at od_law_whole an_law_whole od_law_now an_law_now od_law_tallies an_law_tallies od_law_first an_law_first od_law_base an_law_base od_law_made an_law_made od_law_rank an_law_rank od_law_cells an_law_cells od_law_turned_good an_law_turned_good od_law_refused an_law_refused od_law an_law : Option Addr} {sl_is_whole sl_is_within sl_is_unbeaten sl_first_unbeaten sl_by_age sl_Rule_goes_ahead sl_Rule_choose sl_Fewest_goes_ahead sl_Eldest_goes_ahead sl_Worth_goes_ahead sl_Weighed_init sl_Weighed_goes_ahead sl_Turned_init sl_Turned_goes_ahead sl_Order_init sl_Order_goes_ahead sl_Window_init sl_Window_choose sl_Follow_init sl_Follow_choose sl_law_cell_at sl_law_whole sl_law_now sl_law_tallies sl_law_first sl_law_base sl_law_made sl_law_rank sl_law_cells sl_law_turned_good sl_law_refused sl_law : Array (Option Value)} {oc_is_whole kV_is_whole dc_is_whole pm_is_whole cd_is_whole ct_is_whole oc_is_within kV_is_within dc_is_within pm_is_within cd_is_within ct_is_within oc_is_unbeaten kV_is_unbeaten dc_is_unbeaten pm_is_unbeaten cd_is_unbeaten ct_is_unbeaten oc_first_unbeaten kV_first_unbeaten dc_first_unbeaten pm_first_unbeaten cd_first_unbeaten ct_first_unbeaten oc_by_age kV_by_age dc_by_age pm_by_age cd_by_age ct_by_age oc_Rule_goes_ahead kV_Rule_goes_ahead dc_Rule_goes_ahead pm_Rule_goes_ahead cd_Rule_goes_ahead ct_Rule_goes_ahead oc_Rule_choose kV_Rule_choose dc_Rule_choose pm_Rule_choose cd_Rule_choose ct_Rule_choose oc_Fewest_goes_ahead kV_Fewest_goes_ahead dc_Fewest_goes_ahead pm_Fewest_goes_ahead cd_Fewest_goes_ahead ct_Fewest_goes_ahead oc_Eldest_goes_ahead kV_Eldest_goes_ahead dc_Eldest_goes_ahead pm_Eldest_goes_ahead cd_Eldest_goes_ahead ct_Eldest_goes_ahead oc_Worth_goes_ahead kV_Worth_goes_ahead dc_Worth_goes_ahead pm_Worth_goes_ahead cd_Worth_goes_ahead ct_Worth_goes_ahead oc_Weighed_init kV_Weighed_init dc_Weighed_init pm_Weighed_init cd_Weighed_init ct_Weighed_init oc_Weighed_goes_ahead kV_Weighed_goes_ahead dc_Weighed_goes_ahead pm_Weighed_goes_ahead cd_Weighed_goes_ahead ct_Weighed_goes_ahead oc_Turned_init kV_Turned_init dc_Turned_init pm_Turned_init cd_Turned_init ct_Turned_init oc_Turned_goes_ahead kV_Turned_goes_ahead dc_Turned_goes_ahead pm_Turned_goes_ahead cd_Turned_goes_ahead ct_Turned_goes_ahead oc_Order_init kV_Order_init dc_Order_init pm_Order_init cd_Order_init ct_Order_init oc_Order_goes_ahead kV_Order_goes_ahead dc_Order_goes_ahead pm_Order_goes_ahead cd_Order_goes_ahead ct_Order_goes_ahead oc_Window_init kV_Window_init dc_Window_init pm_Window_init cd_Window_init ct_Window_init oc_Window_choose kV_Window_choose dc_Window_choose pm_Window_choose cd_Window_choose ct_Window_choose oc_Follow_init kV_Follow_init dc_Follow_init pm_Follow_init cd_Follow_init ct_Follow_init oc_Follow_choose kV_Follow_choose dc_Follow_choose pm_Follow_choose cd_Follow_choose ct_Follow_choose oc_law_cell_at kV_law_cell_at dc_law_cell_at pm_law_cell_at cd_law_cell_at ct_law_cell_at oc_law_whole kV_law_whole dc_law_whole pm_law_whole cd_law_whole ct_law_whole oc_law_now kV_law_now dc_law_now pm_law_now cd_law_now ct_law_now oc_law_tallies kV_law_tallies dc_law_tallies pm_law_tallies cd_law_tallies ct_law_tallies oc_law_first kV_law_first dc_law_first pm_law_first cd_law_first ct_law_first oc_law_base kV_law_base dc_law_base pm_law_base ct_law_base oc_law_made kV_law_made dc_law_made pm_law_made cd_law_made ct_law_made oc_law_rank kV_law_rank dc_law_rank pm_law_rank cd_law_rank ct_law_rank oc_law_cells kV_law_cells dc_law_cells pm_law_cells cd_law_cells ct_law_cells oc_law_turned_good kV_law_turned_good dc_law_turned_good pm_law_turned_good cd_law_turned_good ct_law_turned_good oc_law_refused kV_law_refused dc_law_refused pm_law_refused cd_law_refused ct_law_refused oc_law kV_law dc_law pm_law cd_law ct_law : Value}
    (aC_Rule : PySem.W.nsIn K mainGlobals "Rule" = some (some (.ref C_Rule)))
    (pg_Rule : PySem.W.plainGet K C_Rule Str.empty = true)
    (hd_Rule : PySem.W.hasDictIn K C_Rule = true)
    (po_Rule : PySem.W.plainOver K C_Rule = true)
    (sa_Rule : PySem.W.findIn K (.ref C_Rule) "__setattr__" = some (some (.builtin "object.__setattr__")))
    (kc_Rule : PySem.W.keepIn K (.ref C_Rule) = true)
    (n_Rule_weigh : PySem.W.findIn K (.ref C_Rule) "weigh" = some none)
    (n_Rule_inner : PySem.W.findIn K (.ref C_Rule) "inner" = some none)
    (n_Rule_rules : PySem.W.findIn K (.ref C_Rule) "rules" = some none)
    (n_Rule_many : PySem.W.findIn K (.ref C_Rule) "many" = some none)
    (n_Rule_row : PySem.W.findIn K (.ref C_Rule) "row" = some none)
    (n_Rule_used : PySem.W.findIn K (.ref C_Rule) "used" = some none)
    (a_Rule_goes_ahead : PySem.W.findIn K (.ref C_Rule) "goes_ahead" = some (some (.ref f_Rule_goes_ahead)))
    (i_Rule_goes_ahead : PySem.W.isFn K (.ref f_Rule_goes_ahead) = true)
    (k_Rule_goes_ahead : PySem.W.keepIn K (.ref f_Rule_goes_ahead) = true)
    (a_Rule_choose : PySem.W.findIn K (.ref C_Rule) "choose" = some (some (.ref f_Rule_choose)))
    (i_Rule_choose : PySem.W.isFn K (.ref f_Rule_choose) = true)
    (k_Rule_choose : PySem.W.keepIn K (.ref f_Rule_choose) = true)
    (mk_Rule : PySem.W.makesIn K C_Rule = true)
    (oi_Rule : PySem.W.findIn K (.ref C_Rule) "__init__" = some (some (.builtin "object.__init__")))
    (aC_Fewest : PySem.W.nsIn K mainGlobals "Fewest" = some (some (.ref C_Fewest)))
    (pg_Fewest : PySem.W.plainGet K C_Fewest Str.empty = true)
    (hd_Fewest : PySem.W.hasDictIn K C_Fewest = true)
    (po_Fewest : PySem.W.plainOver K C_Fewest = true)
    (sa_Fewest : PySem.W.findIn K (.ref C_Fewest) "__setattr__" = some (some (.builtin "object.__setattr__")))
    (kc_Fewest : PySem.W.keepIn K (.ref C_Fewest) = true)
    (n_Fewest_many : PySem.W.findIn K (.ref C_Fewest) "many" = some none)
    (a_Fewest_goes_ahead : PySem.W.findIn K (.ref C_Fewest) "goes_ahead" = some (some (.ref f_Fewest_goes_ahead)))
    (i_Fewest_goes_ahead : PySem.W.isFn K (.ref f_Fewest_goes_ahead) = true)
    (k_Fewest_goes_ahead : PySem.W.keepIn K (.ref f_Fewest_goes_ahead) = true)
    (a_Fewest_choose : PySem.W.findIn K (.ref C_Fewest) "choose" = some (some (.ref f_Rule_choose)))
    (mk_Fewest : PySem.W.makesIn K C_Fewest = true)
    (oi_Fewest : PySem.W.findIn K (.ref C_Fewest) "__init__" = some (some (.builtin "object.__init__")))
    (aC_Eldest : PySem.W.nsIn K mainGlobals "Eldest" = some (some (.ref C_Eldest)))
    (pg_Eldest : PySem.W.plainGet K C_Eldest Str.empty = true)
    (hd_Eldest : PySem.W.hasDictIn K C_Eldest = true)
    (po_Eldest : PySem.W.plainOver K C_Eldest = true)
    (sa_Eldest : PySem.W.findIn K (.ref C_Eldest) "__setattr__" = some (some (.builtin "object.__setattr__")))
    (kc_Eldest : PySem.W.keepIn K (.ref C_Eldest) = true)
    (a_Eldest_goes_ahead : PySem.W.findIn K (.ref C_Eldest) "goes_ahead" = some (some (.ref f_Eldest_goes_ahead)))
    (i_Eldest_goes_ahead : PySem.W.isFn K (.ref f_Eldest_goes_ahead) = true)
    (k_Eldest_goes_ahead : PySem.W.keepIn K (.ref f_Eldest_goes_ahead) = true)
    (a_Eldest_choose : PySem.W.findIn K (.ref C_Eldest) "choose" = some (some (.ref f_Rule_choose)))
    (mk_Eldest : PySem.W.makesIn K C_Eldest = true)
    (oi_Eldest : PySem.W.findIn K (.ref C_Eldest) "__init__" = some (some (.builtin "object.__init__")))
    (aC_Worth : PySem.W.nsIn K mainGlobals "Worth" = some (some (.ref C_Worth)))
    (pg_Worth : PySem.W.plainGet K C_Worth Str.empty = true)
    (hd_Worth : PySem.W.hasDictIn K C_Worth = true)
    (po_Worth : PySem.W.plainOver K C_Worth = true)
    (sa_Worth : PySem.W.findIn K (.ref C_Worth) "__setattr__" = some (some (.builtin "object.__setattr__")))
    (kc_Worth : PySem.W.keepIn K (.ref C_Worth) = true)
    (a_Worth_goes_ahead : PySem.W.findIn K (.ref C_Worth) "goes_ahead" = some (some (.ref f_Worth_goes_ahead)))
    (i_Worth_goes_ahead : PySem.W.isFn K (.ref f_Worth_goes_ahead) = true)
    (k_Worth_goes_ahead : PySem.W.keepIn K (.ref f_Worth_goes_ahead) = true)
    (a_Worth_choose : PySem.W.findIn K (.ref C_Worth) "choose" = some (some (.ref f_Rule_choose)))
    (mk_Worth : PySem.W.makesIn K C_Worth = true)
    (oi_Worth : PySem.W.findIn K (.ref C_Worth) "__init__" = some (some (.builtin "object.__init__")))
    (aC_Weighed : PySem.W.nsIn K mainGlobals "Weighed" = some (some (.ref C_Weighed)))
    (pg_Weighed : PySem.W.plainGet K C_Weighed Str.empty = true)
    (hd_Weighed : PySem.W.hasDictIn K C_Weighed = true)
    (po_Weighed : PySem.W.plainOver K C_Weighed = true)
    (sa_Weighed : PySem.W.findIn K (.ref C_Weighed) "__setattr__" = some (some (.builtin "object.__setattr__")))
    (kc_Weighed : PySem.W.keepIn K (.ref C_Weighed) = true)
    (n_Weighed_weigh : PySem.W.findIn K (.ref C_Weighed) "weigh" = some none)
    (a_Weighed_init : PySem.W.findIn K (.ref C_Weighed) "__init__" = some (some (.ref f_Weighed_init)))
    (i_Weighed_init : PySem.W.isFn K (.ref f_Weighed_init) = true)
    (k_Weighed_init : PySem.W.keepIn K (.ref f_Weighed_init) = true)
    (a_Weighed_goes_ahead : PySem.W.findIn K (.ref C_Weighed) "goes_ahead" = some (some (.ref f_Weighed_goes_ahead)))
    (i_Weighed_goes_ahead : PySem.W.isFn K (.ref f_Weighed_goes_ahead) = true)
    (k_Weighed_goes_ahead : PySem.W.keepIn K (.ref f_Weighed_goes_ahead) = true)
    (a_Weighed_choose : PySem.W.findIn K (.ref C_Weighed) "choose" = some (some (.ref f_Rule_choose)))
    (mk_Weighed : PySem.W.makesIn K C_Weighed = true)
    (aC_Turned : PySem.W.nsIn K mainGlobals "Turned" = some (some (.ref C_Turned)))
    (pg_Turned : PySem.W.plainGet K C_Turned Str.empty = true)
    (hd_Turned : PySem.W.hasDictIn K C_Turned = true)
    (po_Turned : PySem.W.plainOver K C_Turned = true)
    (sa_Turned : PySem.W.findIn K (.ref C_Turned) "__setattr__" = some (some (.builtin "object.__setattr__")))
    (kc_Turned : PySem.W.keepIn K (.ref C_Turned) = true)
    (n_Turned_inner : PySem.W.findIn K (.ref C_Turned) "inner" = some none)
    (a_Turned_init : PySem.W.findIn K (.ref C_Turned) "__init__" = some (some (.ref f_Turned_init)))
    (i_Turned_init : PySem.W.isFn K (.ref f_Turned_init) = true)
    (k_Turned_init : PySem.W.keepIn K (.ref f_Turned_init) = true)
    (a_Turned_goes_ahead : PySem.W.findIn K (.ref C_Turned) "goes_ahead" = some (some (.ref f_Turned_goes_ahead)))
    (i_Turned_goes_ahead : PySem.W.isFn K (.ref f_Turned_goes_ahead) = true)
    (k_Turned_goes_ahead : PySem.W.keepIn K (.ref f_Turned_goes_ahead) = true)
    (a_Turned_choose : PySem.W.findIn K (.ref C_Turned) "choose" = some (some (.ref f_Rule_choose)))
    (mk_Turned : PySem.W.makesIn K C_Turned = true)
    (aC_Order : PySem.W.nsIn K mainGlobals "Order" = some (some (.ref C_Order)))
    (pg_Order : PySem.W.plainGet K C_Order Str.empty = true)
    (hd_Order : PySem.W.hasDictIn K C_Order = true)
    (po_Order : PySem.W.plainOver K C_Order = true)
    (sa_Order : PySem.W.findIn K (.ref C_Order) "__setattr__" = some (some (.builtin "object.__setattr__")))
    (kc_Order : PySem.W.keepIn K (.ref C_Order) = true)
    (n_Order_rules : PySem.W.findIn K (.ref C_Order) "rules" = some none)
    (a_Order_init : PySem.W.findIn K (.ref C_Order) "__init__" = some (some (.ref f_Order_init)))
    (i_Order_init : PySem.W.isFn K (.ref f_Order_init) = true)
    (k_Order_init : PySem.W.keepIn K (.ref f_Order_init) = true)
    (a_Order_goes_ahead : PySem.W.findIn K (.ref C_Order) "goes_ahead" = some (some (.ref f_Order_goes_ahead)))
    (i_Order_goes_ahead : PySem.W.isFn K (.ref f_Order_goes_ahead) = true)
    (k_Order_goes_ahead : PySem.W.keepIn K (.ref f_Order_goes_ahead) = true)
    (a_Order_choose : PySem.W.findIn K (.ref C_Order) "choose" = some (some (.ref f_Rule_choose)))
    (mk_Order : PySem.W.makesIn K C_Order = true)
    (aC_Window : PySem.W.nsIn K mainGlobals "Window" = some (some (.ref C_Window)))
    (pg_Window : PySem.W.plainGet K C_Window Str.empty = true)
    (hd_Window : PySem.W.hasDictIn K C_Window = true)
    (po_Window : PySem.W.plainOver K C_Window = true)
    (sa_Window : PySem.W.findIn K (.ref C_Window) "__setattr__" = some (some (.builtin "object.__setattr__")))
    (kc_Window : PySem.W.keepIn K (.ref C_Window) = true)
    (n_Window_many : PySem.W.findIn K (.ref C_Window) "many" = some none)
    (a_Window_init : PySem.W.findIn K (.ref C_Window) "__init__" = some (some (.ref f_Window_init)))
    (i_Window_init : PySem.W.isFn K (.ref f_Window_init) = true)
    (k_Window_init : PySem.W.keepIn K (.ref f_Window_init) = true)
    (a_Window_choose : PySem.W.findIn K (.ref C_Window) "choose" = some (some (.ref f_Window_choose)))
    (i_Window_choose : PySem.W.isFn K (.ref f_Window_choose) = true)
    (k_Window_choose : PySem.W.keepIn K (.ref f_Window_choose) = true)
    (a_Window_goes_ahead : PySem.W.findIn K (.ref C_Window) "goes_ahead" = some (some (.ref f_Fewest_goes_ahead)))
    (mk_Window : PySem.W.makesIn K C_Window = true)
    (aC_Follow : PySem.W.nsIn K mainGlobals "Follow" = some (some (.ref C_Follow)))
    (pg_Follow : PySem.W.plainGet K C_Follow Str.empty = true)
    (hd_Follow : PySem.W.hasDictIn K C_Follow = true)
    (po_Follow : PySem.W.plainOver K C_Follow = true)
    (sa_Follow : PySem.W.findIn K (.ref C_Follow) "__setattr__" = some (some (.builtin "object.__setattr__")))
    (kc_Follow : PySem.W.keepIn K (.ref C_Follow) = true)
    (n_Follow_row : PySem.W.findIn K (.ref C_Follow) "row" = some none)
    (n_Follow_used : PySem.W.findIn K (.ref C_Follow) "used" = some none)
    (a_Follow_init : PySem.W.findIn K (.ref C_Follow) "__init__" = some (some (.ref f_Follow_init)))
    (i_Follow_init : PySem.W.isFn K (.ref f_Follow_init) = true)
    (k_Follow_init : PySem.W.keepIn K (.ref f_Follow_init) = true)
    (a_Follow_choose : PySem.W.findIn K (.ref C_Follow) "choose" = some (some (.ref f_Follow_choose)))
    (i_Follow_choose : PySem.W.isFn K (.ref f_Follow_choose) = true)
    (k_Follow_choose : PySem.W.keepIn K (.ref f_Follow_choose) = true)
    (a_Follow_goes_ahead : PySem.W.findIn K (.ref C_Follow) "goes_ahead" = some (some (.ref f_Rule_goes_ahead)))
    (mk_Follow : PySem.W.makesIn K C_Follow = true)
    (aC_WornError : PySem.W.nsIn K mainGlobals "WornError" = some (some (.ref C_WornError)))
    (kc_WornError : PySem.W.keepIn K (.ref C_WornError) = true)
    (rga_WornError : PySem.W.findIn K (.ref C_WornError) "__getattribute__" = some (some (.builtin "BaseException.__getattribute__")))
    (rgn_WornError : PySem.W.findIn K (.ref C_WornError) "__getattr__" = some none)
    (rmb_WornError : PySem.W.mroIn K C_WornError (.type "BaseException") = some true)
    (rhd_WornError : PySem.W.hasDictIn K C_WornError = true)
    (rcl_WornError : PySem.W.findIn K (.ref C_WornError) "__class__" = some (some (.builtin "object.__class__")))
    (rcg_WornError : PySem.W.specialIn K (.builtin "object.__class__") "__get__" = some (some (.builtin "getset_descriptor.__get__")))
    (rct_WornError : PySem.W.takesIn K (.builtin "object.__class__") = some true)
    (rmo_WornError : PySem.W.mroIn K C_WornError (.type "object") = some true)
    (x_WornError : PySem.W.excIn K C_WornError bmVE "ValueError.__new__" = true)
    (aC_NoRule : PySem.W.nsIn K mainGlobals "NoRule" = some (some (.ref C_NoRule)))
    (kc_NoRule : PySem.W.keepIn K (.ref C_NoRule) = true)
    (rga_NoRule : PySem.W.findIn K (.ref C_NoRule) "__getattribute__" = some (some (.builtin "BaseException.__getattribute__")))
    (rgn_NoRule : PySem.W.findIn K (.ref C_NoRule) "__getattr__" = some none)
    (rmb_NoRule : PySem.W.mroIn K C_NoRule (.type "BaseException") = some true)
    (rhd_NoRule : PySem.W.hasDictIn K C_NoRule = true)
    (rcl_NoRule : PySem.W.findIn K (.ref C_NoRule) "__class__" = some (some (.builtin "object.__class__")))
    (rcg_NoRule : PySem.W.specialIn K (.builtin "object.__class__") "__get__" = some (some (.builtin "getset_descriptor.__get__")))
    (rct_NoRule : PySem.W.takesIn K (.builtin "object.__class__") = some true)
    (rmo_NoRule : PySem.W.mroIn K C_NoRule (.type "object") = some true)
    (x_NoRule : PySem.W.excIn K C_NoRule bmVE "ValueError.__new__" = true)
    (aC_NoRace : PySem.W.nsIn K mainGlobals "NoRace" = some (some (.ref C_NoRace)))
    (kc_NoRace : PySem.W.keepIn K (.ref C_NoRace) = true)
    (rga_NoRace : PySem.W.findIn K (.ref C_NoRace) "__getattribute__" = some (some (.builtin "BaseException.__getattribute__")))
    (rgn_NoRace : PySem.W.findIn K (.ref C_NoRace) "__getattr__" = some none)
    (rmb_NoRace : PySem.W.mroIn K C_NoRace (.type "BaseException") = some true)
    (rhd_NoRace : PySem.W.hasDictIn K C_NoRace = true)
    (rcl_NoRace : PySem.W.findIn K (.ref C_NoRace) "__class__" = some (some (.builtin "object.__class__")))
    (rcg_NoRace : PySem.W.specialIn K (.builtin "object.__class__") "__get__" = some (some (.builtin "getset_descriptor.__get__")))
    (rct_NoRace : PySem.W.takesIn K (.builtin "object.__class__") = some true)
    (rmo_NoRace : PySem.W.mroIn K C_NoRace (.type "object") = some true)
    (x_NoRace : PySem.W.excIn K C_NoRace bmVE "ValueError.__new__" = true)
    (xm_WornError_WornError : PySem.W.exmOne K (.ref C_WornError) (.ref C_WornError) = some true)
    (xm_NoRule_WornError : PySem.W.exmOne K (.ref C_NoRule) (.ref C_WornError) = some true)
    (xm_NoRace_WornError : PySem.W.exmOne K (.ref C_NoRace) (.ref C_WornError) = some true)
    (xk_WornError_NoRace : PySem.W.kitOne K (.ref C_WornError) (.ref C_NoRace) = some false)
    (xk_WornError_NoRule : PySem.W.kitOne K (.ref C_WornError) (.ref C_NoRule) = some false)
    (xk_WornError_ValueError : PySem.W.kitOne K (.ref C_WornError) (.type "ValueError") = some true)
    (xk_NoRule_NoRace : PySem.W.kitOne K (.ref C_NoRule) (.ref C_NoRace) = some false)
    (xk_NoRule_NoRule : PySem.W.kitOne K (.ref C_NoRule) (.ref C_NoRule) = some true)
    (xk_NoRule_ValueError : PySem.W.kitOne K (.ref C_NoRule) (.type "ValueError") = some true)
    (xk_NoRace_NoRace : PySem.W.kitOne K (.ref C_NoRace) (.ref C_NoRace) = some true)
    (xk_NoRace_NoRule : PySem.W.kitOne K (.ref C_NoRace) (.ref C_NoRule) = some false)
    (xk_NoRace_ValueError : PySem.W.kitOne K (.ref C_NoRace) (.type "ValueError") = some true)
    (cdh_law_base : PySem.W.codeHdIn K cA_law_base tA_law_base = true)
    (a_is_whole : PySem.W.nsIn K mainGlobals "is_whole" = some (some (.ref f_is_whole)))
    (k_is_whole : PySem.W.keepIn K (.ref f_is_whole) = true)
    (a_is_within : PySem.W.nsIn K mainGlobals "is_within" = some (some (.ref f_is_within)))
    (k_is_within : PySem.W.keepIn K (.ref f_is_within) = true)
    (a_is_unbeaten : PySem.W.nsIn K mainGlobals "is_unbeaten" = some (some (.ref f_is_unbeaten)))
    (k_is_unbeaten : PySem.W.keepIn K (.ref f_is_unbeaten) = true)
    (a_first_unbeaten : PySem.W.nsIn K mainGlobals "first_unbeaten" = some (some (.ref f_first_unbeaten)))
    (k_first_unbeaten : PySem.W.keepIn K (.ref f_first_unbeaten) = true)
    (a_by_age : PySem.W.nsIn K mainGlobals "by_age" = some (some (.ref f_by_age)))
    (k_by_age : PySem.W.keepIn K (.ref f_by_age) = true)
    (a_law_cell_at : PySem.W.nsIn K mainGlobals "_law_cell_at" = some (some (.ref f_law_cell_at)))
    (k_law_cell_at : PySem.W.keepIn K (.ref f_law_cell_at) = true)
    (a_law_whole : PySem.W.nsIn K mainGlobals "_law_whole" = some (some (.ref f_law_whole)))
    (k_law_whole : PySem.W.keepIn K (.ref f_law_whole) = true)
    (a_law_now : PySem.W.nsIn K mainGlobals "_law_now" = some (some (.ref f_law_now)))
    (k_law_now : PySem.W.keepIn K (.ref f_law_now) = true)
    (a_law_tallies : PySem.W.nsIn K mainGlobals "_law_tallies" = some (some (.ref f_law_tallies)))
    (k_law_tallies : PySem.W.keepIn K (.ref f_law_tallies) = true)
    (a_law_first : PySem.W.nsIn K mainGlobals "_law_first" = some (some (.ref f_law_first)))
    (k_law_first : PySem.W.keepIn K (.ref f_law_first) = true)
    (a_law_base : PySem.W.nsIn K mainGlobals "_law_base" = some (some (.ref f_law_base)))
    (k_law_base : PySem.W.keepIn K (.ref f_law_base) = true)
    (a_law_made : PySem.W.nsIn K mainGlobals "_law_made" = some (some (.ref f_law_made)))
    (k_law_made : PySem.W.keepIn K (.ref f_law_made) = true)
    (a_law_rank : PySem.W.nsIn K mainGlobals "_law_rank" = some (some (.ref f_law_rank)))
    (k_law_rank : PySem.W.keepIn K (.ref f_law_rank) = true)
    (a_law_cells : PySem.W.nsIn K mainGlobals "_law_cells" = some (some (.ref f_law_cells)))
    (k_law_cells : PySem.W.keepIn K (.ref f_law_cells) = true)
    (a_law_turned_good : PySem.W.nsIn K mainGlobals "_law_turned_good" = some (some (.ref f_law_turned_good)))
    (k_law_turned_good : PySem.W.keepIn K (.ref f_law_turned_good) = true)
    (a_law_refused : PySem.W.nsIn K mainGlobals "_law_refused" = some (some (.ref f_law_refused)))
    (k_law_refused : PySem.W.keepIn K (.ref f_law_refused) = true)
    (z_ValueError : PySem.W.nsIn K mainGlobals "ValueError" = some none)
    (z_bool : PySem.W.nsIn K mainGlobals "bool" = some none)
    (z_int : PySem.W.nsIn K mainGlobals "int" = some none)
    (z_isinstance : PySem.W.nsIn K mainGlobals "isinstance" = some none)
    (z_len : PySem.W.nsIn K mainGlobals "len" = some none)
    (z_list : PySem.W.nsIn K mainGlobals "list" = some none)
    (z_max : PySem.W.nsIn K mainGlobals "max" = some none)
    (z_min : PySem.W.nsIn K mainGlobals "min" = some none)
    (z_range : PySem.W.nsIn K mainGlobals "range" = some none)
    (z_sorted : PySem.W.nsIn K mainGlobals "sorted" = some none)
    (z_zip : PySem.W.nsIn K mainGlobals "zip" = some none)
    (l_is_whole : K.lookup f_is_whole = some ⟨oc_is_whole, od_is_whole, .func (PySem.W.fnOf "is_whole" "is_whole" (defArgs s_is_whole) (defBody s_is_whole) (defScope s_is_whole) .none kV_is_whole dc_is_whole pm_is_whole an_is_whole cd_is_whole ct_is_whole), sl_is_whole⟩)
    (c_is_whole : PySem.W.codeIn K cd_is_whole "is_whole" = true)
    (l_is_within : K.lookup f_is_within = some ⟨oc_is_within, od_is_within, .func (PySem.W.fnOf "is_within" "is_within" (defArgs s_is_within) (defBody s_is_within) (defScope s_is_within) .none kV_is_within dc_is_within pm_is_within an_is_within cd_is_within ct_is_within), sl_is_within⟩)
    (c_is_within : PySem.W.codeIn K cd_is_within "is_within" = true)
    (l_is_unbeaten : K.lookup f_is_unbeaten = some ⟨oc_is_unbeaten, od_is_unbeaten, .func (PySem.W.fnOf "is_unbeaten" "is_unbeaten" (defArgs s_is_unbeaten) (defBody s_is_unbeaten) (defScope s_is_unbeaten) .none kV_is_unbeaten dc_is_unbeaten pm_is_unbeaten an_is_unbeaten cd_is_unbeaten ct_is_unbeaten), sl_is_unbeaten⟩)
    (c_is_unbeaten : PySem.W.codeIn K cd_is_unbeaten "is_unbeaten" = true)
    (l_first_unbeaten : K.lookup f_first_unbeaten = some ⟨oc_first_unbeaten, od_first_unbeaten, .func (PySem.W.fnOf "first_unbeaten" "first_unbeaten" (defArgs s_first_unbeaten) (defBody s_first_unbeaten) (defScope s_first_unbeaten) .none kV_first_unbeaten dc_first_unbeaten pm_first_unbeaten an_first_unbeaten cd_first_unbeaten ct_first_unbeaten), sl_first_unbeaten⟩)
    (c_first_unbeaten : PySem.W.codeIn K cd_first_unbeaten "first_unbeaten" = true)
    (l_by_age : K.lookup f_by_age = some ⟨oc_by_age, od_by_age, .func (PySem.W.fnOf "by_age" "by_age" (defArgs s_by_age) (defBody s_by_age) (defScope s_by_age) .none kV_by_age dc_by_age pm_by_age an_by_age cd_by_age ct_by_age), sl_by_age⟩)
    (c_by_age : PySem.W.codeIn K cd_by_age "by_age" = true)
    (l_Rule_goes_ahead : K.lookup f_Rule_goes_ahead = some ⟨oc_Rule_goes_ahead, od_Rule_goes_ahead, .func (PySem.W.fnOf "goes_ahead" "Rule.goes_ahead" (defArgs s_Rule_goes_ahead) (defBody s_Rule_goes_ahead) (defScope s_Rule_goes_ahead) .none kV_Rule_goes_ahead dc_Rule_goes_ahead pm_Rule_goes_ahead an_Rule_goes_ahead cd_Rule_goes_ahead ct_Rule_goes_ahead), sl_Rule_goes_ahead⟩)
    (c_Rule_goes_ahead : PySem.W.codeIn K cd_Rule_goes_ahead "Rule.goes_ahead" = true)
    (l_Rule_choose : K.lookup f_Rule_choose = some ⟨oc_Rule_choose, od_Rule_choose, .func (PySem.W.fnOf "choose" "Rule.choose" (defArgs s_Rule_choose) (defBody s_Rule_choose) (defScope s_Rule_choose) .none kV_Rule_choose dc_Rule_choose pm_Rule_choose an_Rule_choose cd_Rule_choose ct_Rule_choose), sl_Rule_choose⟩)
    (c_Rule_choose : PySem.W.codeIn K cd_Rule_choose "Rule.choose" = true)
    (l_Fewest_goes_ahead : K.lookup f_Fewest_goes_ahead = some ⟨oc_Fewest_goes_ahead, od_Fewest_goes_ahead, .func (PySem.W.fnOf "goes_ahead" "Fewest.goes_ahead" (defArgs s_Fewest_goes_ahead) (defBody s_Fewest_goes_ahead) (defScope s_Fewest_goes_ahead) .none kV_Fewest_goes_ahead dc_Fewest_goes_ahead pm_Fewest_goes_ahead an_Fewest_goes_ahead cd_Fewest_goes_ahead ct_Fewest_goes_ahead), sl_Fewest_goes_ahead⟩)
    (c_Fewest_goes_ahead : PySem.W.codeIn K cd_Fewest_goes_ahead "Fewest.goes_ahead" = true)
    (l_Eldest_goes_ahead : K.lookup f_Eldest_goes_ahead = some ⟨oc_Eldest_goes_ahead, od_Eldest_goes_ahead, .func (PySem.W.fnOf "goes_ahead" "Eldest.goes_ahead" (defArgs s_Eldest_goes_ahead) (defBody s_Eldest_goes_ahead) (defScope s_Eldest_goes_ahead) .none kV_Eldest_goes_ahead dc_Eldest_goes_ahead pm_Eldest_goes_ahead an_Eldest_goes_ahead cd_Eldest_goes_ahead ct_Eldest_goes_ahead), sl_Eldest_goes_ahead⟩)
    (c_Eldest_goes_ahead : PySem.W.codeIn K cd_Eldest_goes_ahead "Eldest.goes_ahead" = true)
    (l_Worth_goes_ahead : K.lookup f_Worth_goes_ahead = some ⟨oc_Worth_goes_ahead, od_Worth_goes_ahead, .func (PySem.W.fnOf "goes_ahead" "Worth.goes_ahead" (defArgs s_Worth_goes_ahead) (defBody s_Worth_goes_ahead) (defScope s_Worth_goes_ahead) .none kV_Worth_goes_ahead dc_Worth_goes_ahead pm_Worth_goes_ahead an_Worth_goes_ahead cd_Worth_goes_ahead ct_Worth_goes_ahead), sl_Worth_goes_ahead⟩)
    (c_Worth_goes_ahead : PySem.W.codeIn K cd_Worth_goes_ahead "Worth.goes_ahead" = true)
    (l_Weighed_init : K.lookup f_Weighed_init = some ⟨oc_Weighed_init, od_Weighed_init, .func (PySem.W.fnOf "__init__" "Weighed.__init__" (defArgs s_Weighed_init) (defBody s_Weighed_init) (defScope s_Weighed_init) .none kV_Weighed_init dc_Weighed_init pm_Weighed_init an_Weighed_init cd_Weighed_init ct_Weighed_init), sl_Weighed_init⟩)
    (c_Weighed_init : PySem.W.codeIn K cd_Weighed_init "Weighed.__init__" = true)
    (l_Weighed_goes_ahead : K.lookup f_Weighed_goes_ahead = some ⟨oc_Weighed_goes_ahead, od_Weighed_goes_ahead, .func (PySem.W.fnOf "goes_ahead" "Weighed.goes_ahead" (defArgs s_Weighed_goes_ahead) (defBody s_Weighed_goes_ahead) (defScope s_Weighed_goes_ahead) .none kV_Weighed_goes_ahead dc_Weighed_goes_ahead pm_Weighed_goes_ahead an_Weighed_goes_ahead cd_Weighed_goes_ahead ct_Weighed_goes_ahead), sl_Weighed_goes_ahead⟩)
    (c_Weighed_goes_ahead : PySem.W.codeIn K cd_Weighed_goes_ahead "Weighed.goes_ahead" = true)
    (l_Turned_init : K.lookup f_Turned_init = some ⟨oc_Turned_init, od_Turned_init, .func (PySem.W.fnOf "__init__" "Turned.__init__" (defArgs s_Turned_init) (defBody s_Turned_init) (defScope s_Turned_init) .none kV_Turned_init dc_Turned_init pm_Turned_init an_Turned_init cd_Turned_init ct_Turned_init), sl_Turned_init⟩)
    (c_Turned_init : PySem.W.codeIn K cd_Turned_init "Turned.__init__" = true)
    (l_Turned_goes_ahead : K.lookup f_Turned_goes_ahead = some ⟨oc_Turned_goes_ahead, od_Turned_goes_ahead, .func (PySem.W.fnOf "goes_ahead" "Turned.goes_ahead" (defArgs s_Turned_goes_ahead) (defBody s_Turned_goes_ahead) (defScope s_Turned_goes_ahead) .none kV_Turned_goes_ahead dc_Turned_goes_ahead pm_Turned_goes_ahead an_Turned_goes_ahead cd_Turned_goes_ahead ct_Turned_goes_ahead), sl_Turned_goes_ahead⟩)
    (c_Turned_goes_ahead : PySem.W.codeIn K cd_Turned_goes_ahead "Turned.goes_ahead" = true)
    (l_Order_init : K.lookup f_Order_init = some ⟨oc_Order_init, od_Order_init, .func (PySem.W.fnOf "__init__" "Order.__init__" (defArgs s_Order_init) (defBody s_Order_init) (defScope s_Order_init) .none kV_Order_init dc_Order_init pm_Order_init an_Order_init cd_Order_init ct_Order_init), sl_Order_init⟩)
    (c_Order_init : PySem.W.codeIn K cd_Order_init "Order.__init__" = true)
    (l_Order_goes_ahead : K.lookup f_Order_goes_ahead = some ⟨oc_Order_goes_ahead, od_Order_goes_ahead, .func (PySem.W.fnOf "goes_ahead" "Order.goes_ahead" (defArgs s_Order_goes_ahead) (defBody s_Order_goes_ahead) (defScope s_Order_goes_ahead) .none kV_Order_goes_ahead dc_Order_goes_ahead pm_Order_goes_ahead an_Order_goes_ahead cd_Order_goes_ahead ct_Order_goes_ahead), sl_Order_goes_ahead⟩)
    (c_Order_goes_ahead : PySem.W.codeIn K cd_Order_goes_ahead "Order.goes_ahead" = true)
    (l_Window_init : K.lookup f_Window_init = some ⟨oc_Window_init, od_Window_init, .func (PySem.W.fnOf "__init__" "Window.__init__" (defArgs s_Window_init) (defBody s_Window_init) (defScope s_Window_init) .none kV_Window_init dc_Window_init pm_Window_init an_Window_init cd_Window_init ct_Window_init), sl_Window_init⟩)
    (c_Window_init : PySem.W.codeIn K cd_Window_init "Window.__init__" = true)
    (l_Window_choose : K.lookup f_Window_choose = some ⟨oc_Window_choose, od_Window_choose, .func (PySem.W.fnOf "choose" "Window.choose" (defArgs s_Window_choose) (defBody s_Window_choose) (defScope s_Window_choose) .none kV_Window_choose dc_Window_choose pm_Window_choose an_Window_choose cd_Window_choose ct_Window_choose), sl_Window_choose⟩)
    (c_Window_choose : PySem.W.codeIn K cd_Window_choose "Window.choose" = true)
    (l_Follow_init : K.lookup f_Follow_init = some ⟨oc_Follow_init, od_Follow_init, .func (PySem.W.fnOf "__init__" "Follow.__init__" (defArgs s_Follow_init) (defBody s_Follow_init) (defScope s_Follow_init) .none kV_Follow_init dc_Follow_init pm_Follow_init an_Follow_init cd_Follow_init ct_Follow_init), sl_Follow_init⟩)
    (c_Follow_init : PySem.W.codeIn K cd_Follow_init "Follow.__init__" = true)
    (l_Follow_choose : K.lookup f_Follow_choose = some ⟨oc_Follow_choose, od_Follow_choose, .func (PySem.W.fnOf "choose" "Follow.choose" (defArgs s_Follow_choose) (defBody s_Follow_choose) (defScope s_Follow_choose) .none kV_Follow_choose dc_Follow_choose pm_Follow_choose an_Follow_choose cd_Follow_choose ct_Follow_choose), sl_Follow_choose⟩)
    (c_Follow_choose : PySem.W.codeIn K cd_Follow_choose "Follow.choose" = true)
    (l_law_cell_at : K.lookup f_law_cell_at = some ⟨oc_law_cell_at, od_law_cell_at, .func (PySem.W.fnOf "_law_cell_at" "_law_cell_at" (defArgs s_law_cell_at) (defBody s_law_cell_at) (defScope s_law_cell_at) .none kV_law_cell_at dc_law_cell_at pm_law_cell_at an_law_cell_at cd_law_cell_at ct_law_cell_at), sl_law_cell_at⟩)
    (c_law_cell_at : PySem.W.codeIn K cd_law_cell_at "_law_cell_at" = true)
    (l_law_whole : K.lookup f_law_whole = some ⟨oc_law_whole, od_law_whole, .func (PySem.W.fnOf "_law_whole" "_law_whole" (defArgs s_law_whole) (defBody s_law_whole) (defScope s_law_whole) .none kV_law_whole dc_law_whole pm_law_whole an_law_whole cd_law_whole ct_law_whole), sl_law_whole⟩)
    (c_law_whole : PySem.W.codeIn K cd_law_whole "_law_whole" = true)
    (l_law_now : K.lookup f_law_now = some ⟨oc_law_now, od_law_now, .func (PySem.W.fnOf "_law_now" "_law_now" (defArgs s_law_now) (defBody s_law_now) (defScope s_law_now) .none kV_law_now dc_law_now pm_law_now an_law_now cd_law_now ct_law_now), sl_law_now⟩)
    (c_law_now : PySem.W.codeIn K cd_law_now "_law_now" = true)
    (l_law_tallies : K.lookup f_law_tallies = some ⟨oc_law_tallies, od_law_tallies, .func (PySem.W.fnOf "_law_tallies" "_law_tallies" (defArgs s_law_tallies) (defBody s_law_tallies) (defScope s_law_tallies) .none kV_law_tallies dc_law_tallies pm_law_tallies an_law_tallies cd_law_tallies ct_law_tallies), sl_law_tallies⟩)
    (c_law_tallies : PySem.W.codeIn K cd_law_tallies "_law_tallies" = true)
    (l_law_first : K.lookup f_law_first = some ⟨oc_law_first, od_law_first, .func (PySem.W.fnOf "_law_first" "_law_first" (defArgs s_law_first) (defBody s_law_first) (defScope s_law_first) .none kV_law_first dc_law_first pm_law_first an_law_first cd_law_first ct_law_first), sl_law_first⟩)
    (c_law_first : PySem.W.codeIn K cd_law_first "_law_first" = true)
    (l_law_base : K.lookup f_law_base = some ⟨oc_law_base, od_law_base, .func (PySem.W.fnOf "_law_base" "_law_base" (defArgs s_law_base) (defBody s_law_base) (defScope s_law_base) .none kV_law_base dc_law_base pm_law_base an_law_base (.ref cA_law_base) ct_law_base), sl_law_base⟩)
    (c_law_base : PySem.W.codeIn K (.ref cA_law_base) "_law_base" = true)
    (l_law_made : K.lookup f_law_made = some ⟨oc_law_made, od_law_made, .func (PySem.W.fnOf "_law_made" "_law_made" (defArgs s_law_made) (defBody s_law_made) (defScope s_law_made) .none kV_law_made dc_law_made pm_law_made an_law_made cd_law_made ct_law_made), sl_law_made⟩)
    (c_law_made : PySem.W.codeIn K cd_law_made "_law_made" = true)
    (l_law_rank : K.lookup f_law_rank = some ⟨oc_law_rank, od_law_rank, .func (PySem.W.fnOf "_law_rank" "_law_rank" (defArgs s_law_rank) (defBody s_law_rank) (defScope s_law_rank) .none kV_law_rank dc_law_rank pm_law_rank an_law_rank cd_law_rank ct_law_rank), sl_law_rank⟩)
    (c_law_rank : PySem.W.codeIn K cd_law_rank "_law_rank" = true)
    (l_law_cells : K.lookup f_law_cells = some ⟨oc_law_cells, od_law_cells, .func (PySem.W.fnOf "_law_cells" "_law_cells" (defArgs s_law_cells) (defBody s_law_cells) (defScope s_law_cells) .none kV_law_cells dc_law_cells pm_law_cells an_law_cells cd_law_cells ct_law_cells), sl_law_cells⟩)
    (c_law_cells : PySem.W.codeIn K cd_law_cells "_law_cells" = true)
    (l_law_turned_good : K.lookup f_law_turned_good = some ⟨oc_law_turned_good, od_law_turned_good, .func (PySem.W.fnOf "_law_turned_good" "_law_turned_good" (defArgs s_law_turned_good) (defBody s_law_turned_good) (defScope s_law_turned_good) .none kV_law_turned_good dc_law_turned_good pm_law_turned_good an_law_turned_good cd_law_turned_good ct_law_turned_good), sl_law_turned_good⟩)
    (c_law_turned_good : PySem.W.codeIn K cd_law_turned_good "_law_turned_good" = true)
    (l_law_refused : K.lookup f_law_refused = some ⟨oc_law_refused, od_law_refused, .func (PySem.W.fnOf "_law_refused" "_law_refused" (defArgs s_law_refused) (defBody s_law_refused) (defScope s_law_refused) .none kV_law_refused dc_law_refused pm_law_refused an_law_refused cd_law_refused ct_law_refused), sl_law_refused⟩)
    (c_law_refused : PySem.W.codeIn K cd_law_refused "_law_refused" = true)
    (a_law : PySem.W.nsIn K mainGlobals "law" = some (some (.ref f_law)))
    (l_law : K.lookup f_law = some ⟨oc_law, od_law, .func (PySem.W.fnOf "law" "law" (defArgs s_law) (defBody s_law) (defScope s_law) .none kV_law dc_law pm_law an_law cd_law ct_law), sl_law⟩)
    (c_law : PySem.W.codeIn K cd_law "law" = true) :
    ∃ fd : FuncData, (∀ (s : Shared) (v : Value), BindsTo s fd ⟨[v], []⟩ [("_law_script", v)]) ∧ ∀ base : Heap, K.In base → base.Ns mainGlobals mg → BmIn base mg → FnOk l.prog w K mg base (CX0) 13 fa fd ["_law_script"] (spLawT K [tA_law_base]) := by
  have e := hfa.symm.trans (PySem.W.mg_of X G a_law)
  cases e
  let t : Adr := ⟨f_is_whole, f_is_within, f_is_unbeaten, f_first_unbeaten, f_by_age, f_Rule_goes_ahead, f_Rule_choose, f_Fewest_goes_ahead, f_Eldest_goes_ahead, f_Worth_goes_ahead, f_Weighed_init, f_Weighed_goes_ahead, f_Turned_init, f_Turned_goes_ahead, f_Order_init, f_Order_goes_ahead, f_Window_init, f_Window_choose, f_Follow_init, f_Follow_choose, f_law_cell_at, f_law_whole, f_law_now, f_law_tallies, f_law_first, f_law_base, f_law_made, f_law_rank, f_law_cells, f_law_turned_good, f_law_refused, fa, C_Rule, C_Fewest, C_Eldest, C_Worth, C_Weighed, C_Turned, C_Order, C_Window, C_Follow, C_WornError, C_NoRule, C_NoRace, cA_law_base, tA_law_base⟩
  have T : Txt K mg t := ⟨PySem.W.mg_of X G aC_Rule, ⟨pg_Rule, hd_Rule, po_Rule, sa_Rule⟩, kc_Rule, n_Rule_weigh, n_Rule_inner, n_Rule_rules, n_Rule_many, n_Rule_row, n_Rule_used, ⟨a_Rule_goes_ahead, i_Rule_goes_ahead, k_Rule_goes_ahead⟩, ⟨a_Rule_choose, i_Rule_choose, k_Rule_choose⟩, ⟨mk_Rule, oi_Rule, kc_Rule⟩, PySem.W.mg_of X G aC_Fewest, ⟨pg_Fewest, hd_Fewest, po_Fewest, sa_Fewest⟩, kc_Fewest, n_Fewest_many, ⟨a_Fewest_goes_ahead, i_Fewest_goes_ahead, k_Fewest_goes_ahead⟩, ⟨a_Fewest_choose, i_Rule_choose, k_Rule_choose⟩, ⟨mk_Fewest, oi_Fewest, kc_Fewest⟩, PySem.W.mg_of X G aC_Eldest, ⟨pg_Eldest, hd_Eldest, po_Eldest, sa_Eldest⟩, kc_Eldest, ⟨a_Eldest_goes_ahead, i_Eldest_goes_ahead, k_Eldest_goes_ahead⟩, ⟨a_Eldest_choose, i_Rule_choose, k_Rule_choose⟩, ⟨mk_Eldest, oi_Eldest, kc_Eldest⟩, PySem.W.mg_of X G aC_Worth, ⟨pg_Worth, hd_Worth, po_Worth, sa_Worth⟩, kc_Worth, ⟨a_Worth_goes_ahead, i_Worth_goes_ahead, k_Worth_goes_ahead⟩, ⟨a_Worth_choose, i_Rule_choose, k_Rule_choose⟩, ⟨mk_Worth, oi_Worth, kc_Worth⟩, PySem.W.mg_of X G aC_Weighed, ⟨pg_Weighed, hd_Weighed, po_Weighed, sa_Weighed⟩, kc_Weighed, n_Weighed_weigh, ⟨a_Weighed_init, i_Weighed_init, k_Weighed_init⟩, ⟨a_Weighed_goes_ahead, i_Weighed_goes_ahead, k_Weighed_goes_ahead⟩, ⟨a_Weighed_choose, i_Rule_choose, k_Rule_choose⟩, ⟨mk_Weighed, a_Weighed_init, i_Weighed_init, kc_Weighed⟩, PySem.W.mg_of X G aC_Turned, ⟨pg_Turned, hd_Turned, po_Turned, sa_Turned⟩, kc_Turned, n_Turned_inner, ⟨a_Turned_init, i_Turned_init, k_Turned_init⟩, ⟨a_Turned_goes_ahead, i_Turned_goes_ahead, k_Turned_goes_ahead⟩, ⟨a_Turned_choose, i_Rule_choose, k_Rule_choose⟩, ⟨mk_Turned, a_Turned_init, i_Turned_init, kc_Turned⟩, PySem.W.mg_of X G aC_Order, ⟨pg_Order, hd_Order, po_Order, sa_Order⟩, kc_Order, n_Order_rules, ⟨a_Order_init, i_Order_init, k_Order_init⟩, ⟨a_Order_goes_ahead, i_Order_goes_ahead, k_Order_goes_ahead⟩, ⟨a_Order_choose, i_Rule_choose, k_Rule_choose⟩, ⟨mk_Order, a_Order_init, i_Order_init, kc_Order⟩, PySem.W.mg_of X G aC_Window, ⟨pg_Window, hd_Window, po_Window, sa_Window⟩, kc_Window, n_Window_many, ⟨a_Window_init, i_Window_init, k_Window_init⟩, ⟨a_Window_choose, i_Window_choose, k_Window_choose⟩, ⟨a_Window_goes_ahead, i_Fewest_goes_ahead, k_Fewest_goes_ahead⟩, ⟨mk_Window, a_Window_init, i_Window_init, kc_Window⟩, PySem.W.mg_of X G aC_Follow, ⟨pg_Follow, hd_Follow, po_Follow, sa_Follow⟩, kc_Follow, n_Follow_row, n_Follow_used, ⟨a_Follow_init, i_Follow_init, k_Follow_init⟩, ⟨a_Follow_choose, i_Follow_choose, k_Follow_choose⟩, ⟨a_Follow_goes_ahead, i_Rule_goes_ahead, k_Rule_goes_ahead⟩, ⟨mk_Follow, a_Follow_init, i_Follow_init, kc_Follow⟩, PySem.W.mg_of X G aC_WornError, kc_WornError, ⟨rga_WornError, rgn_WornError, rmb_WornError, rhd_WornError, rcl_WornError, rcg_WornError, rct_WornError, rmo_WornError⟩, x_WornError, PySem.W.mg_of X G aC_NoRule, kc_NoRule, ⟨rga_NoRule, rgn_NoRule, rmb_NoRule, rhd_NoRule, rcl_NoRule, rcg_NoRule, rct_NoRule, rmo_NoRule⟩, x_NoRule, PySem.W.mg_of X G aC_NoRace, kc_NoRace, ⟨rga_NoRace, rgn_NoRace, rmb_NoRace, rhd_NoRace, rcl_NoRace, rcg_NoRace, rct_NoRace, rmo_NoRace⟩, x_NoRace, xm_WornError_WornError, xm_NoRule_WornError, xm_NoRace_WornError, xk_WornError_NoRace, xk_WornError_NoRule, xk_WornError_ValueError, xk_NoRule_NoRace, xk_NoRule_NoRule, xk_NoRule_ValueError, xk_NoRace_NoRace, xk_NoRace_NoRule, xk_NoRace_ValueError, cdh_law_base, PySem.W.mg_of X G a_is_whole, k_is_whole, PySem.W.mg_of X G a_is_within, k_is_within, PySem.W.mg_of X G a_is_unbeaten, k_is_unbeaten, PySem.W.mg_of X G a_first_unbeaten, k_first_unbeaten, PySem.W.mg_of X G a_by_age, k_by_age, PySem.W.mg_of X G a_law_cell_at, k_law_cell_at, PySem.W.mg_of X G a_law_whole, k_law_whole, PySem.W.mg_of X G a_law_now, k_law_now, PySem.W.mg_of X G a_law_tallies, k_law_tallies, PySem.W.mg_of X G a_law_first, k_law_first, PySem.W.mg_of X G a_law_base, k_law_base, PySem.W.mg_of X G a_law_made, k_law_made, PySem.W.mg_of X G a_law_rank, k_law_rank, PySem.W.mg_of X G a_law_cells, k_law_cells, PySem.W.mg_of X G a_law_turned_good, k_law_turned_good, PySem.W.mg_of X G a_law_refused, k_law_refused, PySem.W.mg_none_of X G z_ValueError, PySem.W.mg_none_of X G z_bool, PySem.W.mg_none_of X G z_int, PySem.W.mg_none_of X G z_isinstance, PySem.W.mg_none_of X G z_len, PySem.W.mg_none_of X G z_list, PySem.W.mg_none_of X G z_max, PySem.W.mg_none_of X G z_min, PySem.W.mg_none_of X G z_range, PySem.W.mg_none_of X G z_sorted, PySem.W.mg_none_of X G z_zip⟩
  let S : Fns K t := ⟨_,
    .none,
    FunD.mk' (st := s_is_whole) l_is_whole c_is_whole,
    Binds.all fun us hl => match us, hl with | [_], _ => rfl,
    _,
    .none,
    FunD.mk' (st := s_is_within) l_is_within c_is_within,
    Binds.all fun us hl => match us, hl with | [_, _, _], _ => rfl,
    _,
    .none,
    FunD.mk' (st := s_is_unbeaten) l_is_unbeaten c_is_unbeaten,
    Binds.all fun us hl => match us, hl with | [_, _, _, _, _], _ => rfl,
    _,
    .none,
    FunD.mk' (st := s_first_unbeaten) l_first_unbeaten c_first_unbeaten,
    Binds.all fun us hl => match us, hl with | [_, _, _, _], _ => rfl,
    _,
    .none,
    FunD.mk' (st := s_by_age) l_by_age c_by_age,
    Binds.all fun us hl => match us, hl with | [_], _ => rfl,
    _,
    .none,
    FunD.mk' (st := s_Rule_goes_ahead) l_Rule_goes_ahead c_Rule_goes_ahead,
    Binds.all fun us hl => match us, hl with | [_, _, _, _, _], _ => rfl,
    _,
    .none,
    FunD.mk' (st := s_Rule_choose) l_Rule_choose c_Rule_choose,
    Binds.all fun us hl => match us, hl with | [_, _, _, _], _ => rfl,
    _,
    .none,
    FunD.mk' (st := s_Fewest_goes_ahead) l_Fewest_goes_ahead c_Fewest_goes_ahead,
    Binds.all fun us hl => match us, hl with | [_, _, _, _, _], _ => rfl,
    _,
    .none,
    FunD.mk' (st := s_Eldest_goes_ahead) l_Eldest_goes_ahead c_Eldest_goes_ahead,
    Binds.all fun us hl => match us, hl with | [_, _, _, _, _], _ => rfl,
    _,
    .none,
    FunD.mk' (st := s_Worth_goes_ahead) l_Worth_goes_ahead c_Worth_goes_ahead,
    Binds.all fun us hl => match us, hl with | [_, _, _, _, _], _ => rfl,
    _,
    .none,
    FunD.mk' (st := s_Weighed_init) l_Weighed_init c_Weighed_init,
    Binds.all fun us hl => match us, hl with | [_, _], _ => rfl,
    _,
    .none,
    FunD.mk' (st := s_Weighed_goes_ahead) l_Weighed_goes_ahead c_Weighed_goes_ahead,
    Binds.all fun us hl => match us, hl with | [_, _, _, _, _], _ => rfl,
    _,
    .none,
    FunD.mk' (st := s_Turned_init) l_Turned_init c_Turned_init,
    Binds.all fun us hl => match us, hl with | [_, _], _ => rfl,
    _,
    .none,
    FunD.mk' (st := s_Turned_goes_ahead) l_Turned_goes_ahead c_Turned_goes_ahead,
    Binds.all fun us hl => match us, hl with | [_, _, _, _, _], _ => rfl,
    _,
    .none,
    FunD.mk' (st := s_Order_init) l_Order_init c_Order_init,
    Binds.all fun us hl => match us, hl with | [_, _], _ => rfl,
    _,
    .none,
    FunD.mk' (st := s_Order_goes_ahead) l_Order_goes_ahead c_Order_goes_ahead,
    Binds.all fun us hl => match us, hl with | [_, _, _, _, _], _ => rfl,
    _,
    .none,
    FunD.mk' (st := s_Window_init) l_Window_init c_Window_init,
    Binds.all fun us hl => match us, hl with | [_, _], _ => rfl,
    _,
    .none,
    FunD.mk' (st := s_Window_choose) l_Window_choose c_Window_choose,
    Binds.all fun us hl => match us, hl with | [_, _, _, _], _ => rfl,
    _,
    .none,
    FunD.mk' (st := s_Follow_init) l_Follow_init c_Follow_init,
    Binds.all fun us hl => match us, hl with | [_, _], _ => rfl,
    _,
    .none,
    FunD.mk' (st := s_Follow_choose) l_Follow_choose c_Follow_choose,
    Binds.all fun us hl => match us, hl with | [_, _, _, _], _ => rfl,
    _,
    .none,
    FunD.mk' (st := s_law_cell_at) l_law_cell_at c_law_cell_at,
    Binds.all fun us hl => match us, hl with | [_, _], _ => rfl,
    _,
    .none,
    FunD.mk' (st := s_law_whole) l_law_whole c_law_whole,
    Binds.all fun us hl => match us, hl with | [_], _ => rfl,
    _,
    .none,
    FunD.mk' (st := s_law_now) l_law_now c_law_now,
    Binds.all fun us hl => match us, hl with | [_], _ => rfl,
    _,
    .none,
    FunD.mk' (st := s_law_tallies) l_law_tallies c_law_tallies,
    Binds.all fun us hl => match us, hl with | [_, _, _, _], _ => rfl,
    _,
    .none,
    FunD.mk' (st := s_law_first) l_law_first c_law_first,
    Binds.all fun us hl => match us, hl with | [_, _], _ => rfl,
    _,
    FunT.mk' (st := s_law_base) l_law_base c_law_base,
    Binds.all fun us hl => match us, hl with | [_], _ => rfl,
    _,
    .none,
    FunD.mk' (st := s_law_made) l_law_made c_law_made,
    Binds.all fun us hl => match us, hl with | [_], _ => rfl,
    _,
    .none,
    FunD.mk' (st := s_law_rank) l_law_rank c_law_rank,
    Binds.all fun us hl => match us, hl with | [_, _, _, _], _ => rfl,
    _,
    .none,
    FunD.mk' (st := s_law_cells) l_law_cells c_law_cells,
    Binds.all fun us hl => match us, hl with | [_], _ => rfl,
    _,
    .none,
    FunD.mk' (st := s_law_turned_good) l_law_turned_good c_law_turned_good,
    Binds.all fun us hl => match us, hl with | [_, _, _, _, _], _ => rfl,
    _,
    .none,
    FunD.mk' (st := s_law_refused) l_law_refused c_law_refused,
    Binds.all fun us hl => match us, hl with | [_], _ => rfl,
    _,
    .none,
    FunD.mk' (st := s_law) l_law c_law⟩
  exact ⟨_, fun s v => .of_eq rfl, fun base _ _ bm => ok_law T S bm⟩
theorem walk {l : PySem.W.OpenLaw} {q : Program} {loose : List Str} {XP : (Str → Option Value) → Heap → Prop} {YP : World → Heap → Prop} {d : DefRec} {K : Params → PySem.W.Frag} (hn : l.most = some 63) (hdf : d.params.defaults = [])
    (hY : ∀ (w : World) (h : Heap), YP w h → (K w.params).In h ∧ ∀ T ∈ ([336] : List Addr), h.get? T = some (PySem.W.tabObj #[])) (hT : ∀ w : World, ∀ T ∈ ([336] : List Addr), (K w.params).lookup T = none ∧ ∃ c, PySem.W.codeHdIn (K w.params) c T = true)
    (F : ∀ (w : World) (mg : Str → Option Value) (fa : Addr) (h : Heap), (K w.params).In h → h.Ns mainGlobals mg → mg d.name = some (.ref fa) →
      ∃ fd : FuncData, (∀ (s : Shared) (u : Value), BindsTo s fd ⟨[u], []⟩ [("_law_script", u)]) ∧ ∀ base : Heap, (K w.params).In base → base.Ns mainGlobals mg → BmIn base mg → FnOk l.prog w (K w.params) mg base (CX0) 13 fa fd ["_law_script"] (spLawT (K w.params) [336])) :
    PySem.W.WalkO q loose XP YP l.row.toRowW d [] (fun f vs => PySem.call f vs) :=
  L2.walk_ofT (n := 63) (k := 13) (x := "_law_script") (CX := fun _ => CX0) (sp := fun w => spLawT (K w.params) [336]) [336] hn (by decide) hdf ⟨rfl, by decide, by decide⟩ hY hT F (fun _ _ a ns hl hS hT => ⟨a, ns, rfl, hS, hl, hT, fun _ => rfl⟩) (fun _ _ _ _ _ z => z)
end W1
/- Names taken beforehand, so that no twins of the laid trees are made: they are of no use here, and the lemmas of such twins grow with the square of their length. -/
def PySem.W.Fast.tw2258298790658459873 : Unit := ()
def PySem.W.Fast.tw10324219636030757603 : Unit := ()
def PySem.W.Fast.tw10118610849349229060 : Unit := ()
def PySem.W.Fast.tw2955453480204487496 : Unit := ()
def PySem.W.Fast.tw1109200434621699401 : Unit := ()
def PySem.W.Fast.tw4547512710590962505 : Unit := ()
def PySem.W.Fast.tw5108634848818666640 : Unit := ()
def PySem.W.Fast.tw6058895577888560528 : Unit := ()
def PySem.W.Fast.tw1451815591359134865 : Unit := ()
def PySem.W.Fast.tw16770291209564575634 : Unit := ()
def PySem.W.Fast.tw17791438451691950036 : Unit := ()
def PySem.W.Fast.tw1924752315064099800 : Unit := ()
def PySem.W.Fast.tw867149451730835769 : Unit := ()
def PySem.W.Fast.tw3077616967610619130 : Unit := ()
def PySem.W.Fast.tw5368546249209473083 : Unit := ()
def PySem.W.Fast.tw17680527150161362493 : Unit := ()
def PySem.W.Fast.tw12599438788771093662 : Unit := ()
open PySem PySem.W PyProof.Rows
set_option maxRecDepth 100000 in
set_option maxHeartbeats 0 in
theorem PySem.Challenge.cw_wornpages_k26_order_holds : PySem.Challenge.rw_wornpages_k26_order.Holds := by
  w_on; o_law; k_head; (case hw => w_witness2)
  k_fill
  refine W1.walk (l := PySem.Challenge.rw_wornpages_k26_order) rfl rfl (fun w h Y => ⟨PySem.W.km_in_of Y, PySem.W.km_tabs_of Y⟩) (?T) ?F
  case T =>
    intro w T hT
    have hT : T = 336 := by simpa using hT
    subst hT
    exact ⟨by kernel_rfl, 340, by kernel_rfl⟩
  case F =>
    intro w mg fa h KX G hmg
    refine' W1.all_mk (tA_law_base := 336) (cA_law_base := 340) KX G hmg ?aC_Rule ?pg_Rule ?hd_Rule ?po_Rule ?sa_Rule ?kc_Rule ?n_Rule_weigh ?n_Rule_inner ?n_Rule_rules ?n_Rule_many ?n_Rule_row ?n_Rule_used ?a_Rule_goes_ahead ?i_Rule_goes_ahead ?k_Rule_goes_ahead ?a_Rule_choose ?i_Rule_choose ?k_Rule_choose ?mk_Rule ?oi_Rule ?aC_Fewest ?pg_Fewest ?hd_Fewest ?po_Fewest ?sa_Fewest ?kc_Fewest ?n_Fewest_many ?a_Fewest_goes_ahead ?i_Fewest_goes_ahead ?k_Fewest_goes_ahead ?a_Fewest_choose ?mk_Fewest ?oi_Fewest ?aC_Eldest ?pg_Eldest ?hd_Eldest ?po_Eldest ?sa_Eldest ?kc_Eldest ?a_Eldest_goes_ahead ?i_Eldest_goes_ahead ?k_Eldest_goes_ahead ?a_Eldest_choose ?mk_Eldest ?oi_Eldest ?aC_Worth ?pg_Worth ?hd_Worth ?po_Worth ?sa_Worth ?kc_Worth ?a_Worth_goes_ahead ?i_Worth_goes_ahead ?k_Worth_goes_ahead ?a_Worth_choose ?mk_Worth ?oi_Worth ?aC_Weighed ?pg_Weighed ?hd_Weighed ?po_Weighed ?sa_Weighed ?kc_Weighed ?n_Weighed_weigh ?a_Weighed_init ?i_Weighed_init ?k_Weighed_init ?a_Weighed_goes_ahead ?i_Weighed_goes_ahead ?k_Weighed_goes_ahead ?a_Weighed_choose ?mk_Weighed ?aC_Turned ?pg_Turned ?hd_Turned ?po_Turned ?sa_Turned ?kc_Turned ?n_Turned_inner ?a_Turned_init ?i_Turned_init ?k_Turned_init ?a_Turned_goes_ahead ?i_Turned_goes_ahead ?k_Turned_goes_ahead ?a_Turned_choose ?mk_Turned ?aC_Order ?pg_Order ?hd_Order ?po_Order ?sa_Order ?kc_Order ?n_Order_rules ?a_Order_init ?i_Order_init ?k_Order_init ?a_Order_goes_ahead ?i_Order_goes_ahead ?k_Order_goes_ahead ?a_Order_choose ?mk_Order ?aC_Window ?pg_Window ?hd_Window ?po_Window ?sa_Window ?kc_Window ?n_Window_many ?a_Window_init ?i_Window_init ?k_Window_init ?a_Window_choose ?i_Window_choose ?k_Window_choose ?a_Window_goes_ahead ?mk_Window ?aC_Follow ?pg_Follow ?hd_Follow ?po_Follow ?sa_Follow ?kc_Follow ?n_Follow_row ?n_Follow_used ?a_Follow_init ?i_Follow_init ?k_Follow_init ?a_Follow_choose ?i_Follow_choose ?k_Follow_choose ?a_Follow_goes_ahead ?mk_Follow ?aC_WornError ?kc_WornError ?rga_WornError ?rgn_WornError ?rmb_WornError ?rhd_WornError ?rcl_WornError ?rcg_WornError ?rct_WornError ?rmo_WornError ?x_WornError ?aC_NoRule ?kc_NoRule ?rga_NoRule ?rgn_NoRule ?rmb_NoRule ?rhd_NoRule ?rcl_NoRule ?rcg_NoRule ?rct_NoRule ?rmo_NoRule ?x_NoRule ?aC_NoRace ?kc_NoRace ?rga_NoRace ?rgn_NoRace ?rmb_NoRace ?rhd_NoRace ?rcl_NoRace ?rcg_NoRace ?rct_NoRace ?rmo_NoRace ?x_NoRace ?xm_WornError_WornError ?xm_NoRule_WornError ?xm_NoRace_WornError ?xk_WornError_NoRace ?xk_WornError_NoRule ?xk_WornError_ValueError ?xk_NoRule_NoRace ?xk_NoRule_NoRule ?xk_NoRule_ValueError ?xk_NoRace_NoRace ?xk_NoRace_NoRule ?xk_NoRace_ValueError ?cdh_law_base ?a_is_whole ?k_is_whole ?a_is_within ?k_is_within ?a_is_unbeaten ?k_is_unbeaten ?a_first_unbeaten ?k_first_unbeaten ?a_by_age ?k_by_age ?a_law_cell_at ?k_law_cell_at ?a_law_whole ?k_law_whole ?a_law_now ?k_law_now ?a_law_tallies ?k_law_tallies ?a_law_first ?k_law_first ?a_law_base ?k_law_base ?a_law_made ?k_law_made ?a_law_rank ?k_law_rank ?a_law_cells ?k_law_cells ?a_law_turned_good ?k_law_turned_good ?a_law_refused ?k_law_refused ?z_ValueError ?z_bool ?z_int ?z_isinstance ?z_len ?z_list ?z_max ?z_min ?z_range ?z_sorted ?z_zip ?l_is_whole ?c_is_whole ?l_is_within ?c_is_within ?l_is_unbeaten ?c_is_unbeaten ?l_first_unbeaten ?c_first_unbeaten ?l_by_age ?c_by_age ?l_Rule_goes_ahead ?c_Rule_goes_ahead ?l_Rule_choose ?c_Rule_choose ?l_Fewest_goes_ahead ?c_Fewest_goes_ahead ?l_Eldest_goes_ahead ?c_Eldest_goes_ahead ?l_Worth_goes_ahead ?c_Worth_goes_ahead ?l_Weighed_init ?c_Weighed_init ?l_Weighed_goes_ahead ?c_Weighed_goes_ahead ?l_Turned_init ?c_Turned_init ?l_Turned_goes_ahead ?c_Turned_goes_ahead ?l_Order_init ?c_Order_init ?l_Order_goes_ahead ?c_Order_goes_ahead ?l_Window_init ?c_Window_init ?l_Window_choose ?c_Window_choose ?l_Follow_init ?c_Follow_init ?l_Follow_choose ?c_Follow_choose ?l_law_cell_at ?c_law_cell_at ?l_law_whole ?c_law_whole ?l_law_now ?c_law_now ?l_law_tallies ?c_law_tallies ?l_law_first ?c_law_first ?l_law_base ?c_law_base ?l_law_made ?c_law_made ?l_law_rank ?c_law_rank ?l_law_cells ?c_law_cells ?l_law_turned_good ?c_law_turned_good ?l_law_refused ?c_law_refused ?a_law ?l_law ?c_law
    (case aC_Rule => k_is)
    (case pg_Rule => k_is)
    (case hd_Rule => k_is)
    (case po_Rule => k_is)
    (case sa_Rule => k_is)
    (case kc_Rule => k_is)
    (case n_Rule_weigh => k_is)
    (case n_Rule_inner => k_is)
    (case n_Rule_rules => k_is)
    (case n_Rule_many => k_is)
    (case n_Rule_row => k_is)
    (case n_Rule_used => k_is)
    (case a_Rule_goes_ahead => k_is)
    (case i_Rule_goes_ahead => k_is)
    (case k_Rule_goes_ahead => k_is)
    (case a_Rule_choose => k_is)
    (case i_Rule_choose => k_is)
    (case k_Rule_choose => k_is)
    (case mk_Rule => k_is)
    (case oi_Rule => k_is)
    (case aC_Fewest => k_is)
    (case pg_Fewest => k_is)
    (case hd_Fewest => k_is)
    (case po_Fewest => k_is)
    (case sa_Fewest => k_is)
    (case kc_Fewest => k_is)
    (case n_Fewest_many => k_is)
    (case a_Fewest_goes_ahead => k_is)
    (case i_Fewest_goes_ahead => k_is)
    (case k_Fewest_goes_ahead => k_is)
    (case a_Fewest_choose => k_is)
    (case mk_Fewest => k_is)
    (case oi_Fewest => k_is)
    (case aC_Eldest => k_is)
    (case pg_Eldest => k_is)
    (case hd_Eldest => k_is)
    (case po_Eldest => k_is)
    (case sa_Eldest => k_is)
    (case kc_Eldest => k_is)
    (case a_Eldest_goes_ahead => k_is)
    (case i_Eldest_goes_ahead => k_is)
    (case k_Eldest_goes_ahead => k_is)
    (case a_Eldest_choose => k_is)
    (case mk_Eldest => k_is)
    (case oi_Eldest => k_is)
    (case aC_Worth => k_is)
    (case pg_Worth => k_is)
    (case hd_Worth => k_is)
    (case po_Worth => k_is)
    (case sa_Worth => k_is)
    (case kc_Worth => k_is)
    (case a_Worth_goes_ahead => k_is)
    (case i_Worth_goes_ahead => k_is)
    (case k_Worth_goes_ahead => k_is)
    (case a_Worth_choose => k_is)
    (case mk_Worth => k_is)
    (case oi_Worth => k_is)
    (case aC_Weighed => k_is)
    (case pg_Weighed => k_is)
    (case hd_Weighed => k_is)
    (case po_Weighed => k_is)
    (case sa_Weighed => k_is)
    (case kc_Weighed => k_is)
    (case n_Weighed_weigh => k_is)
    (case a_Weighed_init => k_is)
    (case i_Weighed_init => k_is)
    (case k_Weighed_init => k_is)
    (case a_Weighed_goes_ahead => k_is)
    (case i_Weighed_goes_ahead => k_is)
    (case k_Weighed_goes_ahead => k_is)
    (case a_Weighed_choose => k_is)
    (case mk_Weighed => k_is)
    (case aC_Turned => k_is)
    (case pg_Turned => k_is)
    (case hd_Turned => k_is)
    (case po_Turned => k_is)
    (case sa_Turned => k_is)
    (case kc_Turned => k_is)
    (case n_Turned_inner => k_is)
    (case a_Turned_init => k_is)
    (case i_Turned_init => k_is)
    (case k_Turned_init => k_is)
    (case a_Turned_goes_ahead => k_is)
    (case i_Turned_goes_ahead => k_is)
    (case k_Turned_goes_ahead => k_is)
    (case a_Turned_choose => k_is)
    (case mk_Turned => k_is)
    (case aC_Order => k_is)
    (case pg_Order => k_is)
    (case hd_Order => k_is)
    (case po_Order => k_is)
    (case sa_Order => k_is)
    (case kc_Order => k_is)
    (case n_Order_rules => k_is)
    (case a_Order_init => k_is)
    (case i_Order_init => k_is)
    (case k_Order_init => k_is)
    (case a_Order_goes_ahead => k_is)
    (case i_Order_goes_ahead => k_is)
    (case k_Order_goes_ahead => k_is)
    (case a_Order_choose => k_is)
    (case mk_Order => k_is)
    (case aC_Window => k_is)
    (case pg_Window => k_is)
    (case hd_Window => k_is)
    (case po_Window => k_is)
    (case sa_Window => k_is)
    (case kc_Window => k_is)
    (case n_Window_many => k_is)
    (case a_Window_init => k_is)
    (case i_Window_init => k_is)
    (case k_Window_init => k_is)
    (case a_Window_choose => k_is)
    (case i_Window_choose => k_is)
    (case k_Window_choose => k_is)
    (case a_Window_goes_ahead => k_is)
    (case mk_Window => k_is)
    (case aC_Follow => k_is)
    (case pg_Follow => k_is)
    (case hd_Follow => k_is)
    (case po_Follow => k_is)
    (case sa_Follow => k_is)
    (case kc_Follow => k_is)
    (case n_Follow_row => k_is)
    (case n_Follow_used => k_is)
    (case a_Follow_init => k_is)
    (case i_Follow_init => k_is)
    (case k_Follow_init => k_is)
    (case a_Follow_choose => k_is)
    (case i_Follow_choose => k_is)
    (case k_Follow_choose => k_is)
    (case a_Follow_goes_ahead => k_is)
    (case mk_Follow => k_is)
    (case aC_WornError => k_is)
    (case kc_WornError => k_is)
    (case rga_WornError => k_is)
    (case rgn_WornError => k_is)
    (case rmb_WornError => k_is)
    (case rhd_WornError => k_is)
    (case rcl_WornError => k_is)
    (case rcg_WornError => k_is)
    (case rct_WornError => k_is)
    (case rmo_WornError => k_is)
    (case x_WornError => k_exc)
    (case aC_NoRule => k_is)
    (case kc_NoRule => k_is)
    (case rga_NoRule => k_is)
    (case rgn_NoRule => k_is)
    (case rmb_NoRule => k_is)
    (case rhd_NoRule => k_is)
    (case rcl_NoRule => k_is)
    (case rcg_NoRule => k_is)
    (case rct_NoRule => k_is)
    (case rmo_NoRule => k_is)
    (case x_NoRule => k_exc)
    (case aC_NoRace => k_is)
    (case kc_NoRace => k_is)
    (case rga_NoRace => k_is)
    (case rgn_NoRace => k_is)
    (case rmb_NoRace => k_is)
    (case rhd_NoRace => k_is)
    (case rcl_NoRace => k_is)
    (case rcg_NoRace => k_is)
    (case rct_NoRace => k_is)
    (case rmo_NoRace => k_is)
    (case x_NoRace => k_exc)
    (case xm_WornError_WornError => kts_exm)
    (case xm_NoRule_WornError => kts_exm)
    (case xm_NoRace_WornError => kts_exm)
    (case xk_WornError_NoRace => kit_is)
    (case xk_WornError_NoRule => kit_is)
    (case xk_WornError_ValueError => kit_is)
    (case xk_NoRule_NoRace => kit_is)
    (case xk_NoRule_NoRule => kit_is)
    (case xk_NoRule_ValueError => kit_is)
    (case xk_NoRace_NoRace => kit_is)
    (case xk_NoRace_NoRule => kit_is)
    (case xk_NoRace_ValueError => kit_is)
    (case cdh_law_base => kernel_rfl)
    (case a_is_whole => k_is)
    (case k_is_whole => k_is)
    (case a_is_within => k_is)
    (case k_is_within => k_is)
    (case a_is_unbeaten => k_is)
    (case k_is_unbeaten => k_is)
    (case a_first_unbeaten => k_is)
    (case k_first_unbeaten => k_is)
    (case a_by_age => k_is)
    (case k_by_age => k_is)
    (case a_law_cell_at => k_is)
    (case k_law_cell_at => k_is)
    (case a_law_whole => k_is)
    (case k_law_whole => k_is)
    (case a_law_now => k_is)
    (case k_law_now => k_is)
    (case a_law_tallies => k_is)
    (case k_law_tallies => k_is)
    (case a_law_first => k_is)
    (case k_law_first => k_is)
    (case a_law_base => k_is)
    (case k_law_base => k_is)
    (case a_law_made => k_is)
    (case k_law_made => k_is)
    (case a_law_rank => k_is)
    (case k_law_rank => k_is)
    (case a_law_cells => k_is)
    (case k_law_cells => k_is)
    (case a_law_turned_good => k_is)
    (case k_law_turned_good => k_is)
    (case a_law_refused => k_is)
    (case k_law_refused => k_is)
    (case z_ValueError => k_is)
    (case z_bool => k_is)
    (case z_int => k_is)
    (case z_isinstance => k_is)
    (case z_len => k_is)
    (case z_list => k_is)
    (case z_max => k_is)
    (case z_min => k_is)
    (case z_range => k_is)
    (case z_sorted => k_is)
    (case z_zip => k_is)
    (case l_is_whole => k_is)
    (case c_is_whole => k_is)
    (case l_is_within => k_is)
    (case c_is_within => k_is)
    (case l_is_unbeaten => k_is)
    (case c_is_unbeaten => k_is)
    (case l_first_unbeaten => k_is)
    (case c_first_unbeaten => k_is)
    (case l_by_age => k_is)
    (case c_by_age => k_is)
    (case l_Rule_goes_ahead => k_is)
    (case c_Rule_goes_ahead => k_is)
    (case l_Rule_choose => k_is)
    (case c_Rule_choose => k_is)
    (case l_Fewest_goes_ahead => k_is)
    (case c_Fewest_goes_ahead => k_is)
    (case l_Eldest_goes_ahead => k_is)
    (case c_Eldest_goes_ahead => k_is)
    (case l_Worth_goes_ahead => k_is)
    (case c_Worth_goes_ahead => k_is)
    (case l_Weighed_init => k_is)
    (case c_Weighed_init => k_is)
    (case l_Weighed_goes_ahead => k_is)
    (case c_Weighed_goes_ahead => k_is)
    (case l_Turned_init => k_is)
    (case c_Turned_init => k_is)
    (case l_Turned_goes_ahead => k_is)
    (case c_Turned_goes_ahead => k_is)
    (case l_Order_init => k_is)
    (case c_Order_init => k_is)
    (case l_Order_goes_ahead => k_is)
    (case c_Order_goes_ahead => k_is)
    (case l_Window_init => k_is)
    (case c_Window_init => k_is)
    (case l_Window_choose => k_is)
    (case c_Window_choose => k_is)
    (case l_Follow_init => k_is)
    (case c_Follow_init => k_is)
    (case l_Follow_choose => k_is)
    (case c_Follow_choose => k_is)
    (case l_law_cell_at => k_is)
    (case c_law_cell_at => k_is)
    (case l_law_whole => k_is)
    (case c_law_whole => k_is)
    (case l_law_now => k_is)
    (case c_law_now => k_is)
    (case l_law_tallies => k_is)
    (case c_law_tallies => k_is)
    (case l_law_first => k_is)
    (case c_law_first => k_is)
    (case l_law_base => k_is)
    (case c_law_base => k_is)
    (case l_law_made => k_is)
    (case c_law_made => k_is)
    (case l_law_rank => k_is)
    (case c_law_rank => k_is)
    (case l_law_cells => k_is)
    (case c_law_cells => k_is)
    (case l_law_turned_good => k_is)
    (case c_law_turned_good => k_is)
    (case l_law_refused => k_is)
    (case c_law_refused => k_is)
    (case a_law => k_is)
    (case l_law => k_is)
    (case c_law => k_is)

