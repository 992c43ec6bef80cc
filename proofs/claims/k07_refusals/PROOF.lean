import PyProof.Rows.All
import Wide.All
import OpenK.AllK
import Wide.FinOn
import Lean
import PyProof.EqAt
import PyProof.EqKinds
import PyProof.TupleCall
import PyProof.StationsW
import PyProof.NsDelKeeps
import PyProof.PassesOwn
import PyProof.ZipIter
import PyProof.NeKinds
import PyProof.CompFree
import PyProof.CompUse
import PyProof.ExcClass3
import PySem.Challenge.RW_wornpages_k07_refusals
set_option Elab.async false
set_option linter.all false
set_option maxRecDepth 100000
namespace L2
open PySem PySem.Spec PyProof.Rows

abbrev Key := Sum Int Str
def keyIs : Key → Value → Bool
  | .inl k, v => Value.isInt k v
  | .inr x, v => Value.isStrOf x v
def keyH (w : World) : Key → Int
  | .inl k => hashInt k
  | .inr x => hashStr w x
theorem keyIs_shape : ∀ {k : Key} {v : Value}, keyIs k v = true → (∃ i t, k = Sum.inl i ∧ v = Value.int i t) ∨ (∃ x t, k = Sum.inr x ∧ v = Value.str x t)
  | .inl i, v, h => by
    obtain ⟨t, e⟩ := Value.isInt_shape (k := i) (v := v) h
    exact .inl ⟨i, t, rfl, e⟩
  | .inr x, v, h => by
    obtain ⟨t, e⟩ := Value.isStrOf_shape (x := x) (v := v) h
    exact .inr ⟨x, t, rfl, e⟩
theorem keyIs_int (i : Int) (t : Tok) : keyIs (.inl i) (.int i t) = true := by simp [keyIs, Value.isInt]
theorem keyIs_str (x : Str) (t : Tok) : keyIs (.inr x) (.str x t) = true := by simp [keyIs, Value.isStrOf]
theorem key_ll (a b : Int) : decide ((Sum.inl a : Key) = Sum.inl b) = (a == b) := by
  by_cases e : a = b
  · subst e; simp
  · have h : ¬ (Sum.inl a : Key) = Sum.inl b := fun q => e (Sum.inl.inj q)
    rw [decide_eq_false h]
    exact (beq_eq_false_iff_ne.mpr e).symm
theorem key_rr (a b : Str) : decide ((Sum.inr a : Key) = Sum.inr b) = decide (a = b) := by
  by_cases e : a = b
  · subst e; simp
  · have h : ¬ (Sum.inr a : Key) = Sum.inr b := fun q => e (Sum.inr.inj q)
    rw [decide_eq_false h, decide_eq_false e]
theorem key_lr (a : Int) (b : Str) : decide ((Sum.inl a : Key) = Sum.inr b) = false := decide_eq_false (fun q => nomatch q)
theorem key_rl (a : Str) (b : Int) : decide ((Sum.inr a : Key) = Sum.inl b) = false := decide_eq_false (fun q => nomatch q)

def mixKind (prog : Program) (w : World) : PySem.KeyKind prog w Key where
  is := keyIs
  hash := keyH w
  inj := fun v a b ha hb => by
    rcases keyIs_shape ha with ⟨i, t, rfl, rfl⟩ | ⟨x, t, rfl, rfl⟩
    · rcases keyIs_shape hb with ⟨j, u, rfl, e⟩ | ⟨y, u, rfl, e⟩
      · injection e with e1 _; rw [e1]
      · exact nomatch e
    · rcases keyIs_shape hb with ⟨j, u, rfl, e⟩ | ⟨y, u, rfl, e⟩
      · exact nomatch e
      · injection e with e1 _; rw [e1]
  byValue := fun k v h => by
    rcases keyIs_shape h with ⟨i, t, rfl, rfl⟩ | ⟨x, t, rfl, rfl⟩ <;> rfl
  pyHash := fun hv h => by
    rcases keyIs_shape hv with ⟨i, t, rfl, rfl⟩ | ⟨x, t, rfl, rfl⟩
    · exact wpAny_pyHash_int h
    · exact wpAny_pyHash_str h
  eqBool := fun hu hv h => by
    rcases keyIs_shape hu with ⟨i, t, rfl, rfl⟩ | ⟨x, t, rfl, rfl⟩
    · rcases keyIs_shape hv with ⟨j, u, rfl, rfl⟩ | ⟨y, u, rfl, rfl⟩
      · rw [key_ll] at h; exact wpAny_eqBool_int h
      · rw [key_lr] at h; exact SeqAt.EqAt.int_str i t y u _ _ _ _ h
    · rcases keyIs_shape hv with ⟨j, u, rfl, rfl⟩ | ⟨y, u, rfl, rfl⟩
      · rw [key_rl] at h; exact SeqAt.EqAt.str_int x t j u _ _ _ _ h
      · rw [key_rr] at h; exact wpAny_eqBool_str h
  «strs» := fun k x t v h => by
    rcases keyIs_shape h with ⟨i, u, rfl, e⟩ | ⟨y, u, rfl, e⟩
    · exact nomatch e
    · injection e with e1 _
      subst e1
      cases v <;> rfl

theorem mixKind_int (prog : Program) (w : World) (i : Int) (t : Tok) : (mixKind prog w).is (.inl i) (.int i t) = true := keyIs_int i t
theorem mixKind_str (prog : Program) (w : World) (x : Str) (t : Tok) : (mixKind prog w).is (.inr x) (.str x t) = true := keyIs_str x t
end L2

namespace L2
open PySem PySem.Spec PyProof.Rows

inductive V where
  | non | bl (b : Bool) | int (i : Int) | str (x : Str) | byt (b : Array UInt8) | flt (b : UInt64) | ref (a : Addr) | ty (n : String)
  deriving DecidableEq

def RelV : V → Value → Prop
  | .non, u => u = Value.none
  | .bl b, u => u = Value.bool b
  | .int i, u => ∃ t, u = Value.int i t
  | .str x, u => ∃ t, u = Value.str x t
  | .byt b, u => ∃ t, u = Value.bytes b t
  | .flt b, u => ∃ t, u = Value.float b t
  | .ref a, u => u = Value.ref a
  | .ty n, u => u = Value.type n

abbrev Vals : List V → List Value → Prop := Paired RelV
theorem Vals.length {xs : List V} {us : List Value} (r : Vals xs us) : xs.length = us.length := Paired.length r
theorem Vals.get : ∀ {xs : List V} {us : List Value} {i : Nat} {x : V}, Vals xs us → xs[i]? = some x → ∃ u, us[i]? = some u ∧ RelV x u
  | _, _, _, _, .nil, e => by simp at e
  | _, _, 0, _, .cons r _, e => by simp at e; subst e; exact ⟨_, rfl, r⟩
  | _, _, i + 1, x, .cons _ t, e => by
    obtain ⟨u, h1, h2⟩ := Vals.get (i := i) (x := x) t (by simpa using e)
    exact ⟨u, by simpa using h1, h2⟩
theorem Vals.set {x : V} {u : Value} (r : RelV x u) : ∀ {xs : List V} {us : List Value} (i : Nat), Vals xs us → Vals (xs.set i x) (us.set i u)
  | _, _, _, .nil => .nil
  | _, _, 0, .cons _ t => .cons r t
  | _, _, i + 1, .cons q t => .cons q (Vals.set r i t)
theorem Vals.append : ∀ {xs ys : List V} {us ws : List Value}, Vals xs us → Vals ys ws → Vals (xs ++ ys) (us ++ ws)
  | _, _, _, _, .nil, s => s
  | _, _, _, _, .cons r t, s => .cons r (Vals.append t s)
theorem Vals.take : ∀ {xs : List V} {us : List Value} (n : Nat), Vals xs us → Vals (xs.take n) (us.take n)
  | _, _, 0, _ => .nil
  | _, _, _ + 1, .nil => .nil
  | _, _, n + 1, .cons r t => .cons r (Vals.take n t)
theorem Vals.drop : ∀ {xs : List V} {us : List Value} (n : Nat), Vals xs us → Vals (xs.drop n) (us.drop n)
  | _, _, 0, r => r
  | _, _, _ + 1, .nil => .nil
  | _, _, n + 1, .cons _ t => Vals.drop n t
theorem Vals.none_of : ∀ {xs : List V} {us : List Value} {i : Nat}, Vals xs us → xs[i]? = none → us[i]? = none := fun {xs us i} r e => by
  have h1 := r.length
  have h2 : xs.length ≤ i := List.getElem?_eq_none_iff.mp e
  exact List.getElem?_eq_none_iff.mpr (by omega)

def RelO : Option V → Option Value → Prop
  | some v, some u => RelV v u
  | none, none => True
  | _, _ => False
def KV {κ : Type} : List (κ × V) → List (κ × Value) → Prop := Paired fun (p : κ × V) (q : κ × Value) => p.1 = q.1 ∧ RelV p.2 q.2

def kV : Key → V
  | .inl i => .int i
  | .inr x => .str x

inductive HO where
  /-- a list -/
  | lst (xs : List V)
  /-- a tuple (never changes) -/
  | tup (xs : List V)
  /-- a dict whose keys are ints and texts; one whose keys are tuples of ints and texts (the empty one is both) -/
  | dK (kvs : List (Key × V)) | dT (kvs : List (List Key × V))
  /-- a set of ints: its members, its size -/
  | set (S : Int → Bool) (n : Nat)
  /-- an instance of the class at C, its dict at dx, its attributes -/
  | ins (C dx : Addr) (fs : List (Str × V))
  /-- the dict of the instance at x -/
  | own (x : Addr)
  /-- the dict of an exception -/
  | xd (fs : List (Str × V))
  /-- a bound method, f of x -/
  | met (f x : Addr)
  /-- a range object lo, lo + 1, .. below hi -/
  | rng (lo hi : Int)
  /-- a thing that is known to the object (the script; a dict while a loop walks it): read, never written while it is so -/
  | frz (o : Obj) (u : HO)
  /-- a code object's table -/
  | tbl (ps : Array Value)
  /-- any other thing, by what is true of its one object (a def of one's own: SetO a S n := HO.ext fun h => ..) -/
  | ext (φ : Heap → Prop)

abbrev Hp := Addr → Option HO
def upd (H : Hp) (a : Addr) (o : HO) : Hp := fun b => if b = a then some o else H b
theorem upd_same {H : Hp} {a : Addr} {o : HO} : upd H a o a = some o := by unfold upd; rw [if_pos rfl]
theorem upd_ne {H : Hp} {a b : Addr} {o : HO} (h : b ≠ a) : upd H a o b = H b := by unfold upd; rw [if_neg h]
theorem upd_upd {H : Hp} {a : Addr} {o u : HO} : upd (upd H a o) a u = upd H a u := by
  funext b; unfold upd; split <;> rfl
theorem ne_of {H : Hp} {a b : Addr} {o u : HO} (h : H a = some o) (h' : H b = some u) (d : o ≠ u) : a ≠ b := by
  intro e; subst e; rw [h] at h'; exact d (Option.some.inj h')
theorem ne_of_none {H : Hp} {a b : Addr} {o : HO} (h : H a = some o) (h' : H b = none) : a ≠ b := by
  intro e; subst e; rw [h] at h'; cases h'

section
variable (P : Program) (w : World)
def ObjOk (H : Hp) (h : Heap) (a : Addr) : HO → Prop
  | .lst xs => xs.length ≤ sizeLine ∧ ∃ (its : List Value) (n : Nat), Vals xs its ∧ h.get? a = some { cls := .type "list", data := .seq its.toArray n }
  | .tup xs => xs.length ≤ sizeLine ∧ ∃ its : List Value, Vals xs its ∧ IsTup h a its.toArray
  | .dK kvs => kvs.length ≤ sizeLine ∧ (a == sysModules) = false ∧ ∃ vs, KV kvs vs ∧ h.DictOf (mixKind P w) a vs
  | .dT kvs => kvs.length ≤ sizeLine ∧ (a == sysModules) = false ∧ ∃ xs : List (List Key × Addr × Value),
      Paired (fun (p : List Key × V) (q : List Key × Addr × Value) => p.1 = q.1 ∧ H q.2.1 = some (.tup (p.1.map kV)) ∧ RelV p.2 q.2.2) kvs xs ∧
      ∃ o es ep, h.get? a = some o ∧ o.ExactDict ∧ o.data = .dict es ep ∧ es.toList = xs.map (entryOfKey (tupleKind (mixKind P w))) ∧ (xs.map (·.1)).Nodup
  | .set S n => h.SetOf (intKind P w) a S n
  | .ins C dx fs => H dx = some (.own a) ∧ fs.length ≤ 1000 ∧ dx ≠ a ∧ h.get? a = some (PySem.W.instObj C dx) ∧
      ∃ mA, h.Ns1 dx mA ∧ (∀ f, RelO (fs.lookup f) (mA f)) ∧ PySem.Within mA (fs.map (·.1))
  | .own _ => ∃ o, h.get? a = some o
  | .xd fs => ∃ mA, h.Ns1 a mA ∧ ∀ f, RelO (fs.lookup f) (mA f)
  | .rng lo hi => ∃ t u v, h.get? a = some { cls := .type "range", data := .fields #[.int lo t, .int hi u, .int 1 v] }
  | .frz o u => h.get? a = some o ∧ ObjOk H h a u
  | .tbl ps => h.get? a = some { cls := .none, data := .fields ps }
  | .met f x => h.get? a = some (PySem.W.methodObj (.ref f) (.ref x))
  | .ext φ => φ h ∧ (∃ o, h.get? a = some o) ∧ ∀ h1 h2 : Heap, φ h1 → (∀ o, h1.get? a = some o → h2.get? a = some o) → φ h2
def HOk (H : Hp) (h : Heap) : Prop := ∀ a o, H a = some o → ObjOk P w H h a o
end

section
variable {P : Program} {w : World} {H H' : Hp} {h h' : Heap} {a : Addr} {o : HO}
theorem ObjOk.lt (x : ObjOk P w H h a o) : a < h.objs.size := by
  cases o with
  | lst xs => obtain ⟨_, _, _, _, e⟩ := x; exact Heap.lt_size e
  | tup xs => obtain ⟨_, _, _, p⟩ := x; exact p.lt
  | dK kvs => obtain ⟨_, _, _, _, o, _, _, e, _⟩ := x; exact Heap.lt_size e
  | dT kvs => obtain ⟨_, _, _, _, o, _, _, e, _⟩ := x; exact Heap.lt_size e
  | set S n => obtain ⟨o, _, _, _, e, _⟩ := x; exact Heap.lt_size e
  | ins C dx fs => obtain ⟨_, _, _, e, _⟩ := x; exact Heap.lt_size e
  | own y => obtain ⟨_, e⟩ := x; exact Heap.lt_size e
  | xd fs => obtain ⟨_, ⟨_, _, _, e, _⟩, _⟩ := x; exact Heap.lt_size e
  | rng lo hi => obtain ⟨_, _, _, e⟩ := x; exact Heap.lt_size e
  | frz ob u => obtain ⟨e, _⟩ := x; exact Heap.lt_size e
  | tbl ps => exact Heap.lt_size (show h.get? a = some _ from x)
  | met f y => exact Heap.lt_size (show h.get? a = some _ from x)
  | ext φ => obtain ⟨_, ⟨_, e⟩, _⟩ := x; exact Heap.lt_size e
theorem Paired.mapP {α β : Type} {F G : α → β → Prop} : ∀ {l₁ : List α} {l₂ : List β}, Paired F l₁ l₂ → (∀ a b, F a b → G a b) → Paired G l₁ l₂
  | _, _, .nil, _ => .nil
  | _, _, .cons r t, f => .cons (f _ _ r) (Paired.mapP t f)
theorem ObjOk.stay (x : ObjOk P w H h a o) (k : ∀ b u, (b = a ∨ H b = some (.own a)) → h.get? b = some u → h'.get? b = some u)
    (ho : ∀ b, H b = some (.own a) → H' b = some (.own a)) (ht : ∀ b xs, H b = some (.tup xs) → H' b = some (.tup xs)) : ObjOk P w H' h' a o := by
  induction o with
  | lst xs => obtain ⟨z, its, n, r, e⟩ := x; exact ⟨z, its, n, r, k _ _ (.inl rfl) e⟩
  | tup xs => obtain ⟨z, its, r, ob, e, c⟩ := x; exact ⟨z, its, r, ob, k _ _ (.inl rfl) e, c⟩
  | dK kvs => obtain ⟨z, y, vs, r, ob, es, ep, e, c⟩ := x; exact ⟨z, y, vs, r, ob, es, ep, k _ _ (.inl rfl) e, c⟩
  | dT kvs =>
    obtain ⟨z, y, xs, r, ob, es, ep, e, c⟩ := x
    exact ⟨z, y, xs, Paired.mapP r fun p q z => ⟨z.1, ht _ _ z.2.1, z.2.2⟩, ob, es, ep, k _ _ (.inl rfl) e, c⟩
  | set S n => obtain ⟨ob, es, ep, t, e, c⟩ := x; exact ⟨ob, es, ep, t, k _ _ (.inl rfl) e, c⟩
  | ins C dx fs =>
    obtain ⟨d, z, ne, e, mA, ⟨od, es, ep, e2, c⟩, r⟩ := x
    exact ⟨ho _ d, z, ne, k _ _ (.inl rfl) e, mA, ⟨od, es, ep, k _ _ (.inr d) e2, c⟩, r⟩
  | own y => obtain ⟨ob, e⟩ := x; exact ⟨ob, k _ _ (.inl rfl) e⟩
  | xd fs => obtain ⟨mA, ⟨od, es, ep, e, c⟩, r⟩ := x; exact ⟨mA, ⟨od, es, ep, k _ _ (.inl rfl) e, c⟩, r⟩
  | rng lo hi => obtain ⟨t, u, v, e⟩ := x; exact ⟨t, u, v, k _ _ (.inl rfl) e⟩
  | frz ob u ih => obtain ⟨e, q⟩ := x; exact ⟨k _ _ (.inl rfl) e, ih q⟩
  | tbl ps =>
    have e : h.get? a = some { cls := .none, data := .fields ps } := x
    show h'.get? a = some { cls := .none, data := .fields ps }
    exact k a _ (.inl rfl) e
  | met f y =>
    have e : h.get? a = some (PySem.W.methodObj (.ref f) (.ref y)) := x
    show h'.get? a = some (PySem.W.methodObj (.ref f) (.ref y))
    exact k a _ (.inl rfl) e
  | ext φ => obtain ⟨p, ⟨o, e⟩, st⟩ := x; exact ⟨st _ _ p fun o q => k _ _ (.inl rfl) q, ⟨o, k _ _ (.inl rfl) e⟩, st⟩
theorem HOk.lt (x : HOk P w H h) (e : H a = some o) : a < h.objs.size := (x a o e).lt
theorem HOk.fresh (x : HOk P w H h) (e : h.objs.size ≤ a) : H a = none := by
  cases q : H a with
  | none => rfl
  | some u => exact absurd (Nat.lt_of_lt_of_le (x.lt q) e) (Nat.lt_irrefl _)
theorem HOk.kept (x : HOk P w H h) (k : ∀ b u, h.get? b = some u → h'.get? b = some u) : HOk P w H h' := fun a o e =>
  (x a o e).stay (fun b u _ q => k b u q) (fun _ q => q) fun _ _ q => q
theorem HOk.laid (x : HOk P w H h) (k : ∀ b u, h.get? b = some u → h'.get? b = some u) (hp : h.objs.size ≤ a) (new : ObjOk P w (upd H a o) h' a o) : HOk P w (upd H a o) h' := fun b u e => by
  have hn := x.fresh hp
  by_cases hb : b = a
  · subst hb; rw [upd_same] at e; cases e; exact new
  · rw [upd_ne hb] at e
    exact (x b u e).stay (fun c v _ q => k c v q) (fun c q => by rw [upd_ne (ne_of_none q hn)]; exact q) fun c xs q => by rw [upd_ne (ne_of_none q hn)]; exact q
end

def Rd (H : Hp) (a : Addr) (u : HO) : Prop := H a = some u ∨ ∃ o, H a = some (.frz o u)
theorem Rd.of {H : Hp} {a : Addr} {u : HO} (h : H a = some u) : Rd H a u := .inl h
theorem Rd.ok {P : Program} {w : World} {H : Hp} {h : Heap} {a : Addr} {u : HO} (r : Rd H a u) (x : HOk P w H h) : ObjOk P w H h a u := by
  rcases r with r | ⟨o, r⟩
  · exact x a u r
  · obtain ⟨_, q⟩ := x a _ r
    exact q
def Mut : Option HO → Prop
  | some (.lst _) => True
  | some (.dK _) => True
  | some (.dT _) => True
  | some (.set _ _) => True
  | some (.ins _ _ _) => True
  | some (.ext _) => True
  | _ => False
section
variable {P : Program} {w : World} {H : Hp} {h h' : Heap} {x e : Addr} {o' : HO}
theorem HOk.write (ok : HOk P w H h) (mu : Mut (H x)) (he : e = x ∨ H e = some (.own x)) (k : ∀ b u, b ≠ e → h.get? b = some u → h'.get? b = some u) (heo : ∃ u, h'.get? e = some u)
    (new : ObjOk P w (upd H x o') h' x o') : HOk P w (upd H x o') h' := fun b u q => by
  have nown : ∀ c y, H c = some (.own y) → c ≠ x := fun c y r z => by subst z; rw [r] at mu; exact mu
  have ntup : ∀ c xs, H c = some (.tup xs) → c ≠ x := fun c xs r z => by subst z; rw [r] at mu; exact mu
  by_cases hb : b = x
  · subst hb; rw [upd_same] at q; cases q; exact new
  · rw [upd_ne hb] at q
    by_cases hbe : b = e
    · have q' : H b = some (.own x) := by
        rcases he with z | z
        · exact absurd (hbe.trans z) hb
        · rw [hbe]; exact z
      rw [q] at q'; cases q'
      obtain ⟨v, hv⟩ := heo
      exact ⟨v, by rw [hbe]; exact hv⟩
    · refine (ok b u q).stay (fun c v hc r => k c v ?_ r) (fun c r => by rw [upd_ne (nown c b r)]; exact r) fun c xs r => by rw [upd_ne (ntup c xs r)]; exact r
      rcases hc with rfl | hc
      · exact hbe
      · rintro rfl
        rcases he with z | z
        · exact nown c b hc z
        · rw [hc] at z; cases z; exact hb rfl
end

structure Un (fs ex : List Addr) (H H' : Hp) (h h' : Heap) : Prop where
  keep : ∀ b o, h.get? b = some o → H b = none → b ∉ fs → b ∉ ex → h'.get? b = some o
  slot : ∀ b o, h.get? b = some o → H b = none → b ∈ fs → b ∉ ex → ∃ sl, h'.get? b = some { o with slots := sl }
  free : ∀ b o, h.get? b = some o → H b = none → b ∉ ex → H' b = none
  there : ∀ b o, h.get? b = some o → b ∉ ex → ∃ o', h'.get? b = some o'
  tups : ∀ b xs, H b = some (.tup xs) → H' b = some (.tup xs)
  frzs : ∀ b o u, H b = some (.frz o u) → H' b = some (.frz o u)
  tbls : ∀ b ps, H b = some (.tbl ps) → ∃ more, H' b = some (.tbl (ps ++ more))
section
variable {fs fs' ex ex' : List Addr} {H H1 H2 : Hp} {h h1 h2 h' : Heap} {a x e : Addr} {o : HO}
theorem Un.any (u : Un fs ex H H1 h h1) {b : Addr} {ob : Obj} (q : h.get? b = some ob) (n : H b = none) (hx : b ∉ ex) : ∃ sl, h1.get? b = some { ob with slots := sl } := by
  by_cases hb : b ∈ fs
  · exact u.slot b ob q n hb hx
  · exact ⟨ob.slots, u.keep b ob q n hb hx⟩
theorem Un.trans (a : Un fs ex H H1 h h1) (b : Un fs ex H1 H2 h1 h2) : Un fs ex H H2 h h2 where
  keep := fun c ob q n hc hx => b.keep c ob (a.keep c ob q n hc hx) (a.free c ob q n hx) hc hx
  slot := fun c ob q n hc hx => by
    obtain ⟨sl, e1⟩ := a.slot c ob q n hc hx
    obtain ⟨sl', e2⟩ := b.slot c _ e1 (a.free c ob q n hx) hc hx
    exact ⟨sl', e2⟩
  free := fun c ob q n hx => by
    obtain ⟨o', e1⟩ := a.there c ob q hx
    exact b.free c o' e1 (a.free c ob q n hx) hx
  there := fun c ob q hx => by
    obtain ⟨o', e1⟩ := a.there c ob q hx
    exact b.there c o' e1 hx
  tups := fun c xs q => b.tups c xs (a.tups c xs q)
  frzs := fun c ob xs q => b.frzs c ob xs (a.frzs c ob xs q)
  tbls := fun c ps q => by
    obtain ⟨m1, e1⟩ := a.tbls c ps q
    obtain ⟨m2, e2⟩ := b.tbls c _ e1
    exact ⟨m1 ++ m2, by rw [e2, Array.append_assoc]⟩
theorem Un.kept (k : ∀ b u, h.get? b = some u → h'.get? b = some u) : Un fs ex H H h h' :=
  ⟨fun b ob q _ _ _ => k b ob q, fun b ob q _ _ _ => ⟨ob.slots, k b ob q⟩, fun _ _ _ n _ => n, fun b ob q _ => ⟨ob, k b ob q⟩, fun _ _ q => q, fun _ _ _ q => q, fun _ ps q => ⟨#[], by rw [q]; simp⟩⟩
theorem Un.refl : Un fs ex H H h h := Un.kept fun _ _ q => q
theorem Un.laid (k : ∀ b u, h.get? b = some u → h'.get? b = some u) (hp : h.objs.size ≤ a) (hn : H a = none) : Un fs ex H (upd H a o) h h' where
  keep := fun b u q _ _ _ => k b u q
  slot := fun b u q _ _ _ => ⟨u.slots, k b u q⟩
  free := fun b u q n _ => by rw [upd_ne (Nat.ne_of_lt (Nat.lt_of_lt_of_le (Heap.lt_size q) hp))]; exact n
  there := fun b u q _ => ⟨u, k b u q⟩
  tups := fun b xs q => by rw [upd_ne (ne_of_none q hn)]; exact q
  frzs := fun b u xs q => by rw [upd_ne (ne_of_none q hn)]; exact q
  tbls := fun b ps q => ⟨#[], by rw [upd_ne (ne_of_none q hn), q]; simp⟩
theorem Un.write (mu : Mut (H x)) (he : e = x ∨ H e = some (.own x)) (k : ∀ b u, b ≠ e → h.get? b = some u → h'.get? b = some u) (heo : ∃ u, h'.get? e = some u) : Un fs ex H (upd H x o) h h' := by
  have hx : ∀ b, H b = none → b ≠ x := fun b n z => by subst z; rw [n] at mu; exact mu
  have hb : ∀ b, H b = none → b ≠ e := fun b n z => by
    subst z
    rcases he with r | r
    · exact hx b n r
    · rw [n] at r; cases r
  have hm : ∀ b u, H b = some u → ¬ Mut (some u) → b ≠ x := fun b u q nm z => by subst z; rw [q] at mu; exact nm mu
  refine ⟨fun b u q n _ _ => k b u (hb b n) q, fun b u q n _ _ => ⟨u.slots, k b u (hb b n) q⟩, fun b u q n _ => by rw [upd_ne (hx b n)]; exact n, fun b u q _ => ?_,
    fun b xs q => by rw [upd_ne (hm b _ q fun z => z)]; exact q, fun b u xs q => by rw [upd_ne (hm b _ q fun z => z)]; exact q, fun b ps q => ⟨#[], by rw [upd_ne (hm b _ q fun z => z), q]; simp⟩⟩
  by_cases hbe : b = e
  · subst hbe; exact heo
  · exact ⟨u, k b u hbe q⟩
theorem Un.mono (u : Un fs ex H H1 h h1) (hs : ∀ b ∈ fs, b ∈ fs') (hx : ∀ b ∈ ex, b ∈ ex') : Un fs' ex' H H1 h h1 :=
  ⟨fun b ob q n hb he => u.keep b ob q n (fun z => hb (hs b z)) fun z => he (hx b z), fun _ _ q n _ he => u.any q n fun z => he (hx _ z), fun b ob q n he => u.free b ob q n fun z => he (hx b z), fun b ob q he => u.there b ob q fun z => he (hx b z), u.tups, u.frzs, u.tbls⟩
end

def trk (h : Heap) (H : Hp) : List Addr := (List.range h.objs.size).filter fun a => (H a).isSome
def hidT (h : Heap) (H : Hp) : Heap := PySem.W.hideAll h (trk h H)
theorem hidT_size (h : Heap) (H : Hp) : (hidT h H).objs.size = h.objs.size := PySem.W.hideAll_size _ _
theorem hidT_get {h : Heap} {H : Hp} {b : Addr} {o : Obj} (e : h.get? b = some o) (n : H b = none) : (hidT h H).get? b = some o :=
  PySem.W.hideAll_get _ e fun hm => by
    have q : (H b).isSome = true := (List.mem_filter.mp hm).2
    rw [n] at q; simp at q
theorem of_hidT {h : Heap} {H : Hp} {b : Addr} {o : Obj} (e : (hidT h H).get? b = some o) : h.get? b = some o ∧ H b = none := by
  have e' : h.get? b = some o := PySem.W.of_hideAll (trk h H) e
  refine ⟨e', ?_⟩
  cases q : H b with
  | none => rfl
  | some x =>
    have hm : b ∈ trk h H := List.mem_filter.mpr ⟨List.mem_range.mpr (Heap.lt_size e'), by simp [q]⟩
    have z : (hidT h H).get? b = none := PySem.W.hideAll_none (trk h H) hm
    rw [z] at e; cases e

def allNews (g h : Heap) (L : Addr) : List (Addr × Obj) := (List.range h.objs.size).filterMap fun a => if a = L ∨ (g.get? a).isSome = true then none else (h.get? a).map fun o => (a, o)
def rest (g h : Heap) (L d : Addr) : List (Addr × Obj) := (allNews g h L).filter fun p => decide (p.1 ≠ d)
end L2

namespace L2
open PySem PySem.Spec PyProof.Rows

structure Mod (K : PySem.W.Frag) (mg : Str → Option Value) (base : Heap) : Prop where
  kin : K.In base
  glob : base.Ns mainGlobals mg
  blt : ∃ mb, base.Ns builtinsNs mb ∧ ∀ x : Str, x ≠ "__name__" → mb x = bootBuiltins x
  nolimit : base.NoLimit

structure Cx where
  prog : Program
  w : World
  K : PySem.W.Frag
  mg : Str → Option Value
  base : Heap
  A : Around
  N : List Str
  s₀ : Shared
  H₀ : Hp
  env : Env
  outer : List Env
  stack : List Env
  ex : List Addr
  fn : Str → Bool
  calm : Bool
  pn : List (Addr × Obj)
  xe : Value → Shared → Prop
def frs (l : List Env) : List Addr := l.filterMap (·.frame)
abbrev Cx.fs (X : Cx) : List Addr := frs X.outer

def Vis (sc : Scope) (x : Str) : Prop := sc.names.lookup x = some .local ∨ sc.names.lookup x = some .cell ∨ sc.names.lookup x = some .free
def Loc (sc : Scope) (x : Str) : Prop := sc.names.lookup x = some .local ∨ sc.names.lookup x = some .cell
def Look (env : Env) (h : Heap) (m : Str → Option Value) (x : Str) (u : Value) : Prop :=
  (env.kindOf x = some .local ∧ m x = some u) ∨ ((env.kindOf x = some .cell ∨ env.kindOf x = some .free) ∧ ∃ c, env.cells.lookup x = some c ∧ h.IsCell c (some u))

structure Cx.Ok (X : Cx) : Prop where
  mod : Mod X.K X.mg X.base
  kind : X.env.scope.kind = .function
  glob : X.env.globals = mainGlobals
  blt : X.env.builtins = builtinsNs
  above : X.s₀.heap.objs.size ≤ X.env.locals
  inj : ∀ x y c, X.env.cells.lookup x = some c → X.env.cells.lookup y = some c → x = y
  has : ∀ x, (X.env.kindOf x = some .cell ∨ X.env.kindOf x = some .free) → ∃ c, X.env.cells.lookup x = some c
  cab : ∀ x c, X.fn x = true → X.env.cells.lookup x = some c → X.s₀.heap.objs.size ≤ c
  hd : X.calm = true → X.A.handled = none
  frames : X.A.frames = some X.stack
  stk : X.stack = X.outer ∨ (X.stack = X.env :: X.outer ∧ X.env.frame = some X.env.locals)
  exf : ∀ b ∈ X.ex, b ≠ X.env.locals ∧ ∀ x c, X.env.cells.lookup x = some c → c ≠ b
  bs : ∀ b o, X.base.get? b = some o → X.s₀.heap.get? b = some o ∧ X.H₀ b = none
  bsz : X.base.objs.size ≤ X.s₀.heap.objs.size
  noex : ∀ b o, X.base.get? b = some o → b ∉ X.ex
  exfs : ∀ b ∈ X.ex, b ∉ X.fs
  funs : X.s₀.heap.FunFrames X.base X.outer
  frf : ∀ b ∈ X.fs, X.H₀ b = none

structure Inv (X : Cx) (pins : List (Addr × Obj)) (σ : List (Option V)) (H : Hp) (s : Shared) : Prop where
  ok : X.Ok
  os : s.os = X.s₀.os
  bare : AllBare s.gens
  base : Un X.fs X.ex X.H₀ H X.s₀.heap s.heap
  loc : ∃ m, s.heap.Ns X.env.locals m ∧ ∀ (i : Nat) (x : Str) (v : V), X.N[i]? = some x → σ[i]? = some (some v) → Vis X.env.scope x → ∃ u, RelV v u ∧ Look X.env s.heap m x u
  cell : ∀ x c, X.env.cells.lookup x = some c → ∃ v, s.heap.IsCell c v
  free : H X.env.locals = none
  freeC : ∀ x c, X.env.cells.lookup x = some c → H c = none
  pin : ∀ p ∈ X.pn ++ pins, s.heap.get? p.1 = some p.2 ∧ H p.1 = none ∧ p.1 ≠ X.env.locals ∧ p.1 ∉ X.fs ∧ ∀ v, p.2.data ≠ .cell v
  hok : HOk X.prog X.w H s.heap
  len : σ.length = X.N.length

section
variable {X : Cx} {pins : List (Addr × Obj)} {σ : List (Option V)} {H H' : Hp} {s : Shared} {h' : Heap}

theorem Cx.Ok.nofr (ok : X.Ok) {b : Addr} {o : Obj} (e : X.base.get? b = some o) : b ∉ X.fs := fun hb => by
  have := (ok.funs.mem hb).1
  rw [e] at this; cases this
theorem Inv.bs (I : Inv X pins σ H s) : ∀ b o, X.base.get? b = some o → s.heap.get? b = some o ∧ H b = none := fun b o e =>
  ⟨I.base.keep b o (I.ok.bs b o e).1 (I.ok.bs b o e).2 (I.ok.nofr e) (I.ok.noex b o e), I.base.free b o (I.ok.bs b o e).1 (I.ok.bs b o e).2 (I.ok.noex b o e)⟩
theorem Inv.bk (I : Inv X pins σ H s) : ∀ b o, X.base.get? b = some o → s.heap.get? b = some o := fun b o e => (I.bs b o e).1
theorem Inv.mod (I : Inv X pins σ H s) : Mod X.K X.mg X.base := I.ok.mod
theorem Inv.kIn (I : Inv X pins σ H s) : X.K.In s.heap := I.ok.mod.kin.keeps I.bk
theorem Inv.nolimit (I : Inv X pins σ H s) : s.heap.NoLimit := I.ok.mod.nolimit.keeps I.bk
theorem Inv.fr (I : Inv X pins σ H s) : ∃ m, Fr X.base X.env.locals s.heap m :=
  let ⟨m, hn, _⟩ := I.loc
  ⟨m, hn, I.bk, Nat.le_trans I.ok.bsz I.ok.above⟩
theorem Inv.lt (I : Inv X pins σ H s) : X.env.locals < s.heap.objs.size := let ⟨_, hn, _⟩ := I.loc; hn.lt
theorem Inv.sz (I : Inv X pins σ H s) : X.s₀.heap.objs.size ≤ s.heap.objs.size := Nat.le_trans I.ok.above (Nat.le_of_lt I.lt)
theorem Inv.nofs (I : Inv X pins σ H s) {a : Addr} (h : s.heap.objs.size ≤ a) : a ∉ X.fs := fun hb => by
  obtain ⟨_, o, ho, _⟩ := I.ok.funs.mem hb
  exact absurd (Nat.lt_of_lt_of_le (Heap.lt_size ho) (Nat.le_trans I.sz h)) (Nat.lt_irrefl _)
theorem Inv.cne (I : Inv X pins σ H s) : ∀ x c, X.env.cells.lookup x = some c → c ≠ X.env.locals := fun x c e z => by
  obtain ⟨v, o, ho, hd⟩ := I.cell x c e
  obtain ⟨m, ⟨o', es, ep, ho', hd', _⟩, _⟩ := I.loc
  rw [z, ho'] at ho; cases ho; rw [hd'] at hd; cases hd
theorem Inv.funs (I : Inv X pins σ H s) : s.heap.FunFrames X.base X.outer := by
  have all : ∀ (l : List Env), (∀ b ∈ frs l, b ∈ X.fs) → X.s₀.heap.FunFrames X.base l → s.heap.FunFrames X.base l := by
    intro l
    induction l with
    | nil => intro _ _; trivial
    | cons env r ih =>
      intro hs hl
      obtain ⟨hk, ⟨L, o, hf, hn, ho, hd⟩, hr⟩ := hl
      have hL : L ∈ X.fs := hs L (by unfold frs; rw [List.filterMap_cons, hf]; exact List.mem_cons_self)
      obtain ⟨sl, e⟩ := I.base.slot L o ho (I.ok.frf L hL) hL fun z => I.ok.exfs L z hL
      exact ⟨hk, ⟨L, _, hf, hn, e, hd⟩, ih (fun b hb => hs b (by unfold frs; rw [List.filterMap_cons, hf]; exact List.mem_cons_of_mem _ hb)) hr⟩
  exact all X.outer (fun _ hb => hb) I.ok.funs

theorem Inv.stack (I : Inv X pins σ H s) : s.heap.FunFrames X.base X.stack := by
  rcases I.ok.stk with e | ⟨e, hf⟩
  · rw [e]; exact I.funs
  · rw [e]
    obtain ⟨m, hn, _⟩ := I.loc
    refine .cons (by rw [I.ok.kind]; decide) hf hn ?_ I.funs
    exact Heap.get?_none_of_le (Nat.le_trans I.ok.bsz I.ok.above)
theorem Inv.stkSub (I : Inv X pins σ H s) : ∀ b ∈ frs X.stack, b ∈ X.env.locals :: X.fs := fun b hb => by
  rcases I.ok.stk with e | ⟨e, hf⟩
  · rw [e] at hb; exact List.mem_cons_of_mem _ hb
  · rw [e] at hb
    unfold frs at hb
    rw [List.filterMap_cons, hf] at hb
    exact hb
theorem Inv.stkFree (I : Inv X pins σ H s) : ∀ b ∈ frs X.stack, H b = none := fun b hb => by
  rcases List.mem_cons.mp (I.stkSub b hb) with e | hb
  · rw [e]; exact I.free
  · obtain ⟨_, o, ho, _⟩ := I.ok.funs.mem hb
    exact I.base.free b o ho (I.ok.frf b hb) fun z => I.ok.exfs b z hb

theorem Inv.step {g' : Array GenState} {t' : Nat} {d' : Drawn} {ch : List Addr} (I : Inv X pins σ H s)
    (hch : ∀ b ∈ ch, (b ∈ X.ex ∨ X.s₀.heap.objs.size ≤ b) ∧ b ≠ X.env.locals ∧ (∀ x c, X.env.cells.lookup x = some c → c ≠ b) ∧ ∀ p ∈ X.pn ++ pins, p.1 ≠ b)
    (keep : ∀ b o, b ≠ X.env.locals → b ∉ X.fs → b ∉ ch → s.heap.get? b = some o → H b = none → h'.get? b = some o)
    (slot : ∀ b o, b ≠ X.env.locals → b ∈ X.fs → b ∉ ch → s.heap.get? b = some o → H b = none → ∃ sl, h'.get? b = some { o with slots := sl }) (free : ∀ b o, b ∉ ch → s.heap.get? b = some o → H b = none → H' b = none)
    (there : ∀ b o, b ∉ ch → s.heap.get? b = some o → ∃ o', h'.get? b = some o')
    (tups : ∀ b xs, H b = some (.tup xs) → H' b = some (.tup xs)) (frzs : ∀ b o u, H b = some (.frz o u) → H' b = some (.frz o u)) (tbls : ∀ b ps, H b = some (.tbl ps) → ∃ more, H' b = some (.tbl (ps ++ more)))
    (ns : ∀ m, s.heap.Ns X.env.locals m → h'.Ns X.env.locals m) (hok : HOk X.prog X.w H' h') (hg : AllBare g') :
    Inv X pins σ H' { s with heap := h', gens := g', drawn := d', toks := t' } := by
  have neL : ∀ b o, X.s₀.heap.get? b = some o → b ≠ X.env.locals := fun b o e => Nat.ne_of_lt (Nat.lt_of_lt_of_le (Heap.lt_size e) I.ok.above)
  have neC : ∀ b o, X.s₀.heap.get? b = some o → b ∉ X.ex → b ∉ ch := fun b o e hx hb => by
    rcases (hch b hb).1 with z | z
    · exact hx z
    · exact absurd (Nat.lt_of_lt_of_le (Heap.lt_size e) z) (Nat.lt_irrefl _)
  have cellK : ∀ x c, X.env.cells.lookup x = some c → ∀ v, s.heap.IsCell c v → h'.IsCell c v := fun x c e v ⟨o, ho, hd⟩ => by
    have nch : c ∉ ch := fun z => (hch c z).2.2.1 x c e rfl
    by_cases hc : c ∈ X.fs
    · obtain ⟨sl, q⟩ := slot c o (I.cne x c e) hc nch ho (I.freeC x c e)
      exact ⟨_, q, hd⟩
    · exact ⟨o, keep c o (I.cne x c e) hc nch ho (I.freeC x c e), hd⟩
  refine ⟨I.ok, I.os, hg, ⟨fun b o e n hb hx => ?_, fun b o e n hb hx => ?_, fun b o e n hx => ?_, fun b o e hx => ?_, fun b xs e => tups b xs (I.base.tups b xs e), fun b o xs e => frzs b o xs (I.base.frzs b o xs e), fun b ps e => ?_⟩, ?_, fun x c e => ?_, ?_, fun x c e => ?_, fun p hp => ?_, hok, I.len⟩
  · exact keep b o (neL b o e) hb (neC b o e hx) (I.base.keep b o e n hb hx) (I.base.free b o e n hx)
  · obtain ⟨sl, e1⟩ := I.base.slot b o e n hb hx
    obtain ⟨sl', e2⟩ := slot b _ (neL b o e) hb (neC b o e hx) e1 (I.base.free b o e n hx)
    exact ⟨sl', e2⟩
  · obtain ⟨o', e1⟩ := I.base.there b o e hx
    exact free b o' (neC b o e hx) e1 (I.base.free b o e n hx)
  · obtain ⟨o', e1⟩ := I.base.there b o e hx
    exact there b o' (neC b o e hx) e1
  · obtain ⟨m1, e1⟩ := I.base.tbls b ps e
    obtain ⟨m2, e2⟩ := tbls b _ e1
    exact ⟨m1 ++ m2, by rw [e2, Array.append_assoc]⟩
  · obtain ⟨m, hn, hl⟩ := I.loc
    refine ⟨m, ns m hn, fun i x v e1 e2 e3 => ?_⟩
    obtain ⟨u, r, l⟩ := hl i x v e1 e2 e3
    refine ⟨u, r, ?_⟩
    rcases l with l | ⟨k, c, e, z⟩
    · exact .inl l
    · exact .inr ⟨k, c, e, cellK x c e _ z⟩
  · obtain ⟨v, z⟩ := I.cell x c e
    exact ⟨v, cellK x c e v z⟩
  · obtain ⟨m, ⟨o, _, _, ho, _⟩, _⟩ := I.loc
    exact free _ o (fun z => (hch _ z).2.1 rfl) ho I.free
  · obtain ⟨v, o, ho, hd⟩ := I.cell x c e
    exact free c o (fun z => (hch c z).2.2.1 x c e rfl) ho (I.freeC x c e)
  · obtain ⟨e, n, ne, nf, d⟩ := I.pin p hp
    have nch : p.1 ∉ ch := fun z => (hch p.1 z).2.2.2 p hp rfl
    exact ⟨keep p.1 p.2 ne nf nch e n, free p.1 p.2 nch e n, ne, nf, d⟩
theorem Inv.un {t' : Nat} (I : Inv X pins σ H s) (u : Un X.fs [] H H' s.heap h') (hok : HOk X.prog X.w H' h') : Inv X pins σ H' { s with heap := h', toks := t' } := by
  obtain ⟨m, ⟨o, es, ep, ho, r⟩, _⟩ := id I.loc
  obtain ⟨sl, hL⟩ := u.any ho I.free (by simp)
  exact I.step (g' := s.gens) (d' := s.drawn) (ch := []) (fun _ z => nomatch z) (fun b o _ hb _ e n => u.keep b o e n hb (by simp)) (fun b o _ hb _ e n => u.slot b o e n hb (by simp)) (fun b o _ e n => u.free b o e n (by simp)) (fun b o _ e => u.there b o e (by simp)) u.tups u.frzs u.tbls (fun m' hm => by
    obtain ⟨o', es', ep', ho', r'⟩ := hm
    rw [ho] at ho'; cases ho'
    exact ⟨_, es', ep', hL, r'⟩) hok I.bare
theorem Inv.call {g' : Array GenState} {t' : Nat} {d' : Drawn} {ch : List Addr} (I : Inv X pins σ H s) (u : Un (frs X.stack) ch H H' s.heap h') (hok : HOk X.prog X.w H' h') (hg : AllBare g')
    (hch : ∀ b ∈ ch, (b ∈ X.ex ∨ X.s₀.heap.objs.size ≤ b) ∧ b ≠ X.env.locals ∧ (∀ x c, X.env.cells.lookup x = some c → c ≠ b) ∧ ∀ p ∈ X.pn ++ pins, p.1 ≠ b) :
    Inv X pins σ H' { s with heap := h', gens := g', drawn := d', toks := t' } := by
  obtain ⟨m, ⟨o, es, ep, ho, r⟩, _⟩ := id I.loc
  obtain ⟨sl, hL⟩ := u.any ho I.free fun z => (hch _ z).2.1 rfl
  exact I.step (ch := ch) hch (fun b o hL hb hc e n => u.keep b o e n (fun z => (List.mem_cons.mp (I.stkSub b z)).elim hL hb) hc) (fun b o _ _ hc e n => u.any e n hc) (fun b o hc e n => u.free b o e n hc) (fun b o hc e => u.there b o e hc) u.tups u.frzs u.tbls (fun m' hm => by
    obtain ⟨o', es', ep', ho', r'⟩ := hm
    rw [ho] at ho'; cases ho'
    exact ⟨_, es', ep', hL, r'⟩) hok hg
theorem Inv.turned {t' : Nat} {it : Addr} (I : Inv X pins σ H s) (k : ∀ b o, b ≠ it → s.heap.get? b = some o → h'.get? b = some o) (hn : H it = none) (hL : it ≠ X.env.locals)
    (h1 : it ∈ X.ex ∨ X.s₀.heap.objs.size ≤ it) (h2 : ∀ x c, X.env.cells.lookup x = some c → c ≠ it) (h3 : ∀ p ∈ X.pn ++ pins, p.1 ≠ it) : Inv X pins σ H { s with heap := h', toks := t' } := by
  have nit : ∀ b u, H b = some u → b ≠ it := fun b u e z => by rw [z, hn] at e; cases e
  refine I.step (g' := s.gens) (d' := s.drawn) (ch := [it]) (fun b hb => ?_) (fun b o _ _ hc e _ => k b o (fun z => hc (by simp [z])) e) (fun b o _ _ hc e _ => ⟨o.slots, k b o (fun z => hc (by simp [z])) e⟩) (fun _ _ _ _ n => n)
    (fun b o hc e => ⟨o, k b o (fun z => hc (by simp [z])) e⟩) (fun _ _ e => e) (fun _ _ _ e => e) (fun b ps e => ⟨#[], by rw [e]; simp⟩) (fun m hm => ?_) (fun b u e => ?_) I.bare
  · have e : b = it := by simpa using hb
    subst e
    exact ⟨h1, hL, h2, h3⟩
  · obtain ⟨o, es, ep, ho, r⟩ := hm
    exact ⟨o, es, ep, k _ o (Ne.symm hL) ho, r⟩
  · refine (I.hok b u e).stay (fun c v hc q => k c v ?_ q) (fun _ q => q) fun _ _ q => q
    rcases hc with z | z
    · rw [z]; exact nit b u e
    · exact nit c _ z
theorem Inv.tok (I : Inv X pins σ H s) (t : Nat) : Inv X pins σ H { s with toks := t } := I.un (h' := s.heap) (t' := t) Un.refl I.hok
theorem Inv.kept {t' : Nat} (I : Inv X pins σ H s) (k : ∀ b u, s.heap.get? b = some u → h'.get? b = some u) : Inv X pins σ H { s with heap := h', toks := t' } := I.un (Un.kept k) (I.hok.kept k)
theorem Inv.laid {a : Addr} {o : HO} {t' : Nat} (I : Inv X pins σ H s) (k : ∀ b u, s.heap.get? b = some u → h'.get? b = some u) (hp : s.heap.objs.size ≤ a) (new : ObjOk X.prog X.w (upd H a o) h' a o) :
    Inv X pins σ (upd H a o) { s with heap := h', toks := t' } := I.un (Un.laid k hp (I.hok.fresh hp)) (I.hok.laid k hp new)
theorem Inv.write {x e : Addr} {o : HO} {t' : Nat} (I : Inv X pins σ H s) (mu : Mut (H x)) (he : e = x ∨ H e = some (.own x)) (k : ∀ b u, b ≠ e → s.heap.get? b = some u → h'.get? b = some u) (heo : ∃ u, h'.get? e = some u)
    (new : ObjOk X.prog X.w (upd H x o) h' x o) : Inv X pins σ (upd H x o) { s with heap := h', toks := t' } := I.un (Un.write mu he k heo) (I.hok.write mu he k heo new)
theorem Inv.weak {σ' : List (Option V)} (I : Inv X pins σ H s) (hl : σ'.length = σ.length) (w : ∀ (i : Nat) v, σ'[i]? = some (some v) → σ[i]? = some (some v)) : Inv X pins σ' H s :=
  ⟨I.ok, I.os, I.bare, I.base, let ⟨m, hn, hl'⟩ := I.loc; ⟨m, hn, fun i x v e1 e2 e3 => hl' i x v e1 (w i v e2) e3⟩, I.cell, I.free, I.freeC, I.pin, I.hok, hl.trans I.len⟩
theorem Inv.pins_of {pins' : List (Addr × Obj)} (I : Inv X pins σ H s) (h : ∀ p ∈ pins', s.heap.get? p.1 = some p.2 ∧ H p.1 = none ∧ p.1 ≠ X.env.locals ∧ p.1 ∉ X.fs ∧ ∀ v, p.2.data ≠ .cell v) : Inv X pins' σ H s :=
  ⟨I.ok, I.os, I.bare, I.base, I.loc, I.cell, I.free, I.freeC, fun p hp => (List.mem_append.mp hp).elim (fun z => I.pin p (List.mem_append_left _ z)) (h p), I.hok, I.len⟩

theorem nodup_ix {N : List Str} (hN : N.Nodup) {i j : Nat} {x : Str} (a : N[i]? = some x) (b : N[j]? = some x) : i = j := by
  obtain ⟨h1, e1⟩ := List.getElem?_eq_some_iff.mp a
  obtain ⟨h2, e2⟩ := List.getElem?_eq_some_iff.mp b
  exact (List.getElem_inj hN).mp (e1.trans e2.symm)

theorem store_ok2 {M : Model} {A : Around} {E : Value → Shared → Prop} {i : Nat} {x : Str} {v : V} {u : Value} {Q : Unit → Shared → Prop} (I : Inv X pins σ H s) (hN : X.N.Nodup) (hi : X.N[i]? = some x) (hx : Loc X.env.scope x) (r : RelV v u)
    (h : ∀ s', Inv X pins (σ.set i (some v)) H s' → (∃ a, Heap.SameBut a s.heap s'.heap ∧ (a = X.env.locals ∨ X.env.cells.lookup x = some a)) → Q () s') (hf : X.fn x = true ∨ X.env.scope.names.lookup x = some .local := by first | exact .inl rfl | exact .inr rfl | assumption) : wpAny M A (storeName X.env x u) Q E s := by
  obtain ⟨m, hn, hl⟩ := id I.loc
  have hcls : (X.env.scope.kind == .class || (X.env.scope.kind == .module && X.env.locals != X.env.globals)) = false := by rw [I.ok.kind]; rfl
  have hiσ : i < σ.length := by rw [I.len]; exact (List.getElem?_eq_some_iff.mp hi).1
  have cne := I.cne
  have tracked : ∀ {a : Addr} {h' : Heap}, (∃ o, s.heap.get? a = some o ∧ H a = none) → Heap.SameBut a s.heap h' → HOk X.prog X.w H h' := fun {a h'} ha hs b ob e => by
    obtain ⟨_, _, hfree⟩ := ha
    refine (I.hok b ob e).stay (fun c w' hc q => (hs.2 c ?_).trans q) (fun _ q => q) fun _ _ q => q
    rintro rfl
    rcases hc with rfl | hc
    · rw [hfree] at e; cases e
    · rw [hfree] at hc; cases hc
  rcases hx with hk | hk
  · refine wpAny_storeName_local hk hn (fun h' hn' hs => ?_) hcls
    obtain ⟨oL, _, _, hoL, _⟩ := id hn
    refine h _ ⟨I.ok, I.os, I.bare, ⟨fun b o e n hb hx => ?_, fun b o e n hb hx => ?_, I.base.free, fun b o e hx => ?_, I.base.tups, I.base.frzs, I.base.tbls⟩, ⟨_, hn', fun j y v' e1 e2 e3 => ?_⟩, fun y c e => ?_, I.free, I.freeC, fun p hp => ?_, tracked ⟨oL, hoL, I.free⟩ hs, by simpa using I.len⟩ ⟨_, hs, .inl rfl⟩
    · exact (hs.2 b (Nat.ne_of_lt (Nat.lt_of_lt_of_le (Heap.lt_size e) I.ok.above))).trans (I.base.keep b o e n hb hx)
    · obtain ⟨sl, e1⟩ := I.base.slot b o e n hb hx
      exact ⟨sl, (hs.2 b (Nat.ne_of_lt (Nat.lt_of_lt_of_le (Heap.lt_size e) I.ok.above))).trans e1⟩
    · obtain ⟨o', e1⟩ := I.base.there b o e hx
      exact ⟨o', (hs.2 b (Nat.ne_of_lt (Nat.lt_of_lt_of_le (Heap.lt_size e) I.ok.above))).trans e1⟩
    · by_cases hj : j = i
      · subst hj
        rw [hi] at e1; cases e1
        rw [List.getElem?_set_self hiσ] at e2
        cases e2
        exact ⟨u, r, .inl ⟨hk, by simp⟩⟩
      · rw [List.getElem?_set_ne (Ne.symm hj)] at e2
        obtain ⟨u', r', q⟩ := hl j y v' e1 e2 e3
        refine ⟨u', r', ?_⟩
        rcases q with ⟨k, e⟩ | ⟨k, c, e, z⟩
        · refine .inl ⟨k, ?_⟩
          have : y ≠ x := fun e => hj (nodup_ix hN e1 (e ▸ hi))
          simp [this, e]
        · exact .inr ⟨k, c, e, z.sameBut hs (cne y c e)⟩
    · obtain ⟨w', z⟩ := I.cell y c e
      exact ⟨w', z.sameBut hs (cne y c e)⟩
    · obtain ⟨e, n, ne, nf, d⟩ := I.pin p hp
      exact ⟨(hs.2 p.1 ne).trans e, n, ne, nf, d⟩
  · have hfn : X.fn x = true := by
      rcases hf with z | z
      · exact z
      · rw [z] at hk; cases hk
    obtain ⟨c, hc⟩ := I.ok.has x (.inl hk)
    obtain ⟨w', z⟩ := I.cell x c hc
    refine wpAny_storeName_cell I.ok.kind hk hc z (fun h' hc' hs => ?_)
    obtain ⟨oc, hoc, hocd⟩ := id z
    refine h { s with heap := h' } ⟨I.ok, I.os, I.bare, ⟨fun b o e n hb hx => ?_, fun b o e n hb hx => ?_, I.base.free, fun b o e hx => ?_, I.base.tups, I.base.frzs, I.base.tbls⟩, ⟨m, hn.sameBut hs (Ne.symm (cne x c hc)), fun j y v' e1 e2 e3 => ?_⟩, fun y c' e => ?_, I.free, I.freeC, fun p hp => ?_, tracked ⟨oc, hoc, I.freeC x c hc⟩ hs, by simpa using I.len⟩ ⟨c, hs, .inr hc⟩
    · exact (hs.2 b (Nat.ne_of_lt (Nat.lt_of_lt_of_le (Heap.lt_size e) (I.ok.cab x c hfn hc)))).trans (I.base.keep b o e n hb hx)
    · obtain ⟨sl, e1⟩ := I.base.slot b o e n hb hx
      exact ⟨sl, (hs.2 b (Nat.ne_of_lt (Nat.lt_of_lt_of_le (Heap.lt_size e) (I.ok.cab x c hfn hc)))).trans e1⟩
    · obtain ⟨o', e1⟩ := I.base.there b o e hx
      exact ⟨o', (hs.2 b (Nat.ne_of_lt (Nat.lt_of_lt_of_le (Heap.lt_size e) (I.ok.cab x c hfn hc)))).trans e1⟩
    · by_cases hj : j = i
      · subst hj
        rw [hi] at e1; cases e1
        rw [List.getElem?_set_self hiσ] at e2
        cases e2
        exact ⟨u, r, .inr ⟨.inl hk, c, hc, hc'⟩⟩
      · rw [List.getElem?_set_ne (Ne.symm hj)] at e2
        obtain ⟨u', r', q⟩ := hl j y v' e1 e2 e3
        refine ⟨u', r', ?_⟩
        rcases q with q | ⟨k, c', e, z'⟩
        · exact .inl q
        · refine .inr ⟨k, c', e, z'.sameBut hs ?_⟩
          rintro rfl
          exact hj (nodup_ix hN e1 (I.ok.inj _ _ _ e hc ▸ hi))
    · by_cases hcc : c' = c
      · subst hcc; exact ⟨_, hc'⟩
      · obtain ⟨w2, z2⟩ := I.cell y c' e
        exact ⟨w2, z2.sameBut hs hcc⟩
    · obtain ⟨e, n, ne, nf, d⟩ := I.pin p hp
      refine ⟨(hs.2 p.1 ?_).trans e, n, ne, nf, d⟩
      intro q
      rw [q, hoc] at e
      have q' : oc = p.2 := Option.some.inj e
      exact d w' (by rw [← q']; exact hocd)
theorem store_ok {M : Model} {A : Around} {E : Value → Shared → Prop} {i : Nat} {x : Str} {v : V} {u : Value} {Q : Unit → Shared → Prop} (I : Inv X pins σ H s) (hN : X.N.Nodup) (hi : X.N[i]? = some x) (hx : Loc X.env.scope x) (r : RelV v u)
    (h : ∀ s', Inv X pins (σ.set i (some v)) H s' → Q () s') (hf : X.fn x = true ∨ X.env.scope.names.lookup x = some .local := by first | exact .inl rfl | exact .inr rfl | assumption) : wpAny M A (storeName X.env x u) Q E s :=
  store_ok2 I hN hi hx r (fun s' I' _ => h s' I') hf
theorem Inv.call' {s' : Shared} {ch : List Addr} (I : Inv X pins σ H s) (ho : s'.os = s.os) (u : Un (frs X.stack) ch H H' s.heap s'.heap) (hok : HOk X.prog X.w H' s'.heap) (hg : AllBare s'.gens)
    (hch : ∀ b ∈ ch, (b ∈ X.ex ∨ X.s₀.heap.objs.size ≤ b) ∧ b ≠ X.env.locals ∧ (∀ x c, X.env.cells.lookup x = some c → c ≠ b) ∧ ∀ p ∈ X.pn ++ pins, p.1 ≠ b) : Inv X pins σ H' s' := by
  obtain ⟨h', g', d', t', o'⟩ := s'
  have e : o' = s.os := ho
  subst e
  exact I.call (g' := g') (t' := t') (d' := d') u hok hg hch
end

abbrev XK := Value → Option Addr → Hp → Prop
abbrev St := List (Option V)
abbrev VK := V → Hp → Prop
abbrev TE := St → Hp → VK → Prop
abbrev TT := St → Hp → (Bool → Hp → Prop) → Prop
abbrev TA := St → Hp → (List V → Hp → Prop) → Prop
structure Ends where
  nx : St → Hp → Prop
  rt : VK
  bk : St → Hp → Prop := fun _ _ => False
  ct : St → Hp → Prop := fun _ _ => False
abbrev TS := Ends → St → Hp → Prop

def EP (X : Cx) (pins : List (Addr × Obj)) (σ : St) (Q : VK) (u : Value) (s' : Shared) : Prop := ∃ v H', Inv X pins σ H' s' ∧ RelV v u ∧ Q v H'
def TP (X : Cx) (pins : List (Addr × Obj)) (σ : St) (Q : Bool → Hp → Prop) (b : Bool) (s' : Shared) : Prop := ∃ H', Inv X pins σ H' s' ∧ Q b H'
def AP (X : Cx) (pins : List (Addr × Obj)) (σ : St) (Q : List V → Hp → Prop) (us : List Value) (s' : Shared) : Prop := ∃ vs H', Inv X pins σ H' s' ∧ Vals vs us ∧ Q vs H'
def SP (X : Cx) (pins : List (Addr × Obj)) (D : Ends) (f : Flow) (s' : Shared) : Prop :=
  match f with
  | .next => ∃ σ' H', Inv X pins σ' H' s' ∧ D.nx σ' H'
  | .brk => ∃ σ' H', Inv X pins σ' H' s' ∧ D.bk σ' H'
  | .cont => ∃ σ' H', Inv X pins σ' H' s' ∧ D.ct σ' H'
  | .ret u => ∃ v σ' H', Inv X pins σ' H' s' ∧ RelV v u ∧ D.rt v H'

def PE (X : Cx) (e : Expr) (t : TE) : Prop :=
  ∀ (pins : List (Addr × Obj)) (s : Shared) (σ : St) (H : Hp) (Q : VK), Inv X pins σ H s → t σ H Q → wpAny (model X.prog X.w) X.A (eval e X.env) (EP X pins σ Q) X.xe s
def PT (X : Cx) (e : Expr) (t : TT) : Prop :=
  ∀ (pins : List (Addr × Obj)) (s : Shared) (σ : St) (H : Hp) (Q : Bool → Hp → Prop), Inv X pins σ H s → t σ H Q → wpAny (model X.prog X.w) X.A (isTrue e X.env (eval e X.env)) (TP X pins σ Q) X.xe s
def PW (X : Cx) (e : Expr) (t : TT) : Prop :=
  ∀ (whole : Sem Value) (pins : List (Addr × Obj)) (s : Shared) (σ : St) (H : Hp) (Q : Bool → Hp → Prop), Inv X pins σ H s → t σ H Q → wpAny (model X.prog X.w) X.A (isTrue e X.env whole) (TP X pins σ Q) X.xe s
theorem PW.pt {X : Cx} {e : Expr} {t : TT} (h : PW X e t) : PT X e t := h _
def PA (X : Cx) (es : List Expr) (t : TA) : Prop :=
  ∀ (pos : Pos) (pins : List (Addr × Obj)) (s : Shared) (σ : St) (H : Hp) (Q : List V → Hp → Prop), Inv X pins σ H s → t σ H Q → wpAny (model X.prog X.w) X.A (spliced (backTo pos (starEach es X.env))) (AP X pins σ Q) X.xe s
def PS (X : Cx) (st : Stmt) (t : TS) : Prop :=
  ∀ (pins : List (Addr × Obj)) (s : Shared) (σ : St) (H : Hp) (D : Ends), Inv X pins σ H s → t D σ H → wpAny (model X.prog X.w) X.A (exec st X.env) (SP X pins D) X.xe s
def PSs (X : Cx) (st : List Stmt) (t : TS) : Prop :=
  ∀ (pins : List (Addr × Obj)) (s : Shared) (σ : St) (H : Hp) (D : Ends), Inv X pins σ H s → t D σ H → wpAny (model X.prog X.w) X.A (execs st X.env) (SP X pins D) X.xe s
theorem thn {α : Type} {t : Sem α} {Q Q' : α → Shared → Prop} {M : Model} {A : Around} {E : Value → Shared → Prop} {s : Shared} (h : wpAny M A t Q E s) (hQ : ∀ a s, Q a s → Q' a s) : wpAny M A t Q' E s := wpAny_mono h hQ fun _ _ x => x
end L2

namespace L2
open PySem PySem.Spec PyProof.Rows
section
variable {X : Cx}

def tVar (i : Nat) : TE := fun σ H Q => ∃ v, σ[i]? = some (some v) ∧ Q v H
def tC (v : V) : TE := fun _ H Q => Q v H
theorem pe_var {i : Nat} {x : Str} {pos : Pos} (hN : X.N[i]? = some x) (hv : Vis X.env.scope x) (hd : (x == ("__debug__" : Str)) = false := by decide) (hcd : (x == ("__classdict__" : Str)) = false := by decide) : PE X (.Name x pos) (tVar i) := by
  intro pins s σ H Q I h
  obtain ⟨v, e, h⟩ := h
  obtain ⟨m, hn, hl⟩ := I.loc
  obtain ⟨u, r, l⟩ := hl i x v hN e hv
  have fin : EP X pins σ Q u s := ⟨v, H, I, r, h⟩
  rcases l with ⟨hk, hm⟩ | ⟨hk, c, hc, hcell⟩
  · exact wpAny_Name (wpAny_loadName_local I.ok.kind hk hn hm fin) hd
  · rcases hk with hk | hk
    · exact wpAny_Name (wpAny_loadName_cell I.ok.kind hk hc hcell fin) hd
    · exact wpAny_Name (wpAny_loadName_free I.ok.kind hk hc hcell fin hcd) hd
theorem pe_int {i j pos} : PE X (.Constant (.int i) j pos) (tC (.int i)) := fun _ _ _ H _ I h => wpAny_Constant_int ⟨.int i, H, I.tok _, ⟨_, rfl⟩, h⟩
theorem pe_bl {b j pos} : PE X (.Constant (.bool b) j pos) (tC (.bl b)) := fun _ _ _ H _ I h => Constant_bool ⟨.bl b, H, I, rfl, h⟩
theorem pe_non {j pos} : PE X (.Constant .none j pos) (tC .non) := fun _ _ _ H _ I h => Constant_none ⟨.non, H, I, rfl, h⟩
theorem pe_str {x j pos} : PE X (.Constant (.str x) j pos) (tC (.str x)) := fun _ _ _ H _ I h => Calls.Constant_str ⟨.str x, H, I.tok _, ⟨_, rfl⟩, h⟩

def Gl (X : Cx) (x : Str) : Prop := X.env.kindOf x = some .globalImplicit
theorem ld_glob {E : Value → Shared → Prop} {pins : List (Addr × Obj)} {s : Shared} {σ : St} {H : Hp} {x : Str} {u : Value} {pos : Pos} {Q : Value → Shared → Prop} (I : Inv X pins σ H s) (hg : Gl X x) (hm : X.mg x = some u) (h : Q u s)
    (hd : (x == ("__debug__" : Str)) = false := by decide) : wpAny (model X.prog X.w) X.A (eval (.Name x pos) X.env) Q E s :=
  Calls.Name_function_global I.ok.kind hg (Calls.loadGlobal_global (by rw [I.ok.glob]; exact I.mod.glob.keeps I.bk) hm h) hd
theorem ld_blt {E : Value → Shared → Prop} {pins : List (Addr × Obj)} {s : Shared} {σ : St} {H : Hp} {x : Str} {u : Value} {pos : Pos} {Q : Value → Shared → Prop} (I : Inv X pins σ H s) (hg : Gl X x) (hm : X.mg x = none) (hv : bootBuiltins x = some u) (h : Q u s)
    (hn : x ≠ "__name__" := by decide) (hd : (x == ("__debug__" : Str)) = false := by decide) : wpAny (model X.prog X.w) X.A (eval (.Name x pos) X.env) Q E s := by
  obtain ⟨mb, h1, h2⟩ := I.mod.blt
  exact Calls.Name_function_global I.ok.kind hg (Calls.loadGlobal_builtin (by rw [I.ok.glob]; exact I.mod.glob.keeps I.bk) hm (by rw [I.ok.blt]; exact h1.keeps I.bk) ((h2 x hn).trans hv) h) hd
theorem pe_glob {x : Str} {v : V} {u : Value} {pos : Pos} (hg : Gl X x) (hm : X.mg x = some u) (r : RelV v u) (hd : (x == ("__debug__" : Str)) = false := by decide) : PE X (.Name x pos) (tC v) :=
  fun _ _ _ H _ I h => ld_glob I hg hm ⟨v, H, I, r, h⟩ hd
theorem pe_bltn {x : Str} {v : V} {u : Value} {pos : Pos} (hg : Gl X x) (hm : X.mg x = none) (hv : bootBuiltins x = some u) (r : RelV v u) (hn : x ≠ "__name__" := by decide) (hd : (x == ("__debug__" : Str)) = false := by decide) : PE X (.Name x pos) (tC v) :=
  fun _ _ _ H _ I h => ld_blt I hg hm hv ⟨v, H, I, r, h⟩ hn hd

variable {a b : Expr} {ta tb : TE} {pos : Pos}
def PC (X : Cx) (op : CmpOp) (a b : Expr) (t : TE) : Prop :=
  ∀ (pins : List (Addr × Obj)) (s : Shared) (σ : St) (H : Hp) (Q : VK), Inv X pins σ H s → t σ H Q →
    wpAny (model X.prog X.w) X.A (eval a X.env) (fun v s₁ => wpAny (model X.prog X.w) X.A (eval b X.env) (fun u s₂ => wpAny (model X.prog X.w) X.A (compareOp op v u) (EP X pins σ Q) X.xe s₂) X.xe s₁) X.xe s
theorem nobehind (b : Expr) {op : CmpOp} (h : op ≠ .In) (h2 : op ≠ .NotIn) : behindInMarks op b = false := by
  have e1 : (op == CmpOp.In) = false := by cases op <;> first | rfl | exact absurd rfl h
  have e2 : (op == CmpOp.NotIn) = false := by cases op <;> first | rfl | exact absurd rfl h2
  cases b <;> simp [behindInMarks, e1, e2]
def tB (t : TE) : TT := fun σ H Q => t σ H fun x H1 => ∃ c, x = .bl c ∧ Q c H1
theorem pe_cmp {op : CmpOp} {t : TE} (h : PC X op a b t) (h1 : behindInMarks op b = false := by first | exact nobehind _ (by decide) (by decide) | rfl) : PE X (.Compare a [op] [b] pos) t := fun pins s σ H Q I hw => wpAny_Compare1 (h pins s σ H Q I hw) h1
theorem pt_cmp {op : CmpOp} {t : TE} (h : PC X op a b t) (h1 : behindInMarks op b = false := by first | exact nobehind _ (by decide) (by decide) | rfl) : PT X (.Compare a [op] [b] pos) (tB t) := by
  intro pins s σ H Q I hw
  refine wpAny_isTrue_Compare1 (thn (h pins s σ H _ I hw) fun v s1 h1 => thn h1 fun u s2 h2 => thn h2 fun c s3 ⟨x, H1, I1, r1, q1⟩ => ?_) h1
  obtain ⟨d, rfl, q⟩ := q1
  cases r1
  exact wpAny_truthy_bool ⟨H1, I1, q⟩
theorem pt_val {e : Expr} {t : TE} (h : PE X e t) (he : ∀ whole, isTrue e X.env whole = (do let v ← whole; standAt e.pos; holding [v] (truthy v)) := by intro _; rfl) : PT X e (tB t) := by
  intro pins s σ H Q I hw
  refine isTrue_plain (thn (h pins s σ H _ I hw) fun v s1 ⟨x, H1, I1, r1, q1⟩ => ?_) (he _)
  obtain ⟨d, rfl, q⟩ := q1
  cases r1
  exact wpAny_truthy_bool ⟨H1, I1, q⟩

variable {tA tB' : TT} {rest : List Expr}
def tAnd (t u : TT) : TT := fun σ H Q => t σ H fun c H1 => if c = true then u σ H1 Q else Q false H1
def tOr (t u : TT) : TT := fun σ H Q => t σ H fun c H1 => if c = true then Q true H1 else u σ H1 Q
def tNot (t : TT) : TT := fun σ H Q => t σ H fun c H1 => Q (!c) H1
theorem pw_and1 (ha : PT X a tA) : PW X (.BoolOp .And [a] pos) tA := by
  intro wh pins s σ H Q I h
  refine isTrue_and (thn (ha pins s σ H Q I h) fun c s1 e => ?_)
  cases c with
  | true => exact isTrue_and_nil e
  | false => exact e
theorem pw_or1 (ha : PT X a tA) : PW X (.BoolOp .Or [a] pos) tA := by
  intro wh pins s σ H Q I h
  refine isTrue_or (thn (ha pins s σ H Q I h) fun c s1 e => ?_)
  cases c with
  | false => exact isTrue_or_nil e
  | true => exact e
theorem pw_and (ha : PT X a tA) (hb : PW X (.BoolOp .And (b :: rest) pos) tB') : PW X (.BoolOp .And (a :: b :: rest) pos) (tAnd tA tB') := by
  intro wh pins s σ H Q I h
  refine isTrue_and (thn (ha pins s σ H _ I h) fun c s1 ⟨H1, I1, q1⟩ => ?_)
  cases c with
  | true => exact hb wh pins s1 σ H1 Q I1 q1
  | false => exact ⟨H1, I1, q1⟩
theorem pw_or (ha : PT X a tA) (hb : PW X (.BoolOp .Or (b :: rest) pos) tB') : PW X (.BoolOp .Or (a :: b :: rest) pos) (tOr tA tB') := by
  intro wh pins s σ H Q I h
  refine isTrue_or (thn (ha pins s σ H _ I h) fun c s1 ⟨H1, I1, q1⟩ => ?_)
  cases c with
  | true => exact ⟨H1, I1, q1⟩
  | false => exact hb wh pins s1 σ H1 Q I1 q1
theorem pt_not (ha : PT X a tA) : PT X (.UnaryOp .Not a pos) (tNot tA) := by
  intro pins s σ H Q I h
  exact isTrue_not (ha pins s σ H (fun c H1 => Q (!c) H1) I h)
def tAndV (ta tb : TE) : TE := fun σ H Q => ta σ H fun x H1 => ∃ c, x = .bl c ∧ if c = true then tb σ H1 Q else Q (.bl false) H1
def tOrV (ta tb : TE) : TE := fun σ H Q => ta σ H fun x H1 => ∃ c, x = .bl c ∧ if c = true then Q (.bl true) H1 else tb σ H1 Q
def tNotV (ta : TE) : TE := fun σ H Q => ta σ H fun x H1 => ∃ c, x = .bl c ∧ Q (.bl (!c)) H1
theorem pe_one {op} {t : TE} (h : PE X a t) : PE X (.BoolOp op [a] pos) t := fun pins s σ H Q I hw => BoolOp_one (h pins s σ H Q I hw)
theorem pe_and (ha : PE X a ta) (hb : PE X (.BoolOp .And (b :: rest) pos) tb) : PE X (.BoolOp .And (a :: b :: rest) pos) (tAndV ta tb) := by
  intro pins s σ H Q I h
  refine BoolOp_and (thn (ha pins s σ H _ I h) fun v s1 ⟨x, H1, I1, r1, q1⟩ => ?_)
  obtain ⟨c, rfl, q1⟩ := q1
  cases r1
  refine wpAny_truthy_bool ?_
  cases c with
  | true => exact hb pins s1 σ H1 Q I1 q1
  | false => exact ⟨.bl false, H1, I1, rfl, q1⟩
theorem pe_or (ha : PE X a ta) (hb : PE X (.BoolOp .Or (b :: rest) pos) tb) : PE X (.BoolOp .Or (a :: b :: rest) pos) (tOrV ta tb) := by
  intro pins s σ H Q I h
  refine BoolOp_or (thn (ha pins s σ H _ I h) fun v s1 ⟨x, H1, I1, r1, q1⟩ => ?_)
  obtain ⟨c, rfl, q1⟩ := q1
  cases r1
  refine wpAny_truthy_bool ?_
  cases c with
  | false => exact hb pins s1 σ H1 Q I1 q1
  | true => exact ⟨.bl true, H1, I1, rfl, q1⟩
theorem pe_not (ha : PE X a ta) : PE X (.UnaryOp .Not a pos) (tNotV ta) := by
  intro pins s σ H Q I h
  refine UnaryOp_ (thn (ha pins s σ H _ I h) fun v s1 ⟨x, H1, I1, r1, q1⟩ => ?_)
  obtain ⟨c, rfl, q1⟩ := q1
  cases r1
  exact not_of (wpAny_truthy_bool ⟨.bl (!c), H1, I1, rfl, q1⟩)
def tIf (t : TT) (ta tb : TE) : TE := fun σ H Q => t σ H fun c H1 => if c = true then ta σ H1 Q else tb σ H1 Q
theorem pe_ifExp {c : Expr} (hc : PT X c tA) (ha : PE X a ta) (hb : PE X b tb) : PE X (.IfExp c a b pos) (tIf tA ta tb) := by
  intro pins s σ H Q I h
  refine wpAny_IfExp (thn (hc pins s σ H _ I h) fun d s1 ⟨H1, I1, q1⟩ => ?_)
  cases d with
  | true => exact ha pins s1 σ H1 Q I1 q1
  | false => exact hb pins s1 σ H1 Q I1 q1
end
end L2

namespace L2
open PySem PySem.Spec PyProof.Rows

def SqL (K : PySem.W.Frag) (H : Hp) (a : Addr) (xs : List V) : Prop :=
  Rd H a (.lst xs) ∨
    ∃ (o : Obj) (its : Array Value) (n : Nat), K.lookup a = some o ∧ o.cls = .type "list" ∧ o.dict = none ∧ o.data = .seq its n ∧ its.size ≤ sizeLine ∧ Vals xs its.toList
def SqT (K : PySem.W.Frag) (H : Hp) (a : Addr) (xs : List V) : Prop :=
  Rd H a (.tup xs) ∨
    ∃ (o : Obj) (its : Array Value) (n : Nat), K.lookup a = some o ∧ o.cls = .type "tuple" ∧ o.data = .seq its n ∧ its.size ≤ sizeLine ∧ Vals xs its.toList
def absV : Value → Option V
  | .none => some .non
  | .bool b => some (.bl b)
  | .int i _ => some (.int i)
  | .str x _ => some (.str x)
  | .bytes b _ => some (.byt b)
  | .float b _ => some (.flt b)
  | .ref a => some (.ref a)
  | .type n => some (.ty n)
  | _ => none
theorem RelV.abs {x : V} {u : Value} (r : RelV x u) : absV u = some x := by
  cases x with
  | non => cases r; rfl
  | bl _ => cases r; rfl
  | int _ => obtain ⟨t, rfl⟩ := r; rfl
  | str _ => obtain ⟨t, rfl⟩ := r; rfl
  | byt _ => obtain ⟨t, rfl⟩ := r; rfl
  | flt _ => obtain ⟨t, rfl⟩ := r; rfl
  | ref _ => cases r; rfl
  | ty _ => cases r; rfl
theorem RelV.inj {x y : V} {u : Value} (r : RelV x u) (q : RelV y u) : x = y := Option.some.inj (r.abs.symm.trans q.abs)
theorem Vals.inj : ∀ {xs ys : List V} {us : List Value}, Vals xs us → Vals ys us → xs = ys
  | _, _, _, .nil, .nil => rfl
  | _, _, _, .cons r t, .cons r' t' => by rw [r.inj r', Vals.inj t t']
section
variable {X : Cx} {pins : List (Addr × Obj)} {σ : St} {H : Hp} {s : Shared} {a : Addr} {xs ys : List V}
theorem SqL.of {K : PySem.W.Frag} (h : H a = some (.lst xs)) : SqL K H a xs := .inl (.inl h)
theorem SqT.of {K : PySem.W.Frag} (h : H a = some (.tup xs)) : SqT K H a xs := .inl (.inl h)
theorem Inv.list (I : Inv X pins σ H s) (h : SqL X.K H a xs) : ∃ its : List Value, Vals xs its ∧ PlainL s.heap a its.toArray ∧ xs.length ≤ sizeLine := by
  rcases h with h | ⟨o, its, n, hk, hc, hd, hs, hz, r⟩
  · obtain ⟨z, its, n, r, e⟩ := h.ok I.hok
    exact ⟨its, r, ⟨_, n, e, rfl, rfl, rfl⟩, z⟩
  · refine ⟨its.toList, r, ⟨o, n, I.kIn a o hk, hc, hd, by simpa using hs⟩, ?_⟩
    have e := r.length
    simp only [Array.length_toList] at e
    omega
theorem Inv.tuple (I : Inv X pins σ H s) (h : SqT X.K H a xs) : ∃ its : List Value, Vals xs its ∧ IsTup s.heap a its.toArray ∧ xs.length ≤ sizeLine := by
  rcases h with h | ⟨o, its, n, hk, hc, hs, hz, r⟩
  · obtain ⟨z, its, r, p⟩ := h.ok I.hok
    exact ⟨its, r, p, z⟩
  · refine ⟨its.toList, r, ⟨o, I.kIn a o hk, hc, n, by simpa using hs⟩, ?_⟩
    have e := r.length
    simp only [Array.length_toList] at e
    omega
theorem Inv.list_inj (I : Inv X pins σ H s) (h : SqL X.K H a xs) (h' : SqL X.K H a ys) : xs = ys := by
  obtain ⟨its, r, ⟨o, n, e, _, _, d⟩, _⟩ := I.list h
  obtain ⟨its', r', ⟨o', n', e', _, _, d'⟩, _⟩ := I.list h'
  rw [e] at e'; cases e'
  rw [d] at d'
  injection d' with d1 _
  have : its = its' := by simpa using congrArg Array.toList d1
  subst this
  exact r.inj r'
theorem Inv.tuple_inj (I : Inv X pins σ H s) (h : SqT X.K H a xs) (h' : SqT X.K H a ys) : xs = ys := by
  obtain ⟨its, r, ⟨o, e, _, n, d⟩, _⟩ := I.tuple h
  obtain ⟨its', r', ⟨o', e', _, n', d'⟩, _⟩ := I.tuple h'
  rw [e] at e'; cases e'
  rw [d] at d'
  injection d' with d1 _
  have : its = its' := by simpa using congrArg Array.toList d1
  subst this
  exact r.inj r'
end

abbrev Cx.wish (X : Cx) (E : Value → Shared → Prop) : Cx := { X with xe := E }
abbrev Cx.nox (X : Cx) : Cx := X.wish fun _ _ => False
theorem Cx.Ok.wish {X : Cx} (ok : X.Ok) (E : Value → Shared → Prop) : (X.wish E).Ok :=
  ⟨ok.mod, ok.kind, ok.glob, ok.blt, ok.above, ok.inj, ok.has, ok.cab, ok.hd, ok.frames, ok.stk, ok.exf, ok.bs, ok.bsz, ok.noex, ok.exfs, ok.funs, ok.frf⟩
theorem Cx.Ok.unwish {X : Cx} {E : Value → Shared → Prop} (ok : (X.wish E).Ok) : X.Ok :=
  ⟨ok.mod, ok.kind, ok.glob, ok.blt, ok.above, ok.inj, ok.has, ok.cab, ok.hd, ok.frames, ok.stk, ok.exf, ok.bs, ok.bsz, ok.noex, ok.exfs, ok.funs, ok.frf⟩
section
variable {X : Cx} {pins : List (Addr × Obj)} {σ : St} {H : Hp} {s : Shared} {E : Value → Shared → Prop}
theorem Inv.wish (I : Inv X pins σ H s) (E : Value → Shared → Prop) : Inv (X.wish E) pins σ H s := ⟨I.ok.wish E, I.os, I.bare, I.base, I.loc, I.cell, I.free, I.freeC, I.pin, I.hok, I.len⟩
theorem Inv.unwish (I : Inv (X.wish E) pins σ H s) : Inv X pins σ H s := ⟨I.ok.unwish, I.os, I.bare, I.base, I.loc, I.cell, I.free, I.freeC, I.pin, I.hok, I.len⟩
theorem SP.unwish {D : Ends} {f : Flow} {s' : Shared} (h : SP (X.wish E) pins D f s') : SP X pins D f s' := by
  cases f with
  | next => obtain ⟨σ', H', I, q⟩ := h; exact ⟨σ', H', I.unwish, q⟩
  | brk => obtain ⟨σ', H', I, q⟩ := h; exact ⟨σ', H', I.unwish, q⟩
  | cont => obtain ⟨σ', H', I, q⟩ := h; exact ⟨σ', H', I.unwish, q⟩
  | ret u => obtain ⟨v, σ', H', I, r, q⟩ := h; exact ⟨v, σ', H', I.unwish, r, q⟩
theorem PE.nox {e : Expr} {t : TE} (h : PE X.nox e t) : PE X e t := fun pins s σ H Q I hw =>
  wpAny_mono (h pins s σ H Q (I.wish _) hw) (fun _ _ ⟨v, H', I', r, q⟩ => ⟨v, H', I'.unwish, r, q⟩) fun _ _ z => False.elim z
theorem PT.nox {e : Expr} {t : TT} (h : PT X.nox e t) : PT X e t := fun pins s σ H Q I hw =>
  wpAny_mono (h pins s σ H Q (I.wish _) hw) (fun _ _ ⟨H', I', q⟩ => ⟨H', I'.unwish, q⟩) fun _ _ z => False.elim z
theorem PSs.nox {st : List Stmt} {t : TS} (h : PSs X.nox st t) : PSs X st t := fun pins s σ H D I hw =>
  wpAny_mono (h pins s σ H D (I.wish _) hw) (fun _ _ q => q.unwish) fun _ _ z => False.elim z
end

section
variable {X : Cx} {st : Stmt} {rest : List Stmt} {t u : TS} {e : Expr} {te : TE} {pos : Pos}
def tNext : TS := fun D σ H => D.nx σ H
def tSeq (t u : TS) : TS := fun D σ H => t { D with nx := u D } σ H
theorem pss_nil : PSs X [] tNext := fun _ _ σ H _ I h => wpAny_execs_nil ⟨σ, H, I, h⟩
theorem pss_cons (h1 : PS X st t) (h2 : PSs X rest u) : PSs X (st :: rest) (tSeq t u) := by
  intro pins s σ H D I h
  refine wpAny_execs_cons (thn (h1 pins s σ H { D with nx := u D } I h) fun f s1 q => ?_)
  cases f with
  | next =>
    obtain ⟨σ', H', I', q⟩ := q
    exact h2 pins s1 σ' H' D I' q
  | ret v => exact q
  | brk => exact q
  | cont => exact q
theorem pss_one (h1 : PS X st t) : PSs X [st] t := by
  intro pins s σ H D I h
  refine wpAny_execs_cons (thn (h1 pins s σ H D I h) fun f s1 q => ?_)
  cases f with
  | next => exact wpAny_execs_nil q
  | ret v => exact q
  | brk => exact q
  | cont => exact q
theorem Inv.quiet {pins : List (Addr × Obj)} {σ : St} {H : Hp} {s : Shared} (I : Inv X pins σ H s) : interactive X.env = false := by simp [interactive, I.ok.kind]
def tDrop (te : TE) : TS := fun D σ H => te σ H fun _ H1 => D.nx σ H1
theorem ps_expr (he : PE X e te) (hs : swapsWith e none pos.line X.env = pure false := by rfl) : PS X (.Expr e pos) (tDrop te) := by
  intro pins s σ H D I h
  exact wpAny_Expr_any (thn (he pins s σ H _ I h) fun v s1 ⟨x, H1, I1, r1, q1⟩ => ⟨σ, H1, I1, q1⟩) I.quiet hs
def tRet (te : TE) : TS := fun D σ H => te σ H D.rt
theorem ps_ret (he : PE X e te) : PS X (.Return (some e) pos) (tRet te) := by
  intro pins s σ H D I h
  exact wpAny_Return_some (thn (he pins s σ H _ I h) fun v s1 ⟨x, H1, I1, r1, q1⟩ => ⟨x, σ, H1, I1, r1, q1⟩)
def tIfS (c : TT) (t u : TS) : TS := fun D σ H => c σ H fun b H1 => if b = true then t D σ H1 else u D σ H1
theorem ps_if {c : Expr} {a b : List Stmt} {tc : TT} (hc : PT X c tc) (ha : PSs X a t) (hb : PSs X b u) : PS X (.If c a b pos) (tIfS tc t u) := by
  intro pins s σ H D I h
  refine wpAny_If (thn (hc pins s σ H _ I h) fun d s1 ⟨H1, I1, q1⟩ => ?_)
  cases d with
  | true => exact ha pins s1 σ H1 D I1 q1
  | false => exact hb pins s1 σ H1 D I1 q1
end

abbrev TG := V → St → Hp → (St → Hp → Prop) → Prop
abbrev TGs := List V → St → Hp → (St → Hp → Prop) → Prop
def PG (X : Cx) (target : Expr) (t : TG) : Prop :=
  ∀ (pins : List (Addr × Obj)) (s : Shared) (σ : St) (H : Hp) (v : V) (u : Value) (Q : St → Hp → Prop), Inv X pins σ H s → RelV v u → t v σ H Q →
    wpAny (model X.prog X.w) X.A (assign target X.env u) (fun _ s' => ∃ σ' H', Inv X pins σ' H' s' ∧ Q σ' H') X.xe s
def PGs (X : Cx) (ts : List Expr) (t : TGs) : Prop :=
  ∀ (pins : List (Addr × Obj)) (s : Shared) (σ : St) (H : Hp) (vs : List V) (us : List Value) (Q : St → Hp → Prop), Inv X pins σ H s → Vals vs us → t vs σ H Q →
    wpAny (model X.prog X.w) X.A (assignInOrder ((assignEach ts X.env).map (·.2)) us) (fun _ s' => ∃ σ' H', Inv X pins σ' H' s' ∧ Q σ' H') X.xe s
abbrev TSet := V → V → V → Hp → (Hp → Prop) → Prop
def PSet (X : Cx) (t : TSet) : Prop :=
  ∀ (pins : List (Addr × Obj)) (s : Shared) (σ : St) (H : Hp) (o i v : V) (ov iv u : Value) (Q : Hp → Prop), Inv X pins σ H s → RelV o ov → RelV i iv → RelV v u → t o i v H Q →
    wpAny (model X.prog X.w) X.A (setItem ov iv u) (fun _ s' => ∃ H', Inv X pins σ H' s' ∧ Q H') X.xe s
abbrev TIp := V → V → Hp → VK → Prop
def PIp (X : Cx) (op : Operator) (t : TIp) : Prop :=
  ∀ (pins : List (Addr × Obj)) (s : Shared) (σ : St) (H : Hp) (x y : V) (v u : Value) (Q : VK), Inv X pins σ H s → RelV x v → RelV y u → t x y H Q →
    wpAny (model X.prog X.w) X.A (inplaceOp op v u) (EP X pins σ Q) X.xe s
section
variable {X : Cx} {pos : Pos}
def gName (i : Nat) : TG := fun v σ H Q => Q (σ.set i (some v)) H
theorem pg_name {i : Nat} {x : Str} (hN : X.N.Nodup) (hi : X.N[i]? = some x) (hx : Loc X.env.scope x) (hf : X.fn x = true ∨ X.env.scope.names.lookup x = some .local := by first | exact .inl rfl | exact .inr rfl | assumption) : PG X (.Name x pos) (gName i) := by
  intro pins s σ H v u Q I r h
  exact wpAny_assign_Name (store_ok I hN hi hx r (fun s' I' => ⟨_, H, I', h⟩) hf)
def gNil : TGs := fun vs σ H Q => vs = [] ∧ Q σ H
def gCons (t : TG) (u : TGs) : TGs := fun vs σ H Q => ∃ v r, vs = v :: r ∧ t v σ H fun σ' H' => u r σ' H' Q
theorem pgs_nil : PGs X [] gNil := by
  intro pins s σ H vs us Q I r h
  obtain ⟨e, h⟩ := h
  subst e
  cases r
  exact assignInOrder_nil ⟨σ, H, I, h⟩
theorem pgs_cons {e : Expr} {es : List Expr} {t : TG} {u : TGs} (h1 : PG X e t) (h2 : PGs X es u)
    (hs : (assignEach (e :: es) X.env).map (·.2) = assign e X.env :: (assignEach es X.env).map (·.2) := by rfl) : PGs X (e :: es) (gCons t u) := by
  intro pins s σ H vs us Q I r h
  obtain ⟨v, vr, e1, h⟩ := h
  subst e1
  cases r with
  | cons r rr =>
    rw [hs]
    refine assignInOrder_cons (thn (h1 pins s σ H _ _ _ I r h) fun _ s1 ⟨σ1, H1, I1, q1⟩ => ?_)
    exact h2 pins s1 σ1 H1 _ _ Q I1 rr q1
def gTup (K : PySem.W.Frag) (n : Nat) (t : TGs) : TG := fun v σ H Q => ∃ a xs, v = .ref a ∧ SqT K H a xs ∧ xs.length = n ∧ t xs σ H Q
theorem pg_tup {es : List Expr} {k : Nat} {t : TGs} {n : Nat} (hc : X.calm = true) (h : PGs X es t)
    (hn : (assignEach es X.env).length = n := by rfl) (hst : (assignEach es X.env).findIdx? (·.1) = none := by rfl) : PG X (.Tuple es k pos) (gTup X.K n t) := by
  intro pins s σ H v u Q I r hw
  obtain ⟨a, xs, e1, hq, hl, hw⟩ := hw
  subst e1
  cases r
  obtain ⟨its, rv, ht, hz⟩ := I.tuple hq
  refine assign_Tuple_tuple (I.ok.hd hc) ht (by simp [hn, ← hl, rv.length]) hst fun h' hx => ?_
  have I1 : Inv X pins σ H { s with heap := h' } := I.kept (t' := s.toks) fun b o e => hx b o (Nat.ne_of_lt (Heap.lt_size e)) e
  exact h pins _ σ H xs _ Q I1 (by simpa using rv) hw
def gSub (to ti : TE) (t : TSet) : TG := fun v σ H Q => to σ H fun o H1 => ti σ H1 fun i H2 => t o i v H2 fun H3 => Q σ H3
theorem pg_sub {o i : Expr} {to ti : TE} {t : TSet} (ho : PE X o to) (hi : PE X i ti) (hs : PSet X t)
    (ha : ∀ v, assign (.Subscript o i pos) X.env v = (do
      let ov ← holding [v] (eval o X.env)
      let iv ← holding [v, ov] (eval i X.env)
      standAt pos
      holding [v, ov, iv] (setItem ov iv v)
      release [v, ov, iv] []) := by intro _; rfl) : PG X (.Subscript o i pos) (gSub to ti t) := by
  intro pins s σ H v u Q I r h
  rw [ha]
  refine wpAny_bind (wpAny_holding (thn (ho pins s σ H _ I h) fun ov s1 ⟨x, H1, I1, r1, q1⟩ => ?_))
  refine wpAny_bind (wpAny_holding (thn (hi pins s1 σ H1 _ I1 q1) fun iv s2 ⟨y, H2, I2, r2, q2⟩ => ?_))
  refine wpAny_bind (wpAny_standAt (wpAny_bind (wpAny_holding (thn (hs pins s2 σ H2 x y v ov iv u _ I2 r1 r2 r q2) fun _ s3 ⟨H3, I3, q3⟩ => ?_))))
  exact wpAny_release ⟨σ, H3, I3, q3⟩
def tAsg (te : TE) (g : TG) : TS := fun D σ H => te σ H fun x H1 => g x σ H1 D.nx
theorem ps_asg {tg e : Expr} {te : TE} {g : TG} (he : PE X e te) (hg : PG X tg g) (hs : swapsWithSole [tg] e pos.line X.env = pure false := by rfl) (hw : swappedStores [tg] e X.env = pure none := by rfl)
    (h1 : (assignEach [tg] X.env).map (·.2) = [assign tg X.env] := by rfl) : PS X (.Assign [tg] e pos) (tAsg te g) := by
  intro pins s σ H D I h
  refine wpAny_Assign_stores (thn (he pins s σ H _ I h) fun v s1 ⟨x, H1, I1, r1, q1⟩ => ?_) hs hw
  rw [h1]
  exact thn (hg pins s1 σ H1 x v _ I1 r1 q1) fun _ s2 q => q
theorem ps_set {i : Nat} {x : Str} {e : Expr} {te : TE} {pos' : Pos} (hN : X.N.Nodup) (hi : X.N[i]? = some x) (hx : Loc X.env.scope x) (he : PE X e te) (hs : swapsWith e (some (.Name x pos')) pos.line X.env = pure false := by rfl) (hf : X.fn x = true ∨ X.env.scope.names.lookup x = some .local := by first | exact .inl rfl | exact .inr rfl | assumption) :
    PS X (.Assign [.Name x pos'] e pos) (tAsg te (gName i)) := by
  intro pins s σ H D I h
  refine wpAny_Assign_Name (thn (he pins s σ H _ I h) fun v s1 ⟨y, H1, I1, r1, q1⟩ => ?_) hs
  exact store_ok I1 hN hi hx r1 (fun s2 I2 => ⟨_, H1, I2, q1⟩) hf
def tAugS (to ti te : TE) (tget : V → V → Hp → VK → Prop) (tip : TIp) (tset : TSet) : TS := fun D σ H => to σ H fun o H1 => ti σ H1 fun i H2 => tget o i H2 fun x H3 => te σ H3 fun y H4 => tip x y H4 fun z H5 => tset o i z H5 fun H6 => D.nx σ H6
def PGet (X : Cx) (t : V → V → Hp → VK → Prop) : Prop :=
  ∀ (pins : List (Addr × Obj)) (s : Shared) (σ : St) (H : Hp) (o i : V) (ov iv : Value) (Q : VK), Inv X pins σ H s → RelV o ov → RelV i iv → t o i H Q →
    wpAny (model X.prog X.w) X.A (getItem ov iv) (EP X pins σ Q) X.xe s
theorem ps_augS {o i e : Expr} {to ti te : TE} {tget : V → V → Hp → VK → Prop} {tip : TIp} {tset : TSet} {op : Operator} {tpos : Pos} (ho : PE X o to) (hi : PE X i ti) (hg : PGet X tget) (he : PE X e te) (hp : PIp X op tip) (hs : PSet X tset)
    (ha : ∀ ov iv new, augStore i ov iv new = (do holding [new, ov, iv] (setItem ov iv new); release [new, ov, iv] []; pure .next) := by intros; rfl) : PS X (.AugAssign (.Subscript o i tpos) op e pos) (tAugS to ti te tget tip tset) := by
  intro pins s σ H D I h
  refine wpAny_AugAssign_SubscriptAny (thn (ho pins s σ H _ I h) fun ov s1 ⟨x1, H1, I1, r1, q1⟩ => ?_) ha
  refine thn (hi pins s1 σ H1 _ I1 q1) fun iv s2 ⟨x2, H2, I2, r2, q2⟩ => ?_
  refine thn (hg pins s2 σ H2 x1 x2 ov iv _ I2 r1 r2 q2) fun old s3 ⟨x3, H3, I3, r3, q3⟩ => ?_
  refine thn (he pins s3 σ H3 _ I3 q3) fun v s4 ⟨x4, H4, I4, r4, q4⟩ => ?_
  refine thn (hp pins s4 σ H4 x3 x4 old v _ I4 r3 r4 q4) fun new s5 ⟨x5, H5, I5, r5, q5⟩ => ?_
  exact thn (hs pins s5 σ H5 x1 x2 x5 ov iv new _ I5 r1 r2 r5 q5) fun _ s6 ⟨H6, I6, q6⟩ => ⟨σ, H6, I6, q6⟩
def ipI (f : Int → Int → Int) : TIp := fun x y H Q => ∃ i j, x = .int i ∧ y = .int j ∧ Q (.int (f i j)) H
theorem ip_add : PIp X .Add (ipI fun i j => i + j) := by
  intro pins s σ H x y v u Q I r1 r2 h
  obtain ⟨i, j, e1, e2, q⟩ := h
  subst e1; subst e2
  obtain ⟨t, rfl⟩ := r1
  obtain ⟨t', rfl⟩ := r2
  exact iadd_int ⟨.int _, H, I.tok _, ⟨_, rfl⟩, q⟩
end

section
variable {X : Cx} {pos : Pos}
end

structure It where
  go : Nat → Hp → Prop
  yld : Nat → Hp → V → Hp → Prop
  stop : Nat → Hp → Prop
def FpOk (X : Cx) (pins : List (Addr × Obj)) (H : Hp) (b : Addr) : Prop :=
  H b = none ∧ b ≠ X.env.locals ∧ b ∉ X.fs ∧ (b ∈ X.ex ∨ X.s₀.heap.objs.size ≤ b) ∧ (∀ x c, X.env.cells.lookup x = some c → c ≠ b) ∧ ∀ p ∈ X.pn ++ pins, p.1 ≠ b
theorem Inv.fpOk {X : Cx} {pins : List (Addr × Obj)} {σ : St} {H H' : Hp} {s : Shared} {b : Addr} (I : Inv X pins σ H s) (hb : s.heap.objs.size ≤ b) (hn : H' b = none) : FpOk X pins H' b := by
  refine ⟨hn, Nat.ne_of_gt (Nat.lt_of_lt_of_le I.lt hb), I.nofs hb, .inr (Nat.le_trans I.sz hb), fun x c e z => ?_, fun p hp z => ?_⟩
  · obtain ⟨v, q⟩ := I.cell x c e
    exact absurd (Nat.lt_of_lt_of_le q.lt (by rw [z]; exact hb)) (Nat.lt_irrefl _)
  · exact absurd (Nat.lt_of_lt_of_le (Heap.lt_size (I.pin p hp).1) (by rw [z]; exact hb)) (Nat.lt_irrefl _)
structure Turn (P : Program) (w : World) (K : PySem.W.Frag) (tg : Expr) (J : It) (fp : List Addr) (it : Addr) (tn : Nat → Heap → Prop) : Prop where
  mem : it ∈ fp
  obj : ∀ i h, tn i h → ∀ b ∈ fp, ∃ o, h.get? b = some o ∧ ∀ v, o.data ≠ .cell v
  keep : ∀ i h h', tn i h → (∀ b ∈ fp, ∀ o, h.get? b = some o → h'.get? b = some o) → tn i h'
  item : ∀ (X : Cx), X.prog = P → X.w = w → X.K = K → X.calm = true → ∀ (i : Nat) (pins : List (Addr × Obj)) (s : Shared) (σ : St) (H : Hp) (E : Value → Shared → Prop), Inv X pins σ H s → (∀ b ∈ fp, FpOk X pins H b) → tn i s.heap → J.go i H →
    wpAny (model P w) X.A (pyNext (.ref it)) (fun r s1 => ∃ u, r = some u ∧
      wpAny (model P w) X.A (letOwnedTupleGo tg (.ref it) u) (fun _ s2 => ∃ x H', Inv X pins σ H' s2 ∧ RelV x u ∧ J.yld i H x H' ∧ tn (i + 1) s2.heap ∧ ∀ b ∈ fp, H' b = none) E s1) E s
  done : ∀ (X : Cx), X.prog = P → X.w = w → X.K = K → X.calm = true → ∀ (i : Nat) (pins : List (Addr × Obj)) (s : Shared) (σ : St) (H : Hp) (E : Value → Shared → Prop), Inv X pins σ H s → (∀ b ∈ fp, FpOk X pins H b) → tn i s.heap → J.stop i H →
    wpAny (model P w) X.A (pyNext (.ref it)) (fun r s1 => r = none ∧ Inv X pins σ H s1) E s
  self : ∀ (A : Around) (i : Nat) (s : Shared) (Q : Value → Shared → Prop) (E : Value → Shared → Prop), tn i s.heap → Q (.ref it) s → wpAny (model P w) A (pyIter (.ref it)) Q E s
abbrev TI := St → Hp → (It → Hp → Prop) → Prop
def PIE (X : Cx) (pins : List (Addr × Obj)) (σ : St) (tg : Expr) (R : It → Hp → Prop) (itv : Value) (s2 : Shared) : Prop :=
  ∃ (it : Addr) (fp : List Addr) (tn : Nat → Heap → Prop) (J : It) (H' : Hp), itv = .ref it ∧ Inv X pins σ H' s2 ∧ Turn X.prog X.w X.K tg J fp it tn ∧ tn 0 s2.heap ∧ (∀ b ∈ fp, FpOk X pins H' b) ∧ R J H'
def PI (X : Cx) (tg iter : Expr) (wi : TI) : Prop :=
  ∀ (pins : List (Addr × Obj)) (s : Shared) (σ : St) (H : Hp) (R : It → Hp → Prop), Inv X pins σ H s → wi σ H R →
    wpAny (model X.prog X.w) X.A (eval iter X.env) (fun v s1 => wpAny (model X.prog X.w) X.A (pyIter v) (PIE X pins σ tg R) X.xe s1) X.xe s

theorem go_of {M : Model} {A : Around} {E : Value → Shared → Prop} {s : Shared} {tg : Expr} {it : Addr} {u : Value} {o : Obj} {n : String} {vs : Array Value} {Q : Unit → Shared → Prop} (ho : s.heap.get? it = some o) (hc : o.cls = .type n) (hd : o.data = .fields vs)
    (hn : ["enumerate", "zip", "dict_itemiterator", "dict_reverseitemiterator", "odict_iterator", "itertools.zip_longest", "itertools.pairwise"].contains n = false) (hQ : Q () s) : wpAny M A (letOwnedTupleGo tg (.ref it) u) Q E s := by
  unfold letOwnedTupleGo
  cases tg <;> first
    | exact wpAny_pure hQ
    | (cases u <;> first
        | exact wpAny_pure hQ
        | (refine wpAny_bind (wpAny_load ho ?_)
           rw [hc, hd]
           show wpAny M A (if (["enumerate", "zip", "dict_itemiterator", "dict_reverseitemiterator", "odict_iterator", "itertools.zip_longest", "itertools.pairwise"].contains n && vs[0]? == some (rawInt _)) = true then _ else _) Q E s
           rw [if_neg (by intro h; rw [hn, Bool.false_and] at h; cases h)]
           exact wpAny_pure hQ))

def Itl (K : PySem.W.Frag) (a : Addr) : It :=
  ⟨fun i H => ∃ xs x, SqL K H a xs ∧ xs[i]? = some x, fun i H x H' => H' = H ∧ ∀ xs, SqL K H a xs → xs[i]? = some x, fun i H => ∃ xs, SqL K H a xs ∧ xs.length ≤ i⟩
def Itt (K : PySem.W.Frag) (a : Addr) : It :=
  ⟨fun i H => ∃ xs x, SqT K H a xs ∧ xs[i]? = some x, fun i H x H' => H' = H ∧ ∀ xs, SqT K H a xs → xs[i]? = some x, fun i H => ∃ xs, SqT K H a xs ∧ xs.length ≤ i⟩
def Itr (lo : Int) (n : Nat) : It := ⟨fun i _ => i < n, fun i H x H' => H' = H ∧ x = .int (lo + i), fun i _ => n ≤ i⟩
theorem turn_list {P : Program} {w : World} {K : PySem.W.Frag} {tg : Expr} (a it : Addr) : Turn P w K tg (Itl K a) [it] it (fun i h => h.IsListIter it a i) where
  mem := by simp
  obj := fun i h st b hb => by
    have e : b = it := by simpa using hb
    subst e
    obtain ⟨o, e, c, d⟩ := st
    exact ⟨o, e, fun v z => by rw [d] at z; cases z⟩
  keep := fun i h h' st k => st.at fun o e => k it (by simp) o e
  item := by
    intro X hP hw hK hc i pins s σ H E I hf st hg
    subst hP hw hK
    obtain ⟨xs, x, hq, hx⟩ := hg
    obtain ⟨its, rv, p, hz⟩ := I.list hq
    obtain ⟨u, hu, ru⟩ := rv.get hx
    obtain ⟨f0, f1, f2, f3, f4, f5⟩ := hf it (by simp)
    refine wpAny_pyNext_list_item st p.isList (x := u) (by simpa using hu) fun h' st' sb => ?_
    have I1 : Inv X pins σ H { s with heap := h' } := I.turned (t' := s.toks) (fun b o hb e => (sb.2 b hb).trans e) f0 f1 f3 f4 f5
    obtain ⟨o, e, c, d⟩ := id st'
    exact ⟨u, rfl, go_of (s := { s with heap := h' }) e c d (by decide) ⟨x, H, I1, ru, ⟨rfl, fun ys hy => by rw [I.list_inj hy hq]; exact hx⟩, st', fun b hb => (hf b hb).1⟩⟩
  done := by
    intro X hP hw hK hc i pins s σ H E I hf st hg
    subst hP hw hK
    obtain ⟨xs, hq, hx⟩ := hg
    obtain ⟨its, rv, p, hz⟩ := I.list hq
    obtain ⟨f0, f1, f2, f3, f4, f5⟩ := hf it (by simp)
    have hl := rv.length
    exact wpAny_pyNext_list_end (I.ok.hd hc) st p.isList (by simp; omega) fun h' eb => ⟨rfl, I.turned (t' := s.toks) (fun b o hb e => eb b o hb e) f0 f1 f3 f4 f5⟩
  self := fun _ _ _ _ _ st h => wpAny_pyIter_listiter st h
theorem turn_tuple {P : Program} {w : World} {K : PySem.W.Frag} {tg : Expr} (a it : Addr) : Turn P w K tg (Itt K a) [it] it (fun i h => h.IsTupleIter it a i) where
  mem := by simp
  obj := fun i h st b hb => by
    have e : b = it := by simpa using hb
    subst e
    obtain ⟨o, e, c, d⟩ := st
    exact ⟨o, e, fun v z => by rw [d] at z; cases z⟩
  keep := fun i h h' st k => st.at fun o e => k it (by simp) o e
  item := by
    intro X hP hw hK hc i pins s σ H E I hf st hg
    subst hP hw hK
    obtain ⟨xs, x, hq, hx⟩ := hg
    obtain ⟨its, rv, p, hz⟩ := I.tuple hq
    obtain ⟨u, hu, ru⟩ := rv.get hx
    obtain ⟨f0, f1, f2, f3, f4, f5⟩ := hf it (by simp)
    refine wpAny_pyNext_tuple_item st (show s.heap.IsTuple a its.toArray from p) (x := u) (by simpa using hu) fun h' st' sb => ?_
    have I1 : Inv X pins σ H { s with heap := h' } := I.turned (t' := s.toks) (fun b o hb e => (sb.2 b hb).trans e) f0 f1 f3 f4 f5
    obtain ⟨o, e, c, d⟩ := id st'
    exact ⟨u, rfl, go_of (s := { s with heap := h' }) e c d (by decide) ⟨x, H, I1, ru, ⟨rfl, fun ys hy => by rw [I.tuple_inj hy hq]; exact hx⟩, st', fun b hb => (hf b hb).1⟩⟩
  done := by
    intro X hP hw hK hc i pins s σ H E I hf st hg
    subst hP hw hK
    obtain ⟨xs, hq, hx⟩ := hg
    obtain ⟨its, rv, p, hz⟩ := I.tuple hq
    obtain ⟨f0, f1, f2, f3, f4, f5⟩ := hf it (by simp)
    have hl := rv.length
    exact wpAny_pyNext_tuple_end (I.ok.hd hc) st (show s.heap.IsTuple a its.toArray from p) (by simp; omega) fun h' eb => ⟨rfl, I.turned (t' := s.toks) (fun b o hb e => eb b o hb e) f0 f1 f3 f4 f5⟩
  self := fun _ _ _ _ _ st h => wpAny_pyIter_tupleiter st h
theorem turn_range {P : Program} {w : World} {K : PySem.W.Frag} {tg : Expr} (it : Addr) (lo : Int) (n : Nat) : Turn P w K tg (Itr lo n) [it] it (fun i h => IsRangeIter h it (lo + (i : Nat) * 1) ((n : Int) - (i : Nat)) 1) where
  mem := by simp
  obj := fun i h st b hb => by
    have e : b = it := by simpa using hb
    subst e
    exact ⟨_, st, fun v z => by
      have z' : Data.fields _ = Data.cell v := z
      cases z'⟩
  keep := fun i h h' st k => k it (by simp) _ st
  item := by
    intro X hP hw hK hc i pins s σ H E I hf st hg
    subst hP hw hK
    obtain ⟨f0, f1, f2, f3, f4, f5⟩ := hf it (by simp)
    have W := Walks.range (prog := X.prog) (w := X.w) (I.ok.hd hc) it lo 1 n
    refine W.item i s _ _ hg st fun v h' tk hv st' kk => ?_
    obtain ⟨t, rfl⟩ := hv
    have I1 : Inv X pins σ H { s with heap := h', toks := tk } := I.turned (fun b o hb e => kk b o (by simpa using hb) e) f0 f1 f3 f4 f5
    refine ⟨_, rfl, go_of (s := { s with heap := h', toks := tk }) (n := "range_iterator") st' rfl rfl (by decide) ⟨.int (lo + i), H, I1, ⟨t, ?_⟩, ⟨rfl, rfl⟩, st', fun b hb => (hf b hb).1⟩⟩
    rw [Int.mul_one]
  done := by
    intro X hP hw hK hc i pins s σ H E I hf st hg
    subst hP hw hK
    obtain ⟨f0, f1, f2, f3, f4, f5⟩ := hf it (by simp)
    exact wpAny_pyNext_range_end (I.ok.hd hc) st (by have : n ≤ i := hg; omega) fun h' eb => ⟨rfl, I.turned (t' := s.toks) (fun b o hb e => eb b o hb e) f0 f1 f3 f4 f5⟩
  self := fun _ _ _ _ _ st h => wpAny_pyIter_rangeiter st h
end L2

namespace L2
open PySem PySem.Spec PyProof.Rows
section
variable {X : Cx} {tg : Expr}
def iList (K : PySem.W.Frag) (tl : TE) : TI := fun σ H R => tl σ H fun x H1 => ∃ a, x = .ref a ∧ (∃ xs, SqL K H1 a xs) ∧ R (Itl K a) H1
def iTup (K : PySem.W.Frag) (tl : TE) : TI := fun σ H R => tl σ H fun x H1 => ∃ a, x = .ref a ∧ (∃ xs, SqT K H1 a xs) ∧ R (Itt K a) H1
theorem pi_list {l : Expr} {tl : TE} (hl : PE X l tl) : PI X tg l (iList X.K tl) := by
  intro pins s σ H R I h
  refine thn (hl pins s σ H _ I h) fun v s1 ⟨x, H1, I1, r1, q1⟩ => ?_
  obtain ⟨a, e, ⟨xs, hq⟩, q⟩ := q1
  subst e
  cases r1
  obtain ⟨its, rv, p, hz⟩ := I1.list hq
  refine wpAny_pyIter_list p.isList ?_
  refine ⟨s1.heap.objs.size, [s1.heap.objs.size], _, _, H1, rfl, I1.kept (t' := s1.toks) fun b o e => Heap.get?_push_of_some _ e, turn_list a _, ⟨_, Heap.get?_push_size _ rfl, rfl, rfl⟩, fun b hb => ?_, q⟩
  have e : b = s1.heap.objs.size := by simpa using hb
  subst e
  exact I1.fpOk (Nat.le_refl _) (I1.hok.fresh (Nat.le_refl _))
theorem pi_tup {l : Expr} {tl : TE} (hl : PE X l tl) : PI X tg l (iTup X.K tl) := by
  intro pins s σ H R I h
  refine thn (hl pins s σ H _ I h) fun v s1 ⟨x, H1, I1, r1, q1⟩ => ?_
  obtain ⟨a, e, ⟨xs, hq⟩, q⟩ := q1
  subst e
  cases r1
  obtain ⟨its, rv, p, hz⟩ := I1.tuple hq
  refine wpAny_pyIter_tuple (show s1.heap.IsTuple a its.toArray from p) ?_
  refine ⟨s1.heap.objs.size, [s1.heap.objs.size], _, _, H1, rfl, I1.kept (t' := s1.toks) fun b o e => Heap.get?_push_of_some _ e, turn_tuple a _, ⟨_, Heap.get?_push_size _ rfl, rfl, rfl⟩, fun b hb => ?_, q⟩
  have e : b = s1.heap.objs.size := by simpa using hb
  subst e
  exact I1.fpOk (Nat.le_refl _) (I1.hok.fresh (Nat.le_refl _))
theorem range_it {pins : List (Addr × Obj)} {σ : St} {H : Hp} {s : Shared} {R : It → Hp → Prop} {E : Value → Shared → Prop} {lo hi : Int} {t u v : Tok} {tk : Nat} (I : Inv X pins σ H s) (h1 : -(2 ^ 62) ≤ lo) (h2 : lo < 2 ^ 62) (h3 : -(2 ^ 62) ≤ hi) (h4 : hi < 2 ^ 62)
    (q : R (Itr lo (hi - lo).toNat) H) : wpAny (model X.prog X.w) X.A (pyIter (.ref s.heap.objs.size)) (PIE X pins σ tg R) E { s with heap := s.heap.push { cls := .type "range", data := .fields #[.int lo t, .int hi u, .int 1 v] }, toks := tk } := by
  refine wpAny_pyIter_range (IsRange.new ..) (small_one h1 h2 h3 h4) ?_
  have I1 : Inv X pins σ H { s with heap := s.heap.push { cls := .type "range", data := .fields #[.int lo t, .int hi u, .int 1 v] }, toks := tk } := I.kept fun b o e => Heap.get?_push_of_some _ e
  refine ⟨(s.heap.push { cls := .type "range", data := .fields #[.int lo t, .int hi u, .int 1 v] }).objs.size, [(s.heap.push { cls := .type "range", data := .fields #[.int lo t, .int hi u, .int 1 v] }).objs.size], _, _, H, rfl,
    I1.kept (t' := tk) fun b o e => Heap.get?_push_of_some _ e, turn_range _ lo (hi - lo).toNat, ?_, fun b hb => ?_, q⟩
  · have e1 : lo + ((0 : Nat) : Int) * 1 = lo := by simp
    have e2 : (((hi - lo).toNat : Nat) : Int) - ((0 : Nat) : Int) = Builtin.Range.rangeSize lo hi 1 := by rw [rangeSize_one]; split <;> omega
    show IsRangeIter _ _ (lo + ((0 : Nat) : Int) * 1) ((((hi - lo).toNat : Nat) : Int) - ((0 : Nat) : Int)) 1
    rw [e1, e2]
    exact Heap.get?_push_size _ rfl
  · have e : b = (s.heap.push { cls := .type "range", data := .fields #[.int lo t, .int hi u, .int 1 v] }).objs.size := by simpa using hb
    subst e
    exact I1.fpOk (Nat.le_refl _) (I1.hok.fresh (Nat.le_refl _))
def iRng1 (ta : TA) : TI := fun σ H R => ta σ H fun vs H1 => ∃ j : Int, vs = [.int j] ∧ -(2 ^ 62) ≤ j ∧ j < 2 ^ 62 ∧ R (Itr 0 j.toNat) H1
def iRng2 (ta : TA) : TI := fun σ H R => ta σ H fun vs H1 => ∃ i j : Int, vs = [.int i, .int j] ∧ (-(2 ^ 62) ≤ i ∧ i < 2 ^ 62 ∧ -(2 ^ 62) ≤ j ∧ j < 2 ^ 62) ∧ R (Itr i (j - i).toNat) H1
theorem pi_range1 {a : Expr} {ta : TA} {p pos : Pos} (hg : Gl X "range") (hm : X.mg "range" = none) (ha : PA X [a] ta) (hs : starEach [a] X.env = [(false, eval a X.env)] := by rfl) : PI X tg (.Call (.Name "range" p) [a] [] pos) (iRng1 ta) := by
  intro pins s σ H R I h
  refine Call_ (ld_blt I hg hm boot_range (PyProof.Rows.callWith_type1 (thn (ha pos pins s σ H _ I h) fun us s1 ⟨vs, H1, I1, r1, q1⟩ => ?_) hs rfl))
  obtain ⟨j, e, q1, q2, q⟩ := q1
  subst e
  cases r1 with
  | cons r rr =>
    cases rr
    obtain ⟨t, rfl⟩ := r
    exact call_range_1 (range_it I1 (by omega) (by omega) q1 q2 (by simpa using q))
theorem pi_range2 {a b : Expr} {ta : TA} {p pos : Pos} (hg : Gl X "range") (hm : X.mg "range" = none) (ha : PA X [a, b] ta) (hs : starEach [a, b] X.env = [(false, eval a X.env), (false, eval b X.env)] := by rfl) (hs2 : starEach [b] X.env = [(false, eval b X.env)] := by rfl) :
    PI X tg (.Call (.Name "range" p) [a, b] [] pos) (iRng2 ta) := by
  intro pins s σ H R I h
  refine Call_ (ld_blt I hg hm boot_range (PyProof.Rows.callWith_type1 (thn (ha pos pins s σ H _ I h) fun us s1 ⟨vs, H1, I1, r1, q1⟩ => ?_) (by rw [hs, hs2]) (by rw [hs2]; rfl)))
  obtain ⟨i, j, e, ⟨q1, q2, q3, q4⟩, q⟩ := q1
  subst e
  cases r1 with
  | cons r rr =>
    cases rr with
    | cons r' rr =>
      cases rr
      obtain ⟨t, rfl⟩ := r
      obtain ⟨t', rfl⟩ := r'
      exact call_range_2 (range_it I1 q1 q2 q3 q4 q)

def tFor (wi : TI) (g : TG) (tb : TS) : TS := fun D σ H => wi σ H fun J H1 => ∃ W : Nat → Nat → St → Hp → Prop, (∃ m, W 0 m σ H1) ∧ ∀ i m σ H, W i m σ H →
  (J.stop i H ∧ D.nx σ H) ∨ (J.go i H ∧ ∃ N : St → Hp → Prop, (∀ σ' H', N σ' H' → ∃ m', m' < m ∧ W (i + 1) m' σ' H') ∧ ∀ x H', J.yld i H x H' → g x σ H' fun σ2 H2 => tb { D with nx := N, ct := N, bk := D.nx } σ2 H2)
def pinsAt (fp : List Addr) (h : Heap) : List (Addr × Obj) := fp.filterMap fun b => (h.get? b).map fun o => (b, o)
theorem mem_pinsAt {fp : List Addr} {h : Heap} {b : Addr} {o : Obj} (hb : b ∈ fp) (e : h.get? b = some o) : (b, o) ∈ pinsAt fp h := List.mem_filterMap.mpr ⟨b, hb, by rw [e]; rfl⟩
theorem of_pinsAt {fp : List Addr} {h : Heap} {p : Addr × Obj} (hp : p ∈ pinsAt fp h) : p.1 ∈ fp ∧ h.get? p.1 = some p.2 := by
  obtain ⟨b, hb, e⟩ := List.mem_filterMap.mp hp
  cases q : h.get? b with
  | none => rw [q] at e; cases e
  | some o =>
    rw [q] at e
    have e' : (b, o) = p := Option.some.inj e
    subst e'
    exact ⟨hb, q⟩
theorem Inv.pinned {pins : List (Addr × Obj)} {σ : St} {H : Hp} {s : Shared} {fp : List Addr} (I : Inv X pins σ H s) (hf : ∀ b ∈ fp, FpOk X pins H b) (ho : ∀ b ∈ fp, ∃ o, s.heap.get? b = some o ∧ ∀ v, o.data ≠ .cell v) : Inv X (pins ++ pinsAt fp s.heap) σ H s :=
  I.pins_of fun p hp => (List.mem_append.mp hp).elim (fun z => I.pin p (List.mem_append_right _ z)) fun z => by
    obtain ⟨hb, e⟩ := of_pinsAt z
    obtain ⟨f0, f1, f2, _⟩ := hf p.1 hb
    obtain ⟨o, e', d⟩ := ho p.1 hb
    rw [e] at e'; cases e'
    exact ⟨e, f0, f1, f2, d⟩
theorem Inv.unpinned {pins pl : List (Addr × Obj)} {σ : St} {H : Hp} {s : Shared} (I : Inv X (pins ++ pl) σ H s) : Inv X pins σ H s := I.pins_of fun p hp => I.pin p (List.mem_append_right _ (List.mem_append_left _ hp))
theorem ps_for {iter : Expr} {body : List Stmt} {wi : TI} {g : TG} {tb : TS} {pos : Pos} (hp : PassesOwn (model X.prog X.w) X.A X.env X.xe) (hc : X.calm = true) (hi : PI X tg iter wi) (hg : PG X tg g) (hb : PSs X body tb)
    (hs : ∀ x, foldedSetIterable iter X.env x = pure x := by intro _; rfl) : PS X (.For tg iter body [] pos) (tFor wi g tb) := by
  intro pins s σ H D I h
  refine wpAny_For (thn (hi pins s σ H _ I h) fun v s1 h1 => thn h1 fun itv s2 h2 => ?_) hs
  obtain ⟨it, fp, tn, J, H2, e, I2, T, st2, f2, W, ⟨m0, w0⟩, turn⟩ := h2
  subst e
  -- what stays true of the iterator's objects through the loop
  have stat : ∀ {H' : Hp}, (∀ b ∈ fp, H' b = none) → ∀ b ∈ fp, FpOk X pins H' b := fun hn b hb => ⟨hn b hb, (f2 b hb).2⟩
  refine codeAny_forLoop_any (fun n s' => ∃ i σ' H', Inv X pins σ' H' s' ∧ tn i s'.heap ∧ (∀ b ∈ fp, H' b = none) ∧ W i n σ' H') ?_ m0 ⟨0, σ, H2, I2, st2, fun b hb => (f2 b hb).1, w0⟩
  rintro n s3 ⟨i, σ3, H3, I3, st3, fr3, w3⟩
  rcases turn i n σ3 H3 w3 with ⟨stop, qn⟩ | ⟨go, N, hN, step⟩
  · refine wpAny_passesOwn hp (thn (T.done X rfl rfl rfl hc i pins s3 σ3 H3 X.xe I3 (stat fr3) st3 stop) fun r s4 ⟨hr, I4⟩ => ?_)
    subst hr
    exact wpAny_execs_nil ⟨σ3, H3, I4, qn⟩
  · refine wpAny_passesOwn hp (thn (T.item X rfl rfl rfl hc i pins s3 σ3 H3 X.xe I3 (stat fr3) st3 go) fun r s4 ⟨u, hr, h4⟩ => ?_)
    subst hr
    refine wpAny_passesOwn hp (thn h4 fun _ s5 ⟨x, H5, I5, r5, y5, st5, fr5⟩ => ?_)
    have I5' := I5.pinned (stat fr5) (T.obj _ _ st5)
    refine wpAny_passesOwn hp (thn (hg _ s5 σ3 H5 x u _ I5' r5 (step x H5 y5)) fun _ s6 ⟨σ6, H6, I6, q6⟩ => ?_)
    refine wpAny_passesOwn hp (thn (hb _ s6 σ6 H6 _ I6 q6) fun f s7 q7 => ?_)
    have again : ∀ {σ7 : St} {H7 : Hp}, Inv X (pins ++ pinsAt fp s5.heap) σ7 H7 s7 → N σ7 H7 → ∃ m, m < n ∧ ∃ i σ' H', Inv X pins σ' H' s7 ∧ tn i s7.heap ∧ (∀ b ∈ fp, H' b = none) ∧ W i m σ' H' := fun {σ7 H7} I7 n7 => by
      obtain ⟨m', hm, w7⟩ := hN σ7 H7 n7
      refine ⟨m', hm, i + 1, σ7, H7, I7.unpinned, T.keep _ _ _ st5 fun b hb o e => (I7.pin (b, o) (List.mem_append_right _ (List.mem_append_right _ (mem_pinsAt hb e)))).1, fun b hb => ?_, w7⟩
      obtain ⟨o, e, d⟩ := T.obj _ _ st5 b hb
      exact (I7.pin (b, o) (List.mem_append_right _ (List.mem_append_right _ (mem_pinsAt hb e)))).2.1
    cases f with
    | next => obtain ⟨σ7, H7, I7, n7⟩ := q7; exact again I7 n7
    | cont => obtain ⟨σ7, H7, I7, n7⟩ := q7; exact again I7 n7
    | brk => obtain ⟨σ7, H7, I7, q7⟩ := q7; exact ⟨σ7, H7, I7.unpinned, q7⟩
    | ret v => obtain ⟨x7, σ7, H7, I7, r7, q7⟩ := q7; exact ⟨x7, σ7, H7, I7.unpinned, r7, q7⟩
end

theorem for_list {K : PySem.W.Frag} {a : Addr} {xs : List V} {g : TG} {tb : TS} {D : Ends} {σ : St} {H : Hp} (Pv : Nat → St → Hp → Prop) (h0 : Pv 0 σ H) (hl : ∀ i σ H, i ≤ xs.length → Pv i σ H → SqL K H a xs)
    (hs : ∀ i x σ H, xs[i]? = some x → Pv i σ H → g x σ H fun σ2 H2 => tb { D with nx := Pv (i + 1), ct := Pv (i + 1), bk := D.nx } σ2 H2) (hd : ∀ σ H, Pv xs.length σ H → D.nx σ H) :
    ∃ W : Nat → Nat → St → Hp → Prop, (∃ m, W 0 m σ H) ∧ ∀ i m σ H, W i m σ H →
      ((Itl K a).stop i H ∧ D.nx σ H) ∨ ((Itl K a).go i H ∧ ∃ N : St → Hp → Prop, (∀ σ' H', N σ' H' → ∃ m', m' < m ∧ W (i + 1) m' σ' H') ∧ ∀ x H', (Itl K a).yld i H x H' → g x σ H' fun σ2 H2 => tb { D with nx := N, ct := N, bk := D.nx } σ2 H2) := by
  refine ⟨fun i m σ H => m = xs.length - i ∧ i ≤ xs.length ∧ Pv i σ H, ⟨xs.length, by simp, Nat.zero_le _, h0⟩, ?_⟩
  rintro i m σ H ⟨rfl, hi, p⟩
  have q := hl i σ H hi p
  by_cases hlt : i < xs.length
  · refine .inr ⟨⟨xs, xs[i], q, by simp [hlt]⟩, Pv (i + 1), fun σ' H' p' => ⟨xs.length - (i + 1), by omega, rfl, hlt, p'⟩, fun x H' y => ?_⟩
    obtain ⟨e, y⟩ := y
    subst e
    exact hs i x σ _ (y xs q) p
  · have e : i = xs.length := by omega
    subst e
    exact .inl ⟨⟨xs, q, Nat.le_refl _⟩, hd σ H p⟩
theorem for_tup {K : PySem.W.Frag} {a : Addr} {xs : List V} {g : TG} {tb : TS} {D : Ends} {σ : St} {H : Hp} (Pv : Nat → St → Hp → Prop) (h0 : Pv 0 σ H) (hl : ∀ i σ H, i ≤ xs.length → Pv i σ H → SqT K H a xs)
    (hs : ∀ i x σ H, xs[i]? = some x → Pv i σ H → g x σ H fun σ2 H2 => tb { D with nx := Pv (i + 1), ct := Pv (i + 1), bk := D.nx } σ2 H2) (hd : ∀ σ H, Pv xs.length σ H → D.nx σ H) :
    ∃ W : Nat → Nat → St → Hp → Prop, (∃ m, W 0 m σ H) ∧ ∀ i m σ H, W i m σ H →
      ((Itt K a).stop i H ∧ D.nx σ H) ∨ ((Itt K a).go i H ∧ ∃ N : St → Hp → Prop, (∀ σ' H', N σ' H' → ∃ m', m' < m ∧ W (i + 1) m' σ' H') ∧ ∀ x H', (Itt K a).yld i H x H' → g x σ H' fun σ2 H2 => tb { D with nx := N, ct := N, bk := D.nx } σ2 H2) := by
  refine ⟨fun i m σ H => m = xs.length - i ∧ i ≤ xs.length ∧ Pv i σ H, ⟨xs.length, by simp, Nat.zero_le _, h0⟩, ?_⟩
  rintro i m σ H ⟨rfl, hi, p⟩
  have q := hl i σ H hi p
  by_cases hlt : i < xs.length
  · refine .inr ⟨⟨xs, xs[i], q, by simp [hlt]⟩, Pv (i + 1), fun σ' H' p' => ⟨xs.length - (i + 1), by omega, rfl, hlt, p'⟩, fun x H' y => ?_⟩
    obtain ⟨e, y⟩ := y
    subst e
    exact hs i x σ _ (y xs q) p
  · have e : i = xs.length := by omega
    subst e
    exact .inl ⟨⟨xs, q, Nat.le_refl _⟩, hd σ H p⟩
theorem for_range {lo : Int} {n : Nat} {g : TG} {tb : TS} {D : Ends} {σ : St} {H : Hp} (Pv : Nat → St → Hp → Prop) (h0 : Pv 0 σ H)
    (hs : ∀ i σ H, i < n → Pv i σ H → g (.int (lo + i)) σ H fun σ2 H2 => tb { D with nx := Pv (i + 1), ct := Pv (i + 1), bk := D.nx } σ2 H2) (hd : ∀ σ H, Pv n σ H → D.nx σ H) :
    ∃ W : Nat → Nat → St → Hp → Prop, (∃ m, W 0 m σ H) ∧ ∀ i m σ H, W i m σ H →
      ((Itr lo n).stop i H ∧ D.nx σ H) ∨ ((Itr lo n).go i H ∧ ∃ N : St → Hp → Prop, (∀ σ' H', N σ' H' → ∃ m', m' < m ∧ W (i + 1) m' σ' H') ∧ ∀ x H', (Itr lo n).yld i H x H' → g x σ H' fun σ2 H2 => tb { D with nx := N, ct := N, bk := D.nx } σ2 H2) := by
  refine ⟨fun i m σ H => m = n - i ∧ i ≤ n ∧ Pv i σ H, ⟨n, by simp, Nat.zero_le _, h0⟩, ?_⟩
  rintro i m σ H ⟨rfl, hi, p⟩
  by_cases hlt : i < n
  · refine .inr ⟨hlt, Pv (i + 1), fun σ' H' p' => ⟨n - (i + 1), by omega, rfl, hlt, p'⟩, fun x H' y => ?_⟩
    obtain ⟨e, y⟩ := y
    subst e y
    exact hs i σ _ hlt p
  · have e : i = n := by omega
    subst e
    exact .inl ⟨Nat.le_refl _, hd σ H p⟩
end L2

namespace L2
open PySem PySem.Spec PyProof.Rows

abbrev R2 := V → V → Hp → VK → Prop
def OpR (X : Cx) (f : Value → Value → Sem Value) (r : R2) : Prop :=
  ∀ (pins : List (Addr × Obj)) (s : Shared) (σ : St) (H : Hp) (x y : V) (v u : Value) (Q : VK), Inv X pins σ H s → RelV x v → RelV y u → r x y H Q →
    wpAny (model X.prog X.w) X.A (f v u) (EP X pins σ Q) X.xe s
def UnR (X : Cx) (f : Value → Sem Value) (r : V → Hp → VK → Prop) : Prop :=
  ∀ (pins : List (Addr × Obj)) (s : Shared) (σ : St) (H : Hp) (x : V) (v : Value) (Q : VK), Inv X pins σ H s → RelV x v → r x H Q →
    wpAny (model X.prog X.w) X.A (f v) (EP X pins σ Q) X.xe s
def CallR (X : Cx) (f : Value) (r : List V → Hp → VK → Prop) : Prop :=
  ∀ (pins : List (Addr × Obj)) (s : Shared) (σ : St) (H : Hp) (xs : List V) (us : List Value) (Q : VK), Inv X pins σ H s → Vals xs us → r xs H Q →
    wpAny (model X.prog X.w) X.A (call f us) (EP X pins σ Q) X.xe s
def tOp (r : R2) (ta tb : TE) : TE := fun σ H Q => ta σ H fun x H1 => tb σ H1 fun y H2 => r x y H2 Q
def tUn (r : V → Hp → VK → Prop) (ta : TE) : TE := fun σ H Q => ta σ H fun x H1 => r x H1 Q
def rI (C : Int → Int → Prop) (g : Int → Int → V) : R2 := fun x y H Q => ∃ i j, x = .int i ∧ y = .int j ∧ C i j ∧ Q (g i j) H
def rI0 (g : Int → Int → V) : R2 := fun x y H Q => ∃ i j, x = .int i ∧ y = .int j ∧ Q (g i j) H
def rU (g : Int → V) : V → Hp → VK → Prop := fun x H Q => ∃ i, x = .int i ∧ Q (g i) H

section
variable {X : Cx} {a b c : Expr} {ta tb tc : TE} {pos : Pos}

theorem binT (ha : PE X a ta) (hb : PE X b tb) {pins : List (Addr × Obj)} {s : Shared} {σ : St} {H : Hp} {R : V → V → Hp → Prop} (I : Inv X pins σ H s)
    (h : ta σ H fun x H1 => tb σ H1 fun y H2 => R x y H2) {Q : Value → Shared → Prop} {f : Value → Value → Sem Value}
    (hf : ∀ v u s2 x y H2, Inv X pins σ H2 s2 → RelV x v → RelV y u → R x y H2 → wpAny (model X.prog X.w) X.A (f v u) Q X.xe s2) :
    wpAny (model X.prog X.w) X.A (eval a X.env) (fun v s₁ => wpAny (model X.prog X.w) X.A (eval b X.env) (fun u s₂ => wpAny (model X.prog X.w) X.A (f v u) Q X.xe s₂) X.xe s₁) X.xe s := by
  refine thn (ha pins s σ H _ I h) fun v s1 ⟨x, H1, I1, r1, q1⟩ => ?_
  refine thn (hb pins s1 σ H1 _ I1 q1) fun u s2 ⟨y, H2, I2, r2, q2⟩ => ?_
  exact hf v u s2 x y H2 I2 r1 r2 q2

theorem pe_op {op : Operator} {r : R2} (ho : OpR X (binaryOp op) r) (ha : PE X a ta) (hb : PE X b tb) : PE X (.BinOp a op b pos) (tOp r ta tb) := by
  intro pins s σ H Q I h
  exact wpAny_BinOp (binT ha hb I h fun v u s2 x y H2 I2 rx ry q => ho pins s2 σ H2 x y v u Q I2 rx ry q)
theorem pe_un {op : UnaryOp} {r : V → Hp → VK → Prop} (ho : UnR X (unaryOp op) r) (ha : PE X a ta) : PE X (.UnaryOp op a pos) (tUn r ta) := by
  intro pins s σ H Q I h
  exact UnaryOp_ (thn (ha pins s σ H _ I h) fun v s1 ⟨x, H1, I1, r1, q1⟩ => ho pins s1 σ H1 x v Q I1 r1 q1)
theorem opI {f : Value → Value → Sem Value} {C : Int → Int → Prop} {g : Int → Int → Int}
    (rule : ∀ (i j : Int) (t u : Tok) (s : Shared) (Q : Value → Shared → Prop) (E : Value → Shared → Prop), C i j → Q (.int (g i j) s.toks) { s with toks := s.toks + 1 } → wpAny (model X.prog X.w) X.A (f (.int i t) (.int j u)) Q E s) :
    OpR X f (rI C fun i j => .int (g i j)) := by
  intro pins s σ H x y v u Q I rx ry h
  obtain ⟨i, j, rfl, rfl, hc, q⟩ := h
  obtain ⟨t, rfl⟩ := rx
  obtain ⟨t', rfl⟩ := ry
  exact rule i j t t' s _ _ hc ⟨.int (g i j), H, I.tok _, ⟨_, rfl⟩, q⟩
theorem opI0 {f : Value → Value → Sem Value} {g : Int → Int → Int}
    (rule : ∀ (i j : Int) (t u : Tok) (s : Shared) (Q : Value → Shared → Prop) (E : Value → Shared → Prop), Q (.int (g i j) s.toks) { s with toks := s.toks + 1 } → wpAny (model X.prog X.w) X.A (f (.int i t) (.int j u)) Q E s) :
    OpR X f (rI0 fun i j => .int (g i j)) := by
  intro pins s σ H x y v u Q I rx ry h
  obtain ⟨i, j, rfl, rfl, q⟩ := h
  obtain ⟨t, rfl⟩ := rx
  obtain ⟨t', rfl⟩ := ry
  exact rule i j t t' s _ _ ⟨.int (g i j), H, I.tok _, ⟨_, rfl⟩, q⟩
theorem opB0 {f : Value → Value → Sem Value} {g : Int → Int → Bool}
    (rule : ∀ (i j : Int) (t u : Tok) (s : Shared) (Q : Value → Shared → Prop) (E : Value → Shared → Prop), Q (.bool (g i j)) s → wpAny (model X.prog X.w) X.A (f (.int i t) (.int j u)) Q E s) :
    OpR X f (rI0 fun i j => .bl (g i j)) := by
  intro pins s σ H x y v u Q I rx ry h
  obtain ⟨i, j, rfl, rfl, q⟩ := h
  obtain ⟨t, rfl⟩ := rx
  obtain ⟨t', rfl⟩ := ry
  exact rule i j t t' s _ _ ⟨.bl (g i j), H, I, rfl, q⟩

def CDiv (i j : Int) : Prop := 0 < j ∧ j < 1073741824
def CPow (i j : Int) : Prop := 0 ≤ j ∧ j ≤ 1000000 ∧ i.natAbs < 2 ^ 64
def CMul (i j : Int) : Prop := (-(2 ^ 64) < i ∧ i < 2 ^ 64) ∨ (-(2 ^ 64) < j ∧ j < 2 ^ 64)
theorem CMul.ok {i j : Int} (h : CMul i j) : IntMulOk i j := by
  rcases h with ⟨h1, h2⟩ | ⟨h1, h2⟩
  · exact .of_left (intBits_le_64 h1 h2)
  · exact .of_right (intBits_le_64 h1 h2)
theorem op_add : OpR X (binaryOp .Add) (rI0 fun i j => .int (i + j)) := opI0 fun _ _ _ _ _ _ _ q => add_int q
theorem op_sub : OpR X (binaryOp .Sub) (rI0 fun i j => .int (i - j)) := opI0 fun _ _ _ _ _ _ _ q => sub_int q
theorem op_mul : OpR X (binaryOp .Mult) (rI CMul fun i j => .int (i * j)) := opI fun _ _ _ _ _ _ _ hc q => mul_int q hc.ok
theorem op_fdiv : OpR X (binaryOp .FloorDiv) (rI CDiv fun i j => .int (i / j)) := opI fun i j _ _ _ _ _ hc q => by
  have h1 : (0 : Int) < j := hc.1
  have h2 : j < 1073741824 := hc.2
  exact floordiv_int (by omega) (by rw [Int.fdiv_eq_ediv_of_nonneg i (by omega)]; exact q) (.inl (PyProof.noPylong_small (by omega)))
theorem op_mod : OpR X (binaryOp .Mod) (rI (fun _ j => 0 < j) fun i j => .int (i % j)) := opI fun i j _ _ _ _ _ hc q => by
  have h1 : (0 : Int) < j := hc
  exact mod_int' (by omega) (by rw [Int.fmod_eq_emod_of_nonneg i (by omega)]; exact q)
theorem op_pow : OpR X (binaryOp .Pow) (rI CPow fun i j => .int (i ^ j.toNat)) := opI fun _ _ _ _ _ _ _ hc q => pow_int_small hc.1 hc.2.1 hc.2.2 q
theorem unI {f : Value → Sem Value} {g : Int → Int}
    (rule : ∀ (i : Int) (t : Tok) (s : Shared) (Q : Value → Shared → Prop) (E : Value → Shared → Prop), Q (.int (g i) s.toks) { s with toks := s.toks + 1 } → wpAny (model X.prog X.w) X.A (f (.int i t)) Q E s) :
    UnR X f (rU fun i => .int (g i)) := by
  intro pins s σ H x v Q I rx h
  obtain ⟨i, rfl, q⟩ := h
  obtain ⟨t, rfl⟩ := rx
  exact rule i t s _ _ ⟨.int (g i), H, I.tok _, ⟨_, rfl⟩, q⟩
theorem un_neg : UnR X (unaryOp .USub) (rU fun i => .int (-i)) := unI fun _ _ _ _ _ q => neg_int q
end

def scal : V → V → Bool
  | .non, .non => true | .non, .int _ => true | .int _, .non => true | .non, .bl _ => true | .bl _, .non => true | .non, .str _ => true | .str _, .non => true
  | .int _, .int _ => true | .bl _, .bl _ => true | .str _, .str _ => true | .byt _, .byt _ => true
  | .int _, .str _ => true | .str _, .int _ => true | .bl _, .str _ => true | .str _, .bl _ => true
  | _, _ => false
def rEq : R2 := fun x y H Q => scal x y = true ∧ Q (.bl (decide (x = y))) H
def rNe : R2 := fun x y H Q => scal x y = true ∧ Q (.bl (!decide (x = y))) H

theorem dec_int {i j : Int} : decide (V.int i = V.int j) = (i == j) := by
  rw [Bool.eq_iff_iff]
  simp
theorem dec_bl {i j : Bool} : decide (V.bl i = V.bl j) = (i == j) := by
  rw [Bool.eq_iff_iff]
  simp
theorem dec_str {i j : Str} : decide (V.str i = V.str j) = (i == j) := by
  rw [Bool.eq_iff_iff]
  simp
theorem dec_byt {i j : Array UInt8} : decide (V.byt i = V.byt j) = (i.toList == j.toList) := by
  rw [Bool.eq_iff_iff]
  cases i
  cases j
  simp

section
variable {X : Cx} {a b c : Expr} {ta tb tc : TE} {pos : Pos}
theorem fin_bl {pins : List (Addr × Obj)} {σ : St} {H : Hp} {s : Shared} {Q : VK} {k k' : Bool} (I : Inv X pins σ H s) (q : Q (.bl k) H) (e : k = k') : EP X pins σ Q (.bool k') s := by
  subst e
  exact ⟨.bl k, H, I, rfl, q⟩
theorem op_eq : OpR X (compareOp .Eq) rEq := by
  intro pins s σ H x y v u Q I rx ry h
  obtain ⟨hs, q⟩ := h
  cases x with
  | non =>
    cases rx
    cases y with
    | non => cases ry; exact PySem.EqNone.eq_none_none (fin_bl I q (by simp))
    | bl j => cases ry; exact PySem.EqNone.eq_none_bool (fin_bl I q (by simp))
    | int j => obtain ⟨t', rfl⟩ := ry; exact PySem.EqNone.eq_none_int (fin_bl I q (by simp))
    | str j => obtain ⟨t', rfl⟩ := ry; exact PySem.EqNone.eq_none_str (fin_bl I q (by simp))
    | _ => exact absurd (show false = true from hs) Bool.false_ne_true
  | bl i =>
    cases rx
    cases y with
    | non => cases ry; exact PySem.EqNone.eq_bool_none (fin_bl I q (by simp))
    | bl j => cases ry; exact eq_bool (fin_bl I q dec_bl)
    | str j => obtain ⟨t', rfl⟩ := ry; exact PySem.EqMixed.eq_bool_str (fin_bl I q (by simp))
    | _ => exact absurd (show false = true from hs) Bool.false_ne_true
  | int i =>
    obtain ⟨t, rfl⟩ := rx
    cases y with
    | non => cases ry; exact PySem.EqNone.eq_int_none (fin_bl I q (by simp))
    | int j => obtain ⟨t', rfl⟩ := ry; exact eq_int (fin_bl I q dec_int)
    | str j => obtain ⟨t', rfl⟩ := ry; exact PySem.EqMixed.eq_int_str (fin_bl I q (by simp))
    | _ => exact absurd (show false = true from hs) Bool.false_ne_true
  | str i =>
    obtain ⟨t, rfl⟩ := rx
    cases y with
    | non => cases ry; exact PySem.EqNone.eq_str_none (fin_bl I q (by simp))
    | bl j => cases ry; exact PySem.EqMixed.eq_str_bool (fin_bl I q (by simp))
    | int j => obtain ⟨t', rfl⟩ := ry; exact PySem.EqMixed.eq_str_int (fin_bl I q (by simp))
    | str j => obtain ⟨t', rfl⟩ := ry; exact eq_str (fin_bl I q dec_str)
    | _ => exact absurd (show false = true from hs) Bool.false_ne_true
  | byt i =>
    obtain ⟨t, rfl⟩ := rx
    cases y with
    | byt j => obtain ⟨t', rfl⟩ := ry; exact PySem.W.eq_bytes (fin_bl I q dec_byt)
    | _ => exact absurd (show false = true from hs) Bool.false_ne_true
  | _ => cases y <;> exact absurd (show false = true from hs) Bool.false_ne_true
theorem op_ne : OpR X (compareOp .NotEq) rNe := by
  intro pins s σ H x y v u Q I rx ry h
  obtain ⟨hs, q⟩ := h
  cases x with
  | non =>
    cases rx
    cases y with
    | non => cases ry; exact PySem.EqNone.ne_none_none (fin_bl I q (by simp))
    | bl j => cases ry; exact PySem.EqNone.ne_none_bool (fin_bl I q (by simp))
    | int j => obtain ⟨t', rfl⟩ := ry; exact PySem.EqNone.ne_none_int (fin_bl I q (by simp))
    | str j => obtain ⟨t', rfl⟩ := ry; exact PySem.EqNone.ne_none_str (fin_bl I q (by simp))
    | _ => exact absurd (show false = true from hs) Bool.false_ne_true
  | bl i =>
    cases rx
    cases y with
    | non => cases ry; exact PySem.EqNone.ne_bool_none (fin_bl I q (by simp))
    | bl j => cases ry; exact ne_bool (fin_bl I q (congrArg not dec_bl))
    | str j => obtain ⟨t', rfl⟩ := ry; exact PySem.EqMixed.ne_bool_str (fin_bl I q (by simp))
    | _ => exact absurd (show false = true from hs) Bool.false_ne_true
  | int i =>
    obtain ⟨t, rfl⟩ := rx
    cases y with
    | non => cases ry; exact PySem.EqNone.ne_int_none (fin_bl I q (by simp))
    | int j => obtain ⟨t', rfl⟩ := ry; exact ne_int (fin_bl I q (congrArg not dec_int))
    | str j => obtain ⟨t', rfl⟩ := ry; exact PySem.EqMixed.ne_int_str (fin_bl I q (by simp))
    | _ => exact absurd (show false = true from hs) Bool.false_ne_true
  | str i =>
    obtain ⟨t, rfl⟩ := rx
    cases y with
    | non => cases ry; exact PySem.EqNone.ne_str_none (fin_bl I q (by simp))
    | bl j => cases ry; exact PySem.EqMixed.ne_str_bool (fin_bl I q (by simp))
    | int j => obtain ⟨t', rfl⟩ := ry; exact PySem.EqMixed.ne_str_int (fin_bl I q (by simp))
    | str j => obtain ⟨t', rfl⟩ := ry; exact ne_str (fin_bl I q (congrArg not dec_str))
    | _ => exact absurd (show false = true from hs) Bool.false_ne_true
  | byt i =>
    obtain ⟨t, rfl⟩ := rx
    cases y with
    | byt j => obtain ⟨t', rfl⟩ := ry; exact PySem.W.ne_bytes (fin_bl I q (congrArg not dec_byt))
    | _ => exact absurd (show false = true from hs) Bool.false_ne_true
  | _ => cases y <;> exact absurd (show false = true from hs) Bool.false_ne_true

theorem op_lt : OpR X (compareOp .Lt) (rI0 fun i j => .bl (decide (i < j))) := opB0 fun _ _ _ _ _ _ _ q => lt_int q
theorem op_le : OpR X (compareOp .LtE) (rI0 fun i j => .bl (decide (i ≤ j))) := opB0 fun _ _ _ _ _ _ _ q => le_int q
theorem op_gt : OpR X (compareOp .Gt) (rI0 fun i j => .bl (decide (j < i))) := opB0 fun _ _ _ _ _ _ _ q => gt_int q
theorem op_ge : OpR X (compareOp .GtE) (rI0 fun i j => .bl (decide (j ≤ i))) := opB0 fun _ _ _ _ _ _ _ q => ge_int q
theorem op_isN : OpR X (compareOp .Is) (fun x y H Q => y = .non ∧ Q (.bl (decide (x = .non))) H) := by
  intro pins s σ H x y v u Q I rx ry h
  obtain ⟨rfl, q⟩ := h
  cases ry
  refine is_none_gen (fin_bl I q ?_)
  cases x <;> first
    | (cases rx; rfl)
    | (obtain ⟨t, rfl⟩ := rx; rfl)
theorem op_notN : OpR X (compareOp .IsNot) (fun x y H Q => y = .non ∧ Q (.bl (!decide (x = .non))) H) := by
  intro pins s σ H x y v u Q I rx ry h
  obtain ⟨rfl, q⟩ := h
  cases ry
  refine isnot_none_gen (fin_bl I q ?_)
  cases x <;> first
    | (cases rx; rfl)
    | (obtain ⟨t, rfl⟩ := rx; rfl)

theorem nomark (b : Expr) {op : CmpOp} (h : op ≠ .In := by decide) (h2 : op ≠ .NotIn := by decide) : behindInMarks op b = false := by
  have e1 : (op == CmpOp.In) = false := by cases op <;> first | rfl | exact absurd rfl h
  have e2 : (op == CmpOp.NotIn) = false := by cases op <;> first | rfl | exact absurd rfl h2
  cases b <;> simp [behindInMarks, e1, e2]
theorem pe_cmpR {op : CmpOp} {r : R2} (ho : OpR X (compareOp op) r) (ha : PE X a ta) (hb : PE X b tb) (hm : behindInMarks op b = false) : PE X (.Compare a [op] [b] pos) (tOp r ta tb) := by
  intro pins s σ H Q I h
  exact wpAny_Compare1 (binT ha hb I h fun v u s2 x y H2 I2 rx ry q => ho pins s2 σ H2 x y v u Q I2 rx ry q) hm
def tTest (t : TE) : TT := fun σ H Q => t σ H fun x H' => ∃ k, x = .bl k ∧ Q k H'
theorem pt_cmpR {op : CmpOp} {r : R2} (ho : OpR X (compareOp op) r) (ha : PE X a ta) (hb : PE X b tb) (hm : behindInMarks op b = false) : PT X (.Compare a [op] [b] pos) (tTest (tOp r ta tb)) := by
  intro pins s σ H Q I h
  refine wpAny_isTrue_Compare1 (thn (ha pins s σ H _ I h) fun v s1 ⟨x, H1, I1, r1, q1⟩ => thn (hb pins s1 σ H1 _ I1 q1) fun u s2 ⟨y, H2, I2, r2, q2⟩ =>
    thn (ho pins s2 σ H2 x y v u _ I2 r1 r2 q2) fun c s3 ⟨z, H3, I3, r3, k, e, q3⟩ => ?_) hm
  subst e
  cases r3
  exact wpAny_truthy_bool ⟨H3, I3, q3⟩
def tChain (r r' : R2) (ta tb tc : TE) : TE := fun σ H Q => ta σ H fun x H1 => tb σ H1 fun y H2 => r x y H2 fun z H3 => ∃ k, z = .bl k ∧
  (if k = true then tc σ H3 fun w' H4 => r' y w' H4 Q else Q (.bl false) H3)
theorem pe_chain {op op' : CmpOp} {r r' : R2} (ho : OpR X (compareOp op) r) (ho' : OpR X (compareOp op') r') (ha : PE X a ta) (hb : PE X b tb) (hc : PE X c tc)
    (hm : lastMarks [op, op'] [b, c] = false := by with_unfolding_all rfl) : PE X (.Compare a [op, op'] [b, c] pos) (tChain r r' ta tb tc) := by
  intro pins s σ H Q I h
  refine Compare_chain (thn (ha pins s σ H _ I h) fun v s1 ⟨x, H1, I1, r1, q1⟩ => chain_link (thn (hb pins s1 σ H1 _ I1 q1) fun u s2 ⟨y, H2, I2, r2, q2⟩ =>
    thn (ho pins s2 σ H2 x y v u _ I2 r1 r2 q2) fun d s3 ⟨z, H3, I3, r3, k, e, q3⟩ => ?_)) hm
  subst e
  cases r3
  refine wpAny_truthy_bool ?_
  cases k with
  | false => exact ite_ff ⟨.bl false, H3, I3, rfl, q3⟩
  | true => exact ite_tt (chain_last (thn (hc pins s3 σ H3 _ I3 q3) fun w' s4 ⟨z', H4, I4, r4, q4⟩ => ho' pins s4 σ H4 y z' u w' Q I4 r2 r4 q4))
theorem pt_chain {op op' : CmpOp} {r r' : R2} (ho : OpR X (compareOp op) r) (ho' : OpR X (compareOp op') r') (ha : PE X a ta) (hb : PE X b tb) (hc : PE X c tc)
    (hm : lastMarks [op, op'] [b, c] = false := by with_unfolding_all rfl) : PT X (.Compare a [op, op'] [b, c] pos) (tTest (tChain r r' ta tb tc)) := by
  intro pins s σ H Q I h
  refine isTrue_chain (thn (ha pins s σ H _ I h) fun v s1 ⟨x, H1, I1, r1, q1⟩ => test_link (thn (hb pins s1 σ H1 _ I1 q1) fun u s2 ⟨y, H2, I2, r2, q2⟩ =>
    thn (ho pins s2 σ H2 x y v u _ I2 r1 r2 q2) fun d s3 ⟨z, H3, I3, r3, k, e, q3⟩ => ?_)) hm
  subst e
  cases r3
  refine wpAny_truthy_bool ?_
  cases k with
  | false =>
    obtain ⟨k', e', q'⟩ := q3
    cases e'
    exact ite_ff ⟨H3, I3, q'⟩
  | true =>
    refine ite_tt (test_last (thn (hc pins s3 σ H3 _ I3 q3) fun w' s4 ⟨z', H4, I4, r4, q4⟩ => thn (ho' pins s4 σ H4 y z' u w' _ I4 r2 r4 q4) fun d' s5 ⟨z2, H5, I5, r5, k2, e2, q5⟩ => ?_))
    subst e2
    cases r5
    exact wpAny_truthy_bool ⟨H5, I5, q5⟩

theorem line63 : (sizeLine : Nat) < 2 ^ 63 := by rw [sizeLine_eq]; decide
theorem vals1 {x : V} {us : List Value} (r : Vals [x] us) : ∃ u, us = [u] ∧ RelV x u := by
  cases r with
  | cons r1 r2 => cases r2; exact ⟨_, rfl, r1⟩
theorem vals2 {x y : V} {us : List Value} (r : Vals [x, y] us) : ∃ u w', us = [u, w'] ∧ RelV x u ∧ RelV y w' := by
  cases r with
  | cons r1 r2 =>
    cases r2 with
    | cons r3 r4 => cases r4; exact ⟨_, _, rfl, r1, r3⟩
end
end L2

namespace L2
open PySem PySem.Spec PyProof.Rows

structure ObjM (h : Heap) (x dx C : Addr) (mA : Str → Option Value) : Prop where
  obj : h.get? x = some (PySem.W.instObj C dx)
  ns : h.Ns1 dx mA
  ne : dx ≠ x

theorem lookIn_ns {h : Heap} {dx : Addr} {mA : Str → Option Value} (n : h.Ns1 dx mA) : ∃ od, h.get? dx = some od ∧ ∀ name, PySem.W.lookIn name od = some (mA name) := by
  obtain ⟨o, es, ep, ho, hd, hk, _, hm⟩ := n
  refine ⟨o, ho, fun name => ?_⟩
  have e := hm name
  unfold nsFind findBy at e
  rw [← Array.find?_toList] at e
  unfold PySem.W.lookIn
  rw [hd]
  dsimp only
  split
  · rename_i y q
    rw [q] at e
    exact congrArg some e
  · rename_i q
    rw [q] at e
    have a : es.toList.any (·.refKey) = false := by
      rw [List.any_eq_false]
      intro y hy
      obtain ⟨z, t, hkey⟩ := hk y (Array.mem_toList_iff.mp hy)
      simp [DictEntry.refKey, hkey]
    have a' : ¬ es.toList.any (·.refKey) = true := by rw [a]; exact Bool.false_ne_true
    rw [if_neg a']
    exact congrArg some e

theorem ObjM.look {h : Heap} {x dx C : Addr} {mA : Str → Option Value} (I : ObjM h x dx C mA) : ∃ od, PySem.W.InstAt h x (PySem.W.instObj C dx) C (some od) ∧ ∀ name, PySem.W.lookIn name od = some (mA name) :=
  let ⟨od, ho, hl⟩ := lookIn_ns I.ns
  ⟨od, ⟨I.obj, rfl, rfl, ho⟩, hl⟩

section
variable {prog : Program} {w : World} {A : Around} {E : Value → Shared → Prop} {s : Shared} {K : PySem.W.Frag} {x dx C f : Addr} {mA : Str → Option Value} {name : Str} {v : Value}

theorem get_map {expr : Bool} {Q : Value → Shared → Prop} (X : K.In s.heap) (I : ObjM s.heap x dx C mA) (hg : PySem.W.plainGet K C name = true) (hh : PySem.W.hasDictIn K C = true)
    (ha : PySem.W.findIn K (.ref C) name = some none) (hv : mA name = some v) (hv' : PySem.W.handedIn v = true) (h : Q v { s with toks := s.toks + 1 }) :
    wpAny (model prog w) A (getAttr (.ref x) name expr) Q E s := by
  obtain ⟨od, J, hl⟩ := I.look
  exact PySem.W.get_value X J (PySem.W.plainGet_of hg).1 (PySem.W.findObj_own hh ha rfl (by rw [hl, hv])) hv' h

theorem get_meth {pl : Sem Bool} {Q : Value × List Value → Shared → Prop} (X : K.In s.heap) (I : ObjM s.heap x dx C mA) (hg : PySem.W.plainGet K C name = true)
    (hf : PySem.W.findIn K (.ref C) name = some (some (.ref f))) (ht : PySem.W.isFn K (.ref f) = true) (hv : mA name = none) (h : Q (.ref f, [.ref x]) s) :
    wpAny (model prog w) A (getMethod (.ref x) name pl) Q E s := by
  obtain ⟨od, J, hl⟩ := I.look
  exact PySem.W.method_fn X J (PySem.W.plainGet_of hg).1 (PySem.W.plainGet_of hg).2 hf (beq_iff_eq.mp ht) (by show (PySem.W.lookIn name od).map (·.isSome) = some false; rw [hl, hv]; rfl) h

theorem set_map {ns : List Str} {Q : Unit → Shared → Prop} (X : K.In s.heap) (I : ObjM s.heap x dx C mA)
    (hs : PySem.W.findIn K (.ref C) "__setattr__" = some (some (.builtin "object.__setattr__"))) (hp : PySem.W.plainOver K C = true) (ht : PySem.W.takerIn K C name = some none) (hh : PySem.W.hasDictIn K C = true)
    (hw : PySem.Within mA ns) (hsz : ns.length ≤ sizeLine)
    (h : ∀ h', ObjM h' x dx C (fun y => if y = name then some v else mA y) → Heap.SameBut dx s.heap h' → Q () { s with heap := h', toks := s.toks + 2 }) :
    wpAny (model prog w) A (setAttr (.ref x) name v) Q E s := by
  obtain ⟨od, J, hl⟩ := I.look
  refine PySem.W.set_plain X J hs (PySem.W.osa_open (s := { s with toks := s.toks + 1 }) (r := none) X J hp ht fun b => ?_)
  obtain ⟨cd, hc, hd'⟩ := PySem.W.any_some hh
  have hx : s.heap.get? x = some ⟨.ref C, some dx, .plain, #[]⟩ := I.obj
  refine wpAny_bind (wpAny_pure (wpAny_bind (wpAny_bind (wpAny_loadPart hx (wpAny_bind (PySem.W.Looks.here (s := { s with toks := s.toks + 1 }) (PySem.W.looks_clsIn X hc) ?_))))))
  rw [hd']
  refine wpAny_pure (a := some dx) (wpAny_bind (wpAny_pure (wpAny_bind ?_)))
  refine wpAny_nsSet1 (s := { s with toks := s.toks + 1 }) I.ns fun h' hn2 hs2 => ?_
  obtain ⟨oD, esD, epD, hoD, hdD, hcD⟩ := hn2.count (PySem.Within.cons name v hw)
  refine wpAny_bind (wpAny_lookBehind hoD (by rw [hdD]; exact pastItsLine_dict (Nat.le_trans hcD (by rw [List.length_cons]; omega))) ?_)
  exact wpAny_pure (h _ ⟨(hs2.2 _ (Ne.symm I.ne)).trans I.obj, hn2, I.ne⟩ hs2)

theorem make_map {R : Result → Shared → Prop} {vs : List Value} {kw : List (Str × Value)} (X : K.In s.heap) (hm : PySem.W.makesIn K C = true)
    (hi : PySem.W.findIn K (.ref C) "__init__" = some (some (.ref f))) (hf : PySem.W.typeIn K (.ref f) = some (.type "function"))
    (h : codeAny (model prog w) (A.under (.builtin "type.__call__" ⟨.ref C :: vs, kw⟩)) (.call (.ref f) ⟨.ref (s.heap.objs.size + 1) :: vs, kw⟩) (PySem.W.InitBack (s.heap.objs.size + 1) R)
      { s with heap := (s.heap.push PySem.W.emptyDict).push (PySem.W.instObj C s.heap.objs.size) }) :
    codeAny (model prog w) A (.call (.ref C) ⟨vs, kw⟩) R s := by
  obtain ⟨hh, g, d, t, os⟩ := s
  exact PySem.W.make_core (PySem.W.makes_of X hm) (PySem.W.looks_findIn X hi) (fun self => PySem.W.bind_fn X self hf) (.inl rfl) h
end

def putF (f : Str) (v : V) : List (Str × V) → List (Str × V)
  | [] => [(f, v)]
  | (g, x) :: r => if g = f then (g, v) :: r else (g, x) :: putF f v r
theorem lookup_putF (f g : Str) (v : V) : ∀ fs : List (Str × V), (putF f v fs).lookup g = if g = f then some v else fs.lookup g
  | [] => by
    show List.lookup g [(f, v)] = _
    by_cases h : g = f
    · have hb : (g == f) = true := beq_iff_eq.mpr h
      simp only [List.lookup, hb, if_pos h]
    · have hb : (g == f) = false := beq_eq_false_iff_ne.mpr h
      simp only [List.lookup, hb, if_neg h]
  | (k, x) :: r => by
    have ih := lookup_putF f g v r
    rw [show putF f v ((k, x) :: r) = (if k = f then (k, v) :: r else (k, x) :: putF f v r) from rfl]
    by_cases hk : k = f
    · rw [if_pos hk]
      by_cases h : g = k
      · have hb : (g == k) = true := beq_iff_eq.mpr h
        simp only [List.lookup, hb, if_pos (h.trans hk)]
      · have hb : (g == k) = false := beq_eq_false_iff_ne.mpr h
        simp only [List.lookup, hb, if_neg (fun e : g = f => h (e.trans hk.symm))]
    · rw [if_neg hk]
      by_cases h : g = k
      · have hb : (g == k) = true := beq_iff_eq.mpr h
        simp only [List.lookup, hb, if_neg (fun e : g = f => hk (h.symm.trans e))]
      · have hb : (g == k) = false := beq_eq_false_iff_ne.mpr h
        simp only [List.lookup, hb]
        exact ih
theorem keys_putF (f : Str) (v : V) : ∀ fs : List (Str × V), f ∈ (putF f v fs).map (·.1) ∧ ∀ g, g ∈ fs.map (·.1) → g ∈ (putF f v fs).map (·.1)
  | [] => ⟨by simp [putF], fun g h => by simp at h⟩
  | (k, x) :: r => by
    obtain ⟨i1, i2⟩ := keys_putF f v r
    rw [show putF f v ((k, x) :: r) = (if k = f then (k, v) :: r else (k, x) :: putF f v r) from rfl]
    by_cases hk : k = f
    · rw [if_pos hk]
      subst hk
      exact ⟨by simp, fun g h => by simpa using h⟩
    · rw [if_neg hk]
      refine ⟨?_, fun g h => ?_⟩
      · rw [List.map_cons]
        exact List.mem_cons_of_mem _ i1
      · rw [List.map_cons] at h ⊢
        rcases List.mem_cons.mp h with e | e
        · exact List.mem_cons.mpr (.inl e)
        · exact List.mem_cons_of_mem _ (i2 g e)
theorem length_putF (f : Str) (v : V) : ∀ fs : List (Str × V), (putF f v fs).length ≤ fs.length + 1
  | [] => by simp [putF]
  | (k, x) :: r => by
    have ih := length_putF f v r
    rw [show putF f v ((k, x) :: r) = (if k = f then (k, v) :: r else (k, x) :: putF f v r) from rfl]
    by_cases hk : k = f
    · rw [if_pos hk, List.length_cons, List.length_cons]; omega
    · rw [if_neg hk, List.length_cons, List.length_cons]; omega

theorem RelO.some_of {v : V} {o : Option Value} (r : RelO (some v) o) : ∃ u, o = some u ∧ RelV v u := by
  cases o with
  | none => exact (show False from r).elim
  | some u => exact ⟨u, rfl, r⟩
theorem RelO.none_of {o : Option Value} (r : RelO none o) : o = none := by
  cases o with
  | none => rfl
  | some u => exact (show False from r).elim
theorem handed_of {v : V} {u : Value} (r : RelV v u) : PySem.W.handedIn u = true := by
  cases v with
  | non => cases (show u = Value.none from r); rfl
  | bl b => cases (show u = Value.bool b from r); rfl
  | int i => obtain ⟨t, e⟩ := (show ∃ t, u = Value.int i t from r); cases e; rfl
  | str x => obtain ⟨t, e⟩ := (show ∃ t, u = Value.str x t from r); cases e; rfl
  | byt b => obtain ⟨t, e⟩ := (show ∃ t, u = Value.bytes b t from r); cases e; rfl
  | flt b => obtain ⟨t, e⟩ := (show ∃ t, u = Value.float b t from r); cases e; rfl
  | ref a => cases (show u = Value.ref a from r); rfl
  | ty n => cases (show u = Value.type n from r); rfl

section
variable {P : Program} {w : World} {H H' : Hp} {h h' : Heap} {a C dx : Addr} {fs fs' : List (Str × V)}
theorem ins_get (hok : HOk P w H h) (e : H a = some (.ins C dx fs)) : ∃ mA, ObjM h a dx C mA ∧ (∀ f, RelO (fs.lookup f) (mA f)) ∧ PySem.Within mA (fs.map (·.1)) ∧ fs.length ≤ 1000 ∧ H dx = some (.own a) := by
  obtain ⟨d, z, ne, ob, mA, n, r, q⟩ := (show ObjOk P w H h a (.ins C dx fs) from hok a _ e)
  exact ⟨mA, ⟨ob, n, ne⟩, r, q, z, d⟩
end

structure Cls (K : PySem.W.Frag) (C : Addr) : Prop where
  pg : PySem.W.plainGet K C Str.empty = true
  hd : PySem.W.hasDictIn K C = true
  po : PySem.W.plainOver K C = true
  sa : PySem.W.findIn K (.ref C) "__setattr__" = some (some (.builtin "object.__setattr__"))
theorem Cls.get {K : PySem.W.Frag} {C : Addr} (c : Cls K C) (f : Str) : PySem.W.plainGet K C f = true := c.pg
def NoAttr (K : PySem.W.Frag) (C : Addr) (f : Str) : Prop := PySem.W.findIn K (.ref C) f = some none
theorem NoAttr.taker {K : PySem.W.Frag} {C : Addr} {f : Str} (n : NoAttr K C f) : PySem.W.takerIn K C f = some none := by
  unfold PySem.W.takerIn
  rw [show PySem.W.findIn K (.ref C) f = some none from n]
  rfl
structure Meth (K : PySem.W.Frag) (C : Addr) (m : Str) (f : Addr) : Prop where
  at_ : PySem.W.findIn K (.ref C) m = some (some (.ref f))
  fn : PySem.W.isFn K (.ref f) = true
  kp : PySem.W.keepIn K (.ref f) = true

section
variable {X : Cx} {pins : List (Addr × Obj)} {σ : St} {H : Hp} {s : Shared} {a C dx : Addr} {fs : List (Str × V)} {f : Str} {v : V} {A : Around} {E : Value → Shared → Prop}

theorem getattr_ok {b : Bool} {Q : Value → Shared → Prop} (I : Inv X pins σ H s) (e : H a = some (.ins C dx fs)) (c : Cls X.K C) (n : NoAttr X.K C f) (l : fs.lookup f = some v)
    (h : ∀ u s', Inv X pins σ H s' → RelV v u → Q u s') : wpAny (model X.prog X.w) A (getAttr (.ref a) f b) Q E s := by
  obtain ⟨mA, O, r, _, _, _⟩ := ins_get I.hok e
  obtain ⟨u, hu, ru⟩ := RelO.some_of (v := v) (o := mA f) (by rw [← l]; exact r f)
  exact get_map I.kIn O (c.get f) c.hd n hu (handed_of ru) (h u _ (I.tok _) ru)

theorem getmeth_ok {m : Str} {g : Addr} {pl : Sem Bool} {Q : Value × List Value → Shared → Prop} (I : Inv X pins σ H s) (e : H a = some (.ins C dx fs)) (c : Cls X.K C) (k : Meth X.K C m g) (l : fs.lookup m = none)
    (h : Q (.ref g, [.ref a]) s) : wpAny (model X.prog X.w) A (getMethod (.ref a) m pl) Q E s := by
  obtain ⟨mA, O, r, _, _, _⟩ := ins_get I.hok e
  have hn : mA m = none := RelO.none_of (by rw [← l]; exact r m)
  exact get_meth I.kIn O (c.get m) k.at_ k.fn hn h

theorem setattr_ok {y : V} {u : Value} {Q : Unit → Shared → Prop} (I : Inv X pins σ H s) (e : H a = some (.ins C dx fs)) (c : Cls X.K C) (n : NoAttr X.K C f) (hl : fs.length < 1000) (ry : RelV y u)
    (h : ∀ s', Inv X pins σ (upd H a (.ins C dx (putF f y fs))) s' → Q () s') : wpAny (model X.prog X.w) A (setAttr (.ref a) f u) Q E s := by
  obtain ⟨mA, O, r, wi, _, ho⟩ := ins_get I.hok e
  have hz : (fs.map (·.1)).length ≤ sizeLine := by rw [List.length_map, sizeLine_eq]; omega
  refine set_map I.kIn O c.sa c.po n.taker c.hd wi hz fun h' O' sb => h _ ?_
  have hd : ∃ o, h'.get? dx = some o := let ⟨o, _, _, e', _⟩ := O'.ns; ⟨o, e'⟩
  refine I.write (x := a) (e := dx) (by rw [e]; exact True.intro) (.inr ho) (fun b q hb z => (sb.2 b hb).trans z) hd ?_
  refine ⟨by rw [upd_ne O.ne]; exact ho, ?_, O.ne, O'.obj, _, O'.ns, fun g => ?_, fun g hg => ?_⟩
  · have := length_putF f y fs; omega
  · show RelO ((putF f y fs).lookup g) (if g = f then some u else mA g)
    rw [lookup_putF]
    by_cases q : g = f
    · rw [if_pos q, if_pos q]; exact ry
    · rw [if_neg q, if_neg q]; exact r g
  · by_cases q : g = f
    · rw [q]; exact (keys_putF f y fs).1
    · refine (keys_putF f y fs).2 g (wi g fun z => hg ?_)
      show (if g = f then some u else mA g) = none
      rw [if_neg q]; exact z

theorem Inv.made (I : Inv X pins σ H s) : Inv X pins σ (upd (upd H s.heap.objs.size (.own (s.heap.objs.size + 1))) (s.heap.objs.size + 1) (.ins C s.heap.objs.size []))
    { s with heap := (s.heap.push PySem.W.emptyDict).push (PySem.W.instObj C s.heap.objs.size) } := by
  have e1 : (s.heap.push PySem.W.emptyDict).get? s.heap.objs.size = some PySem.W.emptyDict := Heap.get?_push_size s.heap rfl
  have e2 : ((s.heap.push PySem.W.emptyDict).push (PySem.W.instObj C s.heap.objs.size)).get? (s.heap.objs.size + 1) = some (PySem.W.instObj C s.heap.objs.size) := by
    have := Heap.get?_push_size (s.heap.push PySem.W.emptyDict) (o := PySem.W.instObj C s.heap.objs.size) rfl
    rwa [Heap.size_push] at this
  have e3 : (s.heap.push PySem.W.emptyDict).Ns s.heap.objs.size (fun _ => none) := ⟨PySem.W.emptyDict, #[], _, e1, rfl, (fun e he => absurd he (by simp)), fun _ => rfl⟩
  have I1 := I.laid (a := s.heap.objs.size) (o := .own (s.heap.objs.size + 1)) (h' := s.heap.push PySem.W.emptyDict) (t' := s.toks) (fun b u q => Heap.get?_push_of_some _ q) (Nat.le_refl _) ⟨_, e1⟩
  refine I1.laid (a := s.heap.objs.size + 1) (o := .ins C s.heap.objs.size []) (t' := s.toks) (fun b u q => Heap.get?_push_of_some _ q) (Nat.le_of_eq (Heap.size_push _ _)) ?_
  have ne : s.heap.objs.size ≠ s.heap.objs.size + 1 := Nat.ne_of_lt (Nat.lt_succ_self _)
  refine ⟨by rw [upd_ne ne, upd_same], Nat.zero_le _, ne, e2, fun _ => none, (Heap.Ns1.of_empty e3).at fun o q => Heap.get?_push_of_some _ q, fun _ => True.intro, fun y hy => absurd rfl hy⟩

theorem attr_of {prog : Program} {w : World} {env : Env} {e : Expr} {f : Str} {pos : Pos} {s : Shared} {Q : Value → Shared → Prop} (hb : attributeBase e f env (eval e env) = eval e env)
    (h : wpAny (model prog w) A (eval e env) (fun o s₁ => wpAny (model prog w) A (getAttr o f true) Q E s₁) E s) : wpAny (model prog w) A (eval (.Attribute e f pos) env) Q E s :=
  Attribute_any_ h (by rw [arm_eval_Attribute, hb])
end

def tFld (K : PySem.W.Frag) (ta : TE) (f : Str) : TE := fun σ H Q => ta σ H fun x H1 => ∃ a C dx fs v, x = .ref a ∧ H1 a = some (.ins C dx fs) ∧ Cls K C ∧ NoAttr K C f ∧ fs.lookup f = some v ∧ Q v H1
def sFld (K : PySem.W.Frag) (ta tv : TE) (f : Str) : TS := fun D σ H => tv σ H fun y H1 => ta σ H1 fun x H2 => ∃ a C dx fs, x = .ref a ∧ H2 a = some (.ins C dx fs) ∧ Cls K C ∧ NoAttr K C f ∧ fs.length < 1000 ∧
  D.nx σ (upd H2 a (.ins C dx (putF f y fs)))
def InOp (X : Cx) (op : Operator) (rd : V → V → Hp → VK → Prop) : Prop :=
  ∀ (pins : List (Addr × Obj)) (s : Shared) (σ : St) (H : Hp) (x y : V) (u v : Value) (Q : VK), Inv X pins σ H s → RelV x u → RelV y v → rd x y H Q → wpAny (model X.prog X.w) X.A (inplaceOp op u v) (EP X pins σ Q) X.xe s
def sFldAug (K : PySem.W.Frag) (ta tv : TE) (rd : V → V → Hp → VK → Prop) (f : Str) : TS := fun D σ H => ta σ H fun x H1 => ∃ a C dx fs v, x = .ref a ∧ H1 a = some (.ins C dx fs) ∧ Cls K C ∧ NoAttr K C f ∧ fs.lookup f = some v ∧
  tv σ H1 fun y H2 => rd v y H2 fun z H3 => ∃ dx' fs', H3 a = some (.ins C dx' fs') ∧ fs'.length < 1000 ∧ D.nx σ (upd H3 a (.ins C dx' (putF f z fs')))

section
variable {X : Cx} {o e value : Expr} {f : Str} {pos pos' tpos : Pos} {ta tv : TE}
theorem pe_fld (he : PE X e ta) (hb : attributeBase e f X.env (eval e X.env) = eval e X.env) : PE X (.Attribute e f pos) (tFld X.K ta f) := by
  intro pins s σ H Q I h
  refine attr_of hb (thn (he pins s σ H _ I h) fun u s1 ⟨x, H1, I1, rx, a, C, dx, fs, v, ex, ea, c, n, l, q⟩ => ?_)
  subst ex
  obtain rfl : u = Value.ref a := rx
  exact getattr_ok I1 ea c n l fun u' s2 I2 ru => ⟨v, H1, I2, ru, q⟩
theorem ps_fld (ha : PE X o ta) (hv : PE X value tv) (hs : swapsWith value (some (.Attribute o f pos')) pos.line X.env = pure false) : PS X (.Assign [.Attribute o f pos'] value pos) (sFld X.K ta tv f) := by
  intro pins s σ H D I h
  refine plainObj_wpAny_Assign_Attribute (thn (hv pins s σ H _ I h) fun u s1 ⟨y, H1, I1, ry, q⟩ => thn (ha pins s1 σ H1 _ I1 q) fun ov s2 ⟨x, H2, I2, rx, a, C, dx, fs, ex, ea, c, n, l, q2⟩ => ?_) hs
  subst ex
  obtain rfl : ov = Value.ref a := rx
  exact setattr_ok I2 ea c n l ry fun s3 I3 => ⟨σ, _, I3, q2⟩
theorem ps_fldaug {op : Operator} {rd : V → V → Hp → VK → Prop} (ha : PE X o ta) (hv : PE X value tv) (hop : InOp X op rd) : PS X (.AugAssign (.Attribute o f tpos) op value pos) (sFldAug X.K ta tv rd f) := by
  intro pins s σ H D I h
  refine wpAny_AugAssign_AttributeAny (thn (ha pins s σ H _ I h) fun ov s1 ⟨x, H1, I1, rx, a, C, dx, fs, v, ex, ea, c, n, l, q⟩ => ?_)
  subst ex
  obtain rfl : ov = Value.ref a := rx
  refine getattr_ok I1 ea c n l fun u s2 I2 ru => thn (hv pins s2 σ H1 _ I2 q) fun w3 s3 ⟨y, H2, I3, ry, q3⟩ => thn (hop pins s3 σ H2 v y u w3 _ I3 ru ry q3) fun w4 s4 ⟨z, H3, I4, rz, dx', fs', ea', l', q4⟩ => ?_
  exact setattr_ok I4 ea' c n l' rz fun s5 I5 => ⟨σ, _, I5, q4⟩
def rSub : V → V → Hp → VK → Prop := fun x y H Q => ∃ i j, x = .int i ∧ y = .int j ∧ Q (.int (i - j)) H
theorem in_sub : InOp X .Sub rSub := by
  rintro pins s σ H x y u v Q I rx ry ⟨i, j, rfl, rfl, q⟩
  obtain ⟨t, rfl⟩ := (show ∃ t, u = Value.int i t from rx)
  obtain ⟨t', rfl⟩ := (show ∃ t', v = Value.int j t' from ry)
  exact PyProof.Rows.isub_int ⟨.int (i - j), H, I.tok _, ⟨_, rfl⟩, q⟩

end

section
variable {X : Cx} {pins : List (Addr × Obj)} {σ : St} {H : Hp} {s : Shared} {A : Around} {E : Value → Shared → Prop} {Q : Value → Shared → Prop} {c : Value} {b : Bool}
inductive TyOf (K : PySem.W.Frag) (H : Hp) : V → Value → Prop where
  | non : TyOf K H .non (.type "NoneType")
  | bl (x : Bool) : TyOf K H (.bl x) (.type "bool")
  | int (i : Int) : TyOf K H (.int i) (.type "int")
  | str (x : Str) : TyOf K H (.str x) (.type "str")
  | flt (x : UInt64) : TyOf K H (.flt x) (.type "float")
  | lst {a : Addr} {xs : List V} (e : H a = some (.lst xs)) : TyOf K H (.ref a) (.type "list")
  | frz {a : Addr} {o : Obj} {xs : List V} (e : H a = some (.frz o (.lst xs))) : TyOf K H (.ref a) (.type "list")
  | tup {a : Addr} {xs : List V} (e : H a = some (.tup xs)) : TyOf K H (.ref a) (.type "tuple")
  | dK {a : Addr} {kvs : List (Key × V)} (e : H a = some (.dK kvs)) : TyOf K H (.ref a) (.type "dict")
  | dT {a : Addr} {kvs : List (List Key × V)} (e : H a = some (.dT kvs)) : TyOf K H (.ref a) (.type "dict")
  | ins {a C dx : Addr} {fs : List (Str × V)} (e : H a = some (.ins C dx fs)) (cl : Cls K C) (ha : PySem.W.findIn K (.ref C) "__class__" = some (some (.builtin "object.__class__")))
      (hn : PySem.W.specialIn K (.builtin "object.__class__") "__get__" = some (some (.builtin "getset_descriptor.__get__"))) (htk : PySem.W.takesIn K (.builtin "object.__class__") = some true)
      (hm : PySem.W.mroIn K C (.type "object") = some true) : TyOf K H (.ref a) (.ref C)
theorem isinst_ok {x : V} {u t : Value} (I : Inv X pins σ H s) (rx : RelV x u) (ty : TyOf X.K H x t) (e : PySem.W.kitOne X.K t c = some b) (h : ∀ tk, Q (.bool b) { s with toks := tk }) :
    wpAny (model X.prog X.w) A (call (.builtin "isinstance") [u, c]) Q E s := by
  cases ty with
  | non => cases (show u = Value.none from rx); exact PySem.W.kia_one PySem.W.kitx_none I.kIn True.intro e (fun z => nomatch z) h
  | bl y => cases (show u = Value.bool y from rx); exact PySem.W.kia_one PySem.W.kitx_bool I.kIn True.intro e (fun z => nomatch z) h
  | int i => obtain ⟨t, q⟩ := (show ∃ t, u = Value.int i t from rx); cases q; exact PySem.W.kia_one PySem.W.kitx_int I.kIn True.intro e (fun z => nomatch z) h
  | str y => obtain ⟨t, q⟩ := (show ∃ t, u = Value.str y t from rx); cases q; exact PySem.W.kia_one PySem.W.kitx_str I.kIn True.intro e (fun z => nomatch z) h
  | flt y => obtain ⟨t, q⟩ := (show ∃ t, u = Value.float y t from rx); cases q; exact PySem.W.kia_one PySem.W.kitx_float I.kIn True.intro e (fun z => nomatch z) h
  | @lst a xs ea =>
    cases (show u = Value.ref a from rx)
    obtain ⟨_, _, n, _, h1⟩ := (show ObjOk X.prog X.w H s.heap a (.lst xs) from I.hok a _ ea)
    exact PySem.W.kia_one PySem.W.kitx_list I.kIn ⟨_, h1, rfl⟩ e (fun z => nomatch z) h
  | @frz a ob xs ea =>
    cases (show u = Value.ref a from rx)
    obtain ⟨_, _, _, n, _, h1⟩ := (show ObjOk X.prog X.w H s.heap a (.frz ob (.lst xs)) from I.hok a _ ea)
    exact PySem.W.kia_one PySem.W.kitx_list I.kIn ⟨_, h1, rfl⟩ e (fun z => nomatch z) h
  | @tup a xs ea =>
    cases (show u = Value.ref a from rx)
    obtain ⟨_, _, _, p⟩ := (show ObjOk X.prog X.w H s.heap a (.tup xs) from I.hok a _ ea)
    obtain ⟨o, h1, h2, _⟩ := p
    exact PySem.W.kia_one PySem.W.kitx_tuple I.kIn ⟨o, h1, h2⟩ e (fun z => nomatch z) h
  | @dK a kvs ea =>
    cases (show u = Value.ref a from rx)
    obtain ⟨_, _, vs, _, p⟩ := (show ObjOk X.prog X.w H s.heap a (.dK kvs) from I.hok a _ ea)
    obtain ⟨o, es, ep, h1, h2, _⟩ := p
    exact PySem.W.kia_one PySem.W.kitx_dict I.kIn ⟨o, h1, h2.1⟩ e (fun z => nomatch z) h
  | @dT a kvs ea =>
    cases (show u = Value.ref a from rx)
    obtain ⟨_, _, xs, _, o, es, ep, h1, h2, _⟩ := (show ObjOk X.prog X.w H s.heap a (.dT kvs) from I.hok a _ ea)
    exact PySem.W.kia_one PySem.W.kitx_dict I.kIn ⟨o, h1, h2.1⟩ e (fun z => nomatch z) h
  | @ins a C dx fs ea cl ha hn htk hm =>
    cases (show u = Value.ref a from rx)
    obtain ⟨mA, O, _⟩ := ins_get I.hok ea
    obtain ⟨od, J, _⟩ := O.look
    exact PySem.W.kia_one (PySem.W.kitx_own (cl.get _) cl.hd ha hn htk hm) I.kIn J e (fun z => nomatch z) h
end
end L2

namespace L2
open PySem PySem.Spec PyProof.Rows

structure Room (k : Nat) (A : Around) : Prop where
  hd : A.handled = none
  dp : A.depth + 3 * k + 5 < recursionLimit
  un : A.units + 16 * k + 200 < cLine
theorem Room.mono {j k : Nat} {A : Around} (r : Room k A) (h : j ≤ k) : Room j A := ⟨r.hd, by have := r.dp; omega, by have := r.un; omega⟩
theorem Room.deeper {k : Nat} {A : Around} (r : Room (k + 1) A) (env : Env) : Room k (A.deeper env) :=
  ⟨r.hd, by have := r.dp; show A.depth + 1 + 3 * k + 5 < _; omega, by have := r.un; show A.units + 3 + 16 * k + 200 < _; omega⟩
theorem Room.in1 {k : Nat} {A : Around} (r : Room (k + 1) A) : Room k A.in1 :=
  ⟨r.hd, by have := r.dp; show A.depth + 3 * k + 5 < _; omega, by have := r.un; show A.units + 1 + 16 * k + 200 < _; omega⟩
theorem make_depth {A : Around} {C : Addr} {us : List Value} {kw : List (Str × Value)} : (A.under (.builtin "type.__call__" ⟨.ref C :: us, kw⟩)).depth = A.depth + 1 := by
  first | rfl | simp [Around.under, Code.weight, Code.isCreation, Code.isGuard, Code.isCaller, Code.frames, Code.isFrame, guardIds]
theorem make_units {A : Around} {C : Addr} {us : List Value} {kw : List (Str × Value)} : (A.under (.builtin "type.__call__" ⟨.ref C :: us, kw⟩)).units = A.units + 1 := by
  first | rfl | simp [Around.under, Code.cUnits, Code.frames, Code.isFrame]
theorem Room.make {k : Nat} {A : Around} (r : Room (k + 1) A) (C : Addr) (us : List Value) (kw : List (Str × Value)) : Room k (A.under (.builtin "type.__call__" ⟨.ref C :: us, kw⟩)) :=
  ⟨r.hd, by have := r.dp; rw [make_depth]; omega, by have := r.un; rw [make_units]; omega⟩
theorem Room.depth {k : Nat} {A : Around} (r : Room k A) : A.depth < recursionLimit := by have := r.dp; omega
theorem Room.units {k : Nat} {A : Around} (r : Room k A) : A.units + 64 < cLine := by have := r.un; omega
def tNil : TA := fun _ H Q => Q [] H
def tCons (ta : TE) (tr : TA) : TA := fun σ H Q => ta σ H fun x H1 => tr σ H1 fun xs H2 => Q (x :: xs) H2
section
variable {X : Cx} {e : Expr} {es : List Expr} {te : TE} {t : TA} {pos : Pos}
theorem pa_nil : PA X [] tNil := fun _ _ _ _ H Q I h => Calls.spliced_nil ⟨[], H, I, .nil, h⟩
theorem pa_cons (ha : PE X e te) (hr : PA X es t) (hs : starEach (e :: es) X.env = (false, eval e X.env) :: starEach es X.env := by rfl) : PA X (e :: es) (tCons te t) := by
  intro pos pins s σ H Q I h
  rw [hs]
  show wpAny _ _ (spliced ((false, eval e X.env) :: backTo pos (starEach es X.env))) _ _ s
  refine Calls.spliced_cons (thn (ha pins s σ H _ I h) fun u s1 ⟨x, H1, I1, r1, q1⟩ => ?_)
  exact thn (hr pos pins s1 σ H1 _ I1 q1) fun us s2 ⟨xs, H2, I2, r2, q2⟩ => ⟨x :: xs, H2, I2, .cons r1 r2, q2⟩

end

abbrev Sp := List V → Hp → VK → XK → Prop
abbrev CXT := List Env → Hp → Shared → XK → Value → Shared → Prop

structure Env0 (P : Program) (w : World) (K : PySem.W.Frag) (mg : Str → Option Value) (base : Heap) (A : Around) (outer : List Env) (s : Shared) (H : Hp) : Prop where
  frames : A.frames = some outer
  mod : Mod K mg base
  bs : ∀ b o, base.get? b = some o → s.heap.get? b = some o ∧ H b = none
  bsz : base.objs.size ≤ s.heap.objs.size
  funs : s.heap.FunFrames base outer
  frf : ∀ b ∈ frs outer, H b = none
  hok : HOk P w H s.heap
  bare : AllBare s.gens
def CE (outer : List Env) (P : Program) (w : World) (H : Hp) (s : Shared) (Q : VK) (u : Value) (s' : Shared) : Prop :=
  ∃ v H', s'.os = s.os ∧ AllBare s'.gens ∧ Un (frs outer) [] H H' s.heap s'.heap ∧ HOk P w H' s'.heap ∧ RelV v u ∧ Q v H'
def CR (CX : CXT) (outer : List Env) (P : Program) (w : World) (H : Hp) (s : Shared) (Q : VK) (E : XK) (r : Result) (s' : Shared) : Prop :=
  match r with
  | .ok (.ret u) => CE outer P w H s Q u s'
  | .ok _ => False
  | .error e => CX outer H s E e s'
structure FnOk (P : Program) (w : World) (K : PySem.W.Frag) (mg : Str → Option Value) (base : Heap) (CX : CXT) (k : Nat) (f : Addr) (fd : FuncData) (ps : List Str) (sp : Sp) : Prop where
  len : ∀ vs H Q E, sp vs H Q E → vs.length = ps.length
  run : ∀ (A : Around) (outer : List Env) (s : Shared) (H : Hp) (args : Args) (us : List Value) (vs : List V) (Q : VK) (E : XK), Room k A → Env0 P w K mg base A outer s H → BindsTo s fd args (ps.zip us) → Vals vs us → sp vs H Q E →
    codeAny (model P w) A (.call (.ref f) args) (CR CX outer P w H s Q E) s
theorem FnOk.mono {P : Program} {w : World} {K : PySem.W.Frag} {mg : Str → Option Value} {base : Heap} {CX : CXT} {j k : Nat} {f : Addr} {fd : FuncData} {ps : List Str} {sp : Sp} (F : FnOk P w K mg base CX j f fd ps sp) (h : j ≤ k) :
    FnOk P w K mg base CX k f fd ps sp := ⟨F.len, fun A outer s H args us vs Q E hr => F.run A outer s H args us vs Q E (hr.mono h)⟩
theorem FnOk.imp {P : Program} {w : World} {K : PySem.W.Frag} {mg : Str → Option Value} {base : Heap} {CX : CXT} {k : Nat} {f : Addr} {fd : FuncData} {ps : List Str} {sp sp' : Sp} (F : FnOk P w K mg base CX k f fd ps sp)
    (h : ∀ vs H Q E, sp' vs H Q E → sp vs H Q E) : FnOk P w K mg base CX k f fd ps sp' :=
  ⟨fun vs H Q E q => F.len vs H Q E (h _ _ _ _ q), fun A outer s H args us vs Q E hr he hb hv hs => F.run A outer s H args us vs Q E hr he hb hv (h _ _ _ _ hs)⟩

theorem Env0.make {P : Program} {w : World} {K : PySem.W.Frag} {mg : Str → Option Value} {base : Heap} {A : Around} {outer : List Env} {s : Shared} {H : Hp} (e : Env0 P w K mg base A outer s H) (C : Addr) (us : List Value) (kw : List (Str × Value)) :
    Env0 P w K mg base (A.under (.builtin "type.__call__" ⟨.ref C :: us, kw⟩)) outer s H := ⟨by first | exact e.frames | (simpa [Around.under, Code.envs, Code.isFrame, pushEnvs] using e.frames), e.mod, e.bs, e.bsz, e.funs, e.frf, e.hok, e.bare⟩
theorem Env0.in1 {P : Program} {w : World} {K : PySem.W.Frag} {mg : Str → Option Value} {base : Heap} {A : Around} {outer : List Env} {s : Shared} {H : Hp} (e : Env0 P w K mg base A outer s H) :
    Env0 P w K mg base A.in1 outer s H := ⟨e.frames, e.mod, e.bs, e.bsz, e.funs, e.frf, e.hok, e.bare⟩

section
variable {X : Cx} {pins : List (Addr × Obj)} {σ : St} {H : Hp} {s s' : Shared}
theorem Inv.env0 (I : Inv X pins σ H s) : Env0 X.prog X.w X.K X.mg X.base X.A X.stack s H :=
  ⟨I.ok.frames, I.ok.mod, I.bs, Nat.le_trans I.ok.bsz I.sz, I.stack, I.stkFree, I.hok, I.bare⟩
theorem Inv.after {Q : VK} {u : Value} (I : Inv X pins σ H s) (h : CE X.stack X.prog X.w H s Q u s') : EP X pins σ Q u s' := by
  obtain ⟨v, H', os, bare, un, hok, r, q⟩ := h
  obtain ⟨hh, g, d, t, os'⟩ := s'
  obtain rfl : os' = s.os := os
  exact ⟨v, H', I.call (h' := hh) (g' := g) (d' := d) (t' := t) (ch := []) un hok bare (fun b z => absurd z (by simp)), r, q⟩
end

def tCall (sp : Sp) (dvs : List V) (E : XK) (t : TA) : TE := fun σ H Q => t σ H fun vs H1 => sp (vs ++ dvs) H1 Q E
def tMeth (C : Addr) (m : Str) (sp : Sp) (dvs : List V) (E : XK) (ta : TE) (t : TA) : TE := fun σ H Q => ta σ H fun x H1 => ∃ a dx fs, x = .ref a ∧ H1 a = some (.ins C dx fs) ∧ fs.lookup m = none ∧
  t σ H1 fun vs H2 => sp (x :: (vs ++ dvs)) H2 Q E
def Binds (K : PySem.W.Frag) (fd : FuncData) (ps : List Str) (ds : List Value) : Prop :=
  ∀ (s : Shared) (us : List Value), K.In s.heap → (us ++ ds).length = ps.length → BindsTo s fd ⟨us, []⟩ (ps.zip (us ++ ds))
theorem Binds.all {K : PySem.W.Frag} {fd : FuncData} {ps : List Str} (h : ∀ us : List Value, us.length = ps.length → bindArgs fd ⟨us, []⟩ = pure (ps.zip us)) : Binds K fd ps [] := fun s us _ hl => by
  rw [List.append_nil] at hl ⊢
  exact .of_eq (h us hl)

def Passes (CX : CXT) (X : Cx) (E : XK) : Prop := ∀ (pins : List (Addr × Obj)) (σ : St) (H : Hp) (s : Shared) (e : Value) (s' : Shared), Inv X pins σ H s → CX X.stack H s E e s' → X.xe e s'

section
variable {X : Cx} {CX : CXT} {k : Nat} {f C : Addr} {fd : FuncData} {ps : List Str} {sp : Sp} {dvs : List V} {ds : List Value} {E : XK} {x m : Str} {p pos apos : Pos} {e o : Expr} {es : List Expr} {ta : TE} {t : TA}

theorem run_fn {pins : List (Addr × Obj)} {σ : St} {H : Hp} {s : Shared} {Q : VK} {us : List Value} {vs : List V} (F : FnOk X.prog X.w X.K X.mg X.base CX k f fd ps sp) (hr : Room k X.A) (hb : Binds X.K fd ps ds) (hd : Vals dvs ds) (hx : Passes CX X E)
    (I : Inv X pins σ H s) (r : Vals vs us) (h : sp (vs ++ dvs) H Q E) : wpAny (model X.prog X.w) X.A (call (.ref f) us) (EP X pins σ Q) X.xe s := by
  have r2 : Vals (vs ++ dvs) (us ++ ds) := r.append hd
  have hl : (us ++ ds).length = ps.length := by rw [← r2.length]; exact F.len _ _ _ _ h
  refine wpAny_call (codeAny_mono (F.run X.A X.stack s H ⟨us, []⟩ (us ++ ds) (vs ++ dvs) Q E hr I.env0 (hb s us I.kIn hl) r2 h) fun r s' hq => ?_)
  cases r with
  | error e => exact hx pins σ H s e s' I hq
  | ok fl =>
    cases fl with
    | ret u => exact I.after hq
    | next => exact False.elim hq
    | brk => exact False.elim hq
    | cont => exact False.elim hq

theorem pe_call (F : FnOk X.prog X.w X.K X.mg X.base CX k f fd ps sp) (hr : Room k X.A) (hg : Gl X x) (hm : X.mg x = some (.ref f)) (hk : PySem.W.keepIn X.K (.ref f) = true) (hb : Binds X.K fd ps ds) (hd : Vals dvs ds) (hx : Passes CX X E)
    (ha : PA X (e :: es) t) (hdb : (x == ("__debug__" : Str)) = false := by decide) (he : starEach (e :: es) X.env = (false, eval e X.env) :: starEach es X.env := by rfl) (hpl : (backTo pos (starEach es X.env)).any (·.1) = false := by rfl) :
    PE X (.Call (.Name x p) (e :: es) [] pos) (tCall sp dvs E t) := by
  intro pins s σ H Q I h
  refine wpAny_Call_Name_kw (ld_glob I hg hm ?_ hdb)
  refine PySem.W.callWith_K (h₀ := X.base) I.ok.mod.kin hk (thn (ha pos pins s σ H _ I h) fun us s1 ⟨vs, H1, I1, r, q⟩ => ⟨I1.kIn, ?_⟩) he hpl
  exact run_fn F hr hb hd hx I1 r q
theorem pe_call0 (F : FnOk X.prog X.w X.K X.mg X.base CX k f fd ps sp) (hr : Room k X.A) (hg : Gl X x) (hm : X.mg x = some (.ref f)) (hk : PySem.W.keepIn X.K (.ref f) = true) (hb : Binds X.K fd ps ds) (hd : Vals dvs ds) (hx : Passes CX X E)
    (hdb : (x == ("__debug__" : Str)) = false := by decide) : PE X (.Call (.Name x p) [] [] pos) (tCall sp dvs E tNil) := by
  intro pins s σ H Q I h
  refine wpAny_Call_Name_kw (ld_glob I hg hm ?_ hdb)
  exact PySem.W.callWith_K0 I.kIn hk (run_fn (us := []) F hr hb hd hx I .nil h)

theorem pe_meth {pl : Sem Bool} (he : PE X o ta) (c : Cls X.K C) (hm : Meth X.K C m f) (F : FnOk X.prog X.w X.K X.mg X.base CX k f fd ps sp) (hr : Room k X.A) (hb : Binds X.K fd ps ds) (hd : Vals dvs ds) (hx : Passes CX X E) (ha : PA X (e :: es) t)
    (hst : starEach (e :: es) X.env = (false, eval e X.env) :: starEach es X.env := by rfl) (hpl : (backTo pos (starEach es X.env)).any (·.1) = false := by rfl)
    (ht : eval (.Call (.Attribute o m apos) (e :: es) [] pos) X.env = (do
      let ov ← eval o X.env
      standAt apos.atName
      let (f, first) ← holding [ov] (getMethod ov m pl)
      callWith pos f first (backTo pos (starEach (e :: es) X.env)) (backToKw pos (keywordEach [] X.env))) := by rfl) :
    PE X (.Call (.Attribute o m apos) (e :: es) [] pos) (tMeth C m sp dvs E ta t) := by
  intro pins s σ H Q I h
  refine PySem.W.methodCall_KW (pl := pl) (thn (he pins s σ H _ I h) fun u s1 ⟨x, H1, I1, rx, a, dx, fs, ex, ea, l, q⟩ => ?_) ht
  subst ex
  obtain rfl : u = Value.ref a := rx
  refine getmeth_ok I1 ea c hm l ?_
  refine PySem.W.callWith_K (first := [.ref a]) (h₀ := X.base) I.ok.mod.kin hm.kp (thn (ha pos pins s1 σ H1 _ I1 q) fun us s2 ⟨vs, H2, I2, r, q2⟩ => ⟨I2.kIn, ?_⟩) hst hpl
  exact run_fn (us := .ref a :: us) (vs := .ref a :: vs) F hr hb hd hx I2 (.cons rfl r) q2
theorem pe_meth0 {pl : Sem Bool} (he : PE X o ta) (c : Cls X.K C) (hm : Meth X.K C m f) (F : FnOk X.prog X.w X.K X.mg X.base CX k f fd ps sp) (hr : Room k X.A) (hb : Binds X.K fd ps ds) (hd : Vals dvs ds) (hx : Passes CX X E)
    (ht : eval (.Call (.Attribute o m apos) [] [] pos) X.env = (do
      let ov ← eval o X.env
      standAt apos.atName
      let (f, first) ← holding [ov] (getMethod ov m pl)
      callWith pos f first (backTo pos (starEach [] X.env)) (backToKw pos (keywordEach [] X.env))) := by rfl) :
    PE X (.Call (.Attribute o m apos) [] [] pos) (tMeth C m sp dvs E ta tNil) := by
  intro pins s σ H Q I h
  refine PySem.W.methodCall_KW (pl := pl) (thn (he pins s σ H _ I h) fun u s1 ⟨x, H1, I1, rx, a, dx, fs, ex, ea, l, q⟩ => ?_) ht
  subst ex
  obtain rfl : u = Value.ref a := rx
  refine getmeth_ok I1 ea c hm l ?_
  exact PySem.W.callWith_K0 (first := [.ref a]) I1.kIn hm.kp (run_fn (us := [.ref a]) (vs := [.ref a]) F hr hb hd hx I1 (.cons rfl .nil) q)

structure Mk (K : PySem.W.Frag) (C f : Addr) : Prop where
  makes : PySem.W.makesIn K C = true
  init : PySem.W.findIn K (.ref C) "__init__" = some (some (.ref f))
  fn : PySem.W.isFn K (.ref f) = true
  kp : PySem.W.keepIn K (.ref C) = true

end

section
variable {X : Cx} {CX : CXT} {k : Nat} {f C : Addr} {fd : FuncData} {ps ks : List Str} {sp : Sp} {E : XK} {x m : Str} {p pos apos kpos : Pos} {e o : Expr} {es : List Expr} {kws : List Keyword} {te ta : TE} {t tk : TA} {nm : Option Str}
variable {g : List Value → List Value → List Value} {gV : List V → List V → List V}
end

structure FnScope (N P : List Str) (sc : Scope) : Prop where
  kind : sc.kind = .function
  co : sc.isCoroutine = false
  gen : sc.isGenerator = false
  nd : N.Nodup
  pre : N.take P.length = P
  par : ∀ x ∈ P, sc.names.lookup x = some .local ∨ sc.names.lookup x = some .cell
  nofree : ∀ y ∈ sc.names, y.2 ≠ .free

theorem bindL_out {kindOf : Str → Option NameKind} {x : Str} : ∀ {binds : List (Str × Value)} {m : Str → Option Value}, (∀ v, (x, v) ∉ binds) → bindL kindOf binds m x = m x
  | [], _, _ => rfl
  | (n, v) :: r, m, h => by
    unfold bindL
    rw [bindL_out fun w hw => h w (List.mem_cons_of_mem _ hw)]
    split
    · have : x ≠ n := by rintro rfl; exact h v List.mem_cons_self
      simp [this]
    · rfl
theorem bindC_out {kindOf : Str → Option NameKind} {x : Str} : ∀ {binds : List (Str × Value)} {m : Str → Option Value}, (∀ v, (x, v) ∉ binds) → bindC kindOf binds m x = m x
  | [], _, _ => rfl
  | (n, v) :: r, m, h => by
    unfold bindC
    rw [bindC_out fun w hw => h w (List.mem_cons_of_mem _ hw)]
    split
    · rfl
    · have : x ≠ n := by rintro rfl; exact h v List.mem_cons_self
      simp [this]
theorem bindL_get {kindOf : Str → Option NameKind} {x : Str} {v : Value} : ∀ {P : List Str} {vs : List Value} {i : Nat} {m : Str → Option Value}, P.Nodup → P[i]? = some x → vs[i]? = some v → kindOf x = some .local →
    bindL kindOf (P.zip vs) m x = some v
  | [], _, _, _, _, h, _, _ => by simp at h
  | _ :: _, [], _, _, _, _, h, _ => by simp at h
  | p :: P, w :: vs, 0, m, nd, h1, h2, hk => by
    simp at h1 h2; subst h1; subst h2
    show bindL kindOf ((p, w) :: P.zip vs) m p = _
    unfold bindL
    rw [bindL_out fun v hv => (List.nodup_cons.mp nd).1 (List.of_mem_zip hv).1, if_pos hk]
    simp
  | p :: P, w :: vs, i + 1, m, nd, h1, h2, hk => by
    show bindL kindOf ((p, w) :: P.zip vs) m x = _
    unfold bindL
    exact bindL_get (i := i) (List.nodup_cons.mp nd).2 (by simpa using h1) (by simpa using h2) hk
theorem bindC_get {kindOf : Str → Option NameKind} {x : Str} {v : Value} : ∀ {P : List Str} {vs : List Value} {i : Nat} {m : Str → Option Value}, P.Nodup → P[i]? = some x → vs[i]? = some v → kindOf x ≠ some .local →
    bindC kindOf (P.zip vs) m x = some v
  | [], _, _, _, _, h, _, _ => by simp at h
  | _ :: _, [], _, _, _, _, h, _ => by simp at h
  | p :: P, w :: vs, 0, m, nd, h1, h2, hk => by
    simp at h1 h2; subst h1; subst h2
    show bindC kindOf ((p, w) :: P.zip vs) m p = _
    unfold bindC
    rw [bindC_out fun v hv => (List.nodup_cons.mp nd).1 (List.of_mem_zip hv).1, if_neg hk]
    simp
  | p :: P, w :: vs, i + 1, m, nd, h1, h2, hk => by
    show bindC kindOf ((p, w) :: P.zip vs) m x = _
    unfold bindC
    exact bindC_get (i := i) (List.nodup_cons.mp nd).2 (by simpa using h1) (by simpa using h2) hk

def start (N : List Str) (vs : List V) : St := vs.map some ++ List.replicate (N.length - vs.length) none

def cxOf (CX : CXT) (P : Program) (w : World) (K : PySem.W.Frag) (mg : Str → Option Value) (base : Heap) (N : List Str) (qual : Str) (scope : Scope) (f : Addr) (cd : Value) (A : Around) (outer : List Env) (s : Shared) (H : Hp) (E : XK) : Cx where
  prog := P
  w := w
  K := K
  mg := mg
  base := base
  A := A.deeper (envOfC qual scope s.heap.objs.size f cd)
  N := N
  s₀ := s
  H₀ := H
  env := envOfC qual scope s.heap.objs.size f cd
  outer := outer
  stack := envOfC qual scope s.heap.objs.size f cd :: outer
  ex := []
  calm := true
  fn := fun _ => true
  pn := []
  xe := fun e s' => wpAny (model P w) (A.deeper (envOfC qual scope s.heap.objs.size f cd)) (leaving (envOfC qual scope s.heap.objs.size f cd) e) (fun _ s'' => CX outer H s E e s'') (fun e' s'' => CX outer H s E e' s'') s'

theorem cell_has {sc : Scope} {n : Nat} {x : Str} (h : sc.names.lookup x = some .cell) : ∃ c, (cellsFrom n sc.names []).lookup x = some c := by
  have q := PySem.W.cellsFrom_some sc.names n [] (.inl h)
  exact Option.isSome_iff_exists.mp q

theorem inv_start {CX : CXT} {P : Program} {w : World} {K : PySem.W.Frag} {mg : Str → Option Value} {base : Heap} {N ps : List Str} {qual : Str} {scope : Scope} {f : Addr} {cd : Value} {A : Around} {outer : List Env} {s s1 : Shared} {H : Hp} {E : XK} {us : List Value} {vs : List V}
    (S : FnScope N ps scope) (hd : A.handled = none) (e0 : Env0 P w K mg base A outer s H) (hl : vs.length = ps.length) (r : Vals vs us)
    (x : InCallC s s.heap.objs.size (bindL (envOfC qual scope s.heap.objs.size f cd).kindOf (ps.zip us) fun _ => none) (cellsFrom (s.heap.objs.size + 1) scope.names []) (bindC (envOfC qual scope s.heap.objs.size f cd).kindOf (ps.zip us) fun _ => none) s1) :
    Inv (cxOf CX P w K mg base N qual scope f cd A outer s H E) [] (start N vs) H s1 := by
  have hpl : ps.length ≤ N.length := by have := congrArg List.length S.pre; rw [List.length_take] at this; omega
  obtain ⟨h1, tk, rfl, hk⟩ := x.done
  have noA : ∀ b : Addr, b ∉ (cxOf CX P w K mg base N qual scope f cd A outer s H E).ex := fun b z => absurd (show b ∈ ([] : List Addr) from z) (by simp)
  refine ⟨⟨e0.mod, S.kind, rfl, rfl, Nat.le_refl _, fun y z c h1 h2 => ?_, fun y hy => ?_, fun y c _ h => ?_, fun _ => hd, Around.frames_deeper e0.frames, .inr ⟨rfl, rfl⟩, fun b z => absurd z (noA b), e0.bs, e0.bsz, fun b _ _ => noA b, fun b z => absurd z (noA b), e0.funs, e0.frf⟩,
    rfl, e0.bare, Un.kept hk, ⟨_, x.toInCall.ns, fun i y v h1 h2 h3 => ?_⟩, fun y c h => ⟨_, x.cell y c h⟩, e0.hok.fresh (Nat.le_refl _), fun y c h => ?_, fun p hp => absurd (show p ∈ ([] : List (Addr × Obj)) from hp) (by simp), e0.hok.kept hk, ?_⟩
  · exact name_of_addr x.apart (PySem.mem_of_lookup h1) (PySem.mem_of_lookup h2)
  · have hy : scope.names.lookup y = some .cell ∨ scope.names.lookup y = some .free := hy
    rcases hy with hy | hy
    · exact cell_has hy
    · exact absurd rfl (S.nofree _ (PySem.mem_of_lookup hy))
  · exact Nat.le_of_lt (x.above y c (PySem.mem_of_lookup h))
  · have hi : i < vs.length := by
      unfold start at h2
      by_cases hi : i < vs.length
      · exact hi
      · rw [List.getElem?_append_right (by simpa using hi)] at h2
        rw [List.getElem?_replicate] at h2
        split at h2 <;> cases h2
    have ha : vs[i]? = some v := by
      unfold start at h2
      rw [List.getElem?_append_left (by simpa using hi), List.getElem?_map] at h2
      cases e : vs[i]? with
      | none => rw [e] at h2; cases h2
      | some a => rw [e] at h2; cases h2; rfl
    obtain ⟨u, hu, rv⟩ := r.get ha
    have hp : ps[i]? = some y := by
      rw [← S.pre, List.getElem?_take_of_lt (by omega)]; exact h1
    have ndP : ps.Nodup := by rw [← S.pre]; exact S.nd.sublist (List.take_sublist _ _)
    refine ⟨u, rv, ?_⟩
    rcases S.par y (List.mem_of_getElem? hp) with k | k
    · exact .inl ⟨k, bindL_get ndP hp hu k⟩
    · obtain ⟨c, e⟩ := cell_has (n := s.heap.objs.size + 1) k
      refine .inr ⟨.inl k, c, e, ?_⟩
      have q := x.cell y c e
      rw [bindC_get ndP hp hu (by show scope.names.lookup y ≠ _; rw [k]; decide)] at q
      exact q
  · exact e0.hok.fresh (Nat.le_of_lt (x.above y c (PySem.mem_of_lookup h)))
  · unfold start
    show _ = N.length
    rw [List.length_append, List.length_map, List.length_replicate]
    omega

theorem fn_of {CX : CXT} {P : Program} {w : World} {K : PySem.W.Frag} {mg : Str → Option Value} {base : Heap} {k : Nat} {f : Addr} {name qual : Str} {params : Arguments} {body : List Stmt} {scope : Scope} {dV kV doc pm cdv ct oc : Value} {an od : Option Addr}
    {osl : Array (Option Value)} {N ps : List Str} {sp : Sp} (lk : K.lookup f = some ⟨oc, od, .func (PySem.W.fnOf name qual params body scope dV kV doc pm an cdv ct), osl⟩) (hcd : PySem.W.codeIn K cdv qual = true) (S : FnScope N ps scope)
    (len : ∀ vs H Q E, sp vs H Q E → vs.length = ps.length)
    (hbody : ∀ (A : Around) (outer : List Env) (s : Shared) (H : Hp) (vs : List V) (Q : VK) (E : XK), Room k (A.deeper (envOfC qual scope s.heap.objs.size f cdv)) → sp vs H Q E →
      ∃ t, PSs (cxOf CX P w K mg base N qual scope f cdv A outer s H E) body t ∧ t { nx := fun _ H' => Q .non H', rt := Q } (start N vs) H) :
    FnOk P w K mg base CX (k + 1) f (PySem.W.fnOf name qual params body scope dV kV doc pm an cdv ct) ps sp := by
  refine ⟨len, fun A outer s H args us vs Q E hr e0 hb r hsp => ?_⟩
  have hl := len _ _ _ _ hsp
  have KX : K.In s.heap := e0.mod.kin.keeps fun b o e => (e0.bs b o e).1
  have lim : s.heap.NoLimit := e0.mod.nolimit.keeps fun b o e => (e0.bs b o e).1
  have hkind : ∀ y ∈ ps.zip us, scope.names.lookup y.1 = some .local ∨ (scope.names.lookup y.1 = some .cell ∧ ((cellsFrom (s.heap.objs.size + 1) scope.names []).lookup y.1).isSome = true) := fun ⟨n, v⟩ hy => by
    rcases S.par n (List.of_mem_zip hy).1 with q | q
    · exact .inl q
    · exact .inr ⟨q, PySem.W.cellsFrom_some _ _ _ (.inl q)⟩
  refine codeAny_call_function hr.depth (KX _ _ lk) rfl S.co S.gen rfl (PySem.W.codeRec_of KX hcd) (hb _ _ _ _ ?_)
  refine wpAny_newFunctionEnv_cells S.kind hkind fun env he s1 x => ?_
  subst he
  refine ⟨lim.keeps x.toInCall.keep, codeAny_func ?_⟩
  obtain ⟨t, ht, hq⟩ := hbody A outer s H vs Q E (hr.deeper _) hsp
  have I : Inv (cxOf CX P w K mg base N qual scope f cdv A outer s H E) [] (start N vs) H s1 := inv_start S hr.hd e0 hl r x
  refine wpAny_mono (ht [] s1 (start N vs) H _ I hq) (fun fl s' hs => ?_) fun e s' hs => hs
  have fin : ∀ {σ' : St} {H' : Hp} {v : V} {u : Value}, Inv (cxOf CX P w K mg base N qual scope f cdv A outer s H E) [] σ' H' s' → RelV v u → Q v H' → CE outer P w H s Q u s' :=
    fun {σ' H' v u} J rv q => ⟨v, H', J.os, J.bare, J.base, J.hok, rv, q⟩
  cases fl with
  | ret u =>
    obtain ⟨v, σ', H', J, rv, q⟩ := hs
    exact fin J rv q
  | next =>
    obtain ⟨σ', H', J, q⟩ := hs
    exact fin (v := V.non) (u := Value.none) J rfl q
  | brk =>
    obtain ⟨_, _, _, q⟩ := hs
    exact False.elim q
  | cont =>
    obtain ⟨_, _, _, q⟩ := hs
    exact False.elim q
end L2

namespace L2
open PySem PySem.Spec PyProof.Rows
section
variable {X : Cx} {x : Str} {p pos : Pos} {e : Expr} {es : List Expr} {t : TA} {id T : String} {r : List V → Hp → VK → Prop}

def tCB (r : List V → Hp → VK → Prop) (t : TA) : TE := fun σ H Q => t σ H fun vs H1 => r vs H1 Q
theorem pe_callB (hc : CallR X (.builtin id) r) (hg : Gl X x) (hm : X.mg x = none) (hv : bootBuiltins x = some (.builtin id)) (ha : PA X (e :: es) t) (hn : x ≠ "__name__" := by decide) (hdb : (x == ("__debug__" : Str)) = false := by decide)
    (he : starEach (e :: es) X.env = (false, eval e X.env) :: starEach es X.env := by rfl) (hpl : (backTo pos (starEach es X.env)).any (·.1) = false := by rfl) : PE X (.Call (.Name x p) (e :: es) [] pos) (tCB r t) := by
  intro pins s σ H Q I h
  refine wpAny_Call_Name_kw (ld_blt I hg hm hv ?_ hn hdb)
  exact PyProof.Rows.callWith_builtin1 (thn (ha pos pins s σ H _ I h) fun us s1 ⟨vs, H1, I1, r1, q1⟩ => hc pins s1 σ H1 vs us Q I1 r1 q1) he hpl
theorem pe_callTy (hc : CallR X (.type T) r) (hg : Gl X x) (hm : X.mg x = none) (hv : bootBuiltins x = some (.type T)) (ha : PA X (e :: es) t) (hn : x ≠ "__name__" := by decide) (hdb : (x == ("__debug__" : Str)) = false := by decide)
    (he : starEach (e :: es) X.env = (false, eval e X.env) :: starEach es X.env := by rfl) (hpl : (backTo pos (starEach es X.env)).any (·.1) = false := by rfl) : PE X (.Call (.Name x p) (e :: es) [] pos) (tCB r t) := by
  intro pins s σ H Q I h
  refine wpAny_Call_Name_kw (ld_blt I hg hm hv ?_ hn hdb)
  exact PyProof.Rows.callWith_type1 (thn (ha pos pins s σ H _ I h) fun us s1 ⟨vs, H1, I1, r1, q1⟩ => hc pins s1 σ H1 vs us Q I1 r1 q1) he hpl
end
end L2

namespace HT
open PySem PyProof.Rows

section
open PySem.SeqAt
open PySem.AutoSeq1 (wpAny_loadPart')
open PySem.MeetsSeq PySem.MeetsSeq2 PySem.MeetsSeq3

end

section
variable {prog : Program} {w : World} {A : Around} {E : Value → Shared → Prop} {s : Shared}

end
end HT

namespace L2
open PySem PySem.Spec PyProof.Rows

abbrev TO := St → Hp → (Option Int → Hp → Prop) → Prop
section
variable {X : Cx} {e : Expr} {te : TE} {lo hi : Option Expr} {tl th : TO} {pos p2 : Pos}

end
end L2

namespace L2
open PySem PySem.Spec PyProof.Rows

def ixN (n : Nat) (i : Int) : Option Nat := if 0 ≤ i then (if i < n then some i.toNat else none) else if -(n : Int) ≤ i then some (i + n).toNat else none
def atI {α : Type} (xs : List α) (i : Int) : Option α := (ixN xs.length i).bind fun j => xs[j]?
theorem ixN_seq {n : Nat} {i : Int} {j : Nat} (h : ixN n i = some j) : seqIndex? i n = some j ∧ j < n ∧ -(n : Int) ≤ i ∧ i < n := by
  unfold ixN at h
  by_cases h0 : 0 ≤ i
  · rw [if_pos h0] at h
    by_cases h1 : i < n
    · rw [if_pos h1] at h
      have e : i.toNat = j := Option.some.inj h
      exact ⟨by rw [seqIndex_of h0 h1, e], by omega, by omega, h1⟩
    · rw [if_neg h1] at h; cases h
  · rw [if_neg h0] at h
    by_cases h1 : -(n : Int) ≤ i
    · rw [if_pos h1] at h
      have e : (i + n).toNat = j := Option.some.inj h
      exact ⟨by rw [seqIndex_neg (by omega) h1, e], by omega, h1, by omega⟩
    · rw [if_neg h1] at h; cases h
theorem atI_get {α : Type} {xs : List α} {i : Int} {v : α} (h : atI xs i = some v) : ∃ j, seqIndex? i xs.length = some j ∧ xs[j]? = some v ∧ j < xs.length ∧ -(xs.length : Int) ≤ i ∧ i < xs.length := by
  unfold atI at h
  cases e : ixN xs.length i with
  | none => rw [e] at h; cases h
  | some j =>
    rw [e] at h
    obtain ⟨h1, h2, h3, h4⟩ := ixN_seq e
    exact ⟨j, h1, h, h2, h3, h4⟩
theorem atI_nat {α : Type} {xs : List α} {j : Nat} {v : α} (h : xs[j]? = some v) : atI xs (j : Int) = some v := by
  have hj : j < xs.length := (List.getElem?_eq_some_iff.mp h).1
  have e : ixN xs.length (j : Int) = some j := by
    unfold ixN
    rw [if_pos (by omega), if_pos (by omega)]; simp
  unfold atI; rw [e]; exact h
def PlainIx (b : Expr) : Prop := ∀ o i, subscripted b false o i = operate [o, i] (getItem o i)
def IxR (X : Cx) (r : R2) : Prop :=
  ∀ (value slice : Expr) (pins : List (Addr × Obj)) (s : Shared) (σ : St) (H : Hp) (x y : V) (v u : Value) (Q : VK), Inv X pins σ H s → RelV x v → RelV y u → r x y H Q →
    subscripted slice false v u = operate [v, u] (getItem v u) → wpAny (model X.prog X.w) X.A (subscriptTail value slice v u) (EP X pins σ Q) X.xe s
def MtR (X : Cx) (id : String) (r : V → List V → Hp → VK → Prop) : Prop :=
  ∀ (pins : List (Addr × Obj)) (s : Shared) (σ : St) (H : Hp) (x : V) (xs : List V) (v : Value) (us : List Value) (Q : VK), Inv X pins σ H s → RelV x v → Vals xs us → r x xs H Q →
    wpAny (model X.prog X.w) X.A (call (.builtin id) (v :: us)) (EP X pins σ Q) X.xe s
section
variable {X : Cx} {a b : Expr} {ta tb : TE} {pos : Pos}
theorem pe_ix {r : R2} (hr : IxR X r) (ha : PE X a ta) (hb : PE X b tb) (hs : PlainIx b) : PE X (.Subscript a b pos) (tOp r ta tb) := by
  intro pins s σ H Q I h
  exact Subscript_ (binT ha hb I h fun v u s2 x y H2 I2 rx ry q => hr a b pins s2 σ H2 x y v u Q I2 rx ry q (hs _ _))

def rIxL (K : PySem.W.Frag) : R2 := fun x y H Q => ∃ p xs i v, x = .ref p ∧ y = .int i ∧ SqL K H p xs ∧ atI xs i = some v ∧ Q v H
def rIxT (K : PySem.W.Frag) : R2 := fun x y H Q => ∃ p xs i v, x = .ref p ∧ y = .int i ∧ SqT K H p xs ∧ atI xs i = some v ∧ Q v H
theorem ix_list : IxR X (rIxL X.K) := by
  intro value slice pins s σ H x y v u Q I rx ry h hs
  obtain ⟨p, xs, i, z, rfl, rfl, hq, he, q⟩ := h
  cases rx
  obtain ⟨t, rfl⟩ := ry
  obtain ⟨its, r, pl, hz⟩ := I.list hq
  obtain ⟨j, h1, h2, h3, h4, h5⟩ := atI_get he
  obtain ⟨w, ew, rw'⟩ := r.get h2
  have hl := r.length
  have hn := line63
  have fin : EP X pins σ Q w s := ⟨z, H, I, rw', q⟩
  by_cases h0 : 0 ≤ i
  · have hj : i.toNat = j := by
      rw [seqIndex_of h0 h5] at h1
      exact Option.some.inj h1
    exact item_listR pl.isList h0 (by omega) (by rw [hj]; simpa using ew) fin hs
  · have hj : (i + (its.toArray.size : Int)).toNat = j := by
      rw [seqIndex_neg (by omega) h4] at h1
      rw [List.size_toArray, ← hl]
      exact Option.some.inj h1
    exact subscriptTail_builtinR (x := w) pl.isList.typeIs slot_list_getitem.lookup
      (wpAny_getItem_list_neg (Q := fun r s' => r = w ∧ EP X pins σ Q r s') pl.isList (by omega) (by rw [List.size_toArray] <;> omega) (by omega) (by rw [hj]; simpa using ew) ⟨rfl, fin⟩) hs
theorem ix_tup : IxR X (rIxT X.K) := by
  intro value slice pins s σ H x y v u Q I rx ry h hs
  obtain ⟨p, xs, i, z, rfl, rfl, hq, he, q⟩ := h
  cases rx
  obtain ⟨t, rfl⟩ := ry
  obtain ⟨its, r, pl, hz⟩ := I.tuple hq
  obtain ⟨j, h1, h2, h3, h4, h5⟩ := atI_get he
  obtain ⟨w, ew, rw'⟩ := r.get h2
  have hl := r.length
  have hn := line63
  have fin : EP X pins σ Q w s := ⟨z, H, I, rw', q⟩
  exact subscriptTail_builtinR (x := w) pl.typeIs slot_tuple_getitem.lookup
    (getItem_tuple (j := j) (Q := fun r s' => r = w ∧ EP X pins σ Q r s') pl (by omega) (by omega) (by rw [List.size_toArray, ← hl]; exact h1) (by simpa using ew) ⟨rfl, fin⟩) hs
theorem mapSeq_set (its : List Value) (n j : Nat) (u : Value) : Obj.mapSeq (·.setIfInBounds j u) { cls := .type "list", data := .seq its.toArray n } = { cls := .type "list", data := .seq (its.set j u).toArray n } := by
  simp [Obj.mapSeq]
theorem Inv.lst {pins : List (Addr × Obj)} {σ : St} {H : Hp} {s : Shared} {p : Addr} {xs : List V} (I : Inv X pins σ H s) (h : H p = some (.lst xs)) :
    ∃ (its : List Value) (n : Nat), Vals xs its ∧ s.heap.get? p = some { cls := .type "list", data := .seq its.toArray n } ∧ xs.length ≤ sizeLine := by
  obtain ⟨z, its, n, r, e⟩ := I.hok p _ h
  exact ⟨its, n, r, e, z⟩
theorem Inv.lstUpd {pins : List (Addr × Obj)} {σ : St} {H : Hp} {s : Shared} {p : Addr} {xs ys : List V} {its its' : List Value} {n n' : Nat} {f : Obj → Obj} (I : Inv X pins σ H s) (h : H p = some (.lst xs))
    (ho : s.heap.get? p = some { cls := .type "list", data := .seq its.toArray n }) (hf : f { cls := .type "list", data := .seq its.toArray n } = { cls := .type "list", data := .seq its'.toArray n' }) (r : Vals ys its') (hz : ys.length ≤ sizeLine) (t : Nat) :
    Inv X pins σ (upd H p (.lst ys)) { s with heap := s.heap.update p f, toks := t } := by
  have e : (s.heap.update p f).get? p = some { cls := .type "list", data := .seq its'.toArray n' } := by
    rw [Heap.get?_update_self f ho (by rw [hf] <;> rfl), hf]
  refine I.write (x := p) (e := p) (by rw [h]; trivial) (.inl rfl) (fun b u hb q => (Heap.get?_update_other _ _ (Ne.symm hb)).trans q) ⟨_, e⟩ ?_
  exact ⟨hz, its', n', r, e⟩
def rSetL : V → V → V → Hp → (Hp → Prop) → Prop := fun o i v H Q => ∃ p xs k j, o = .ref p ∧ i = .int k ∧ H p = some (.lst xs) ∧ ixN xs.length k = some j ∧ Q (upd H p (.lst (xs.set j v)))
theorem set_list : PSet X rSetL := by
  intro pins s σ H o i v ov iv u Q I ro ri rv h
  obtain ⟨p, xs, k, j, rfl, rfl, hp, hj, q⟩ := h
  cases ro
  obtain ⟨t, rfl⟩ := ri
  obtain ⟨its, n, r, ho, hz⟩ := I.lst hp
  obtain ⟨h1, h2, h3, h4⟩ := ixN_seq hj
  have hl := r.length
  have hn := line63
  have I' : Inv X pins σ (upd H p (.lst (xs.set j v))) { s with heap := s.heap.update p (Obj.mapSeq (·.setIfInBounds j u)) } :=
    I.lstUpd hp ho (mapSeq_set its n j u) (r.set rv j) (by rw [List.length_set]; exact hz) s.toks
  by_cases h0 : 0 ≤ k
  · have hk : k.toNat = j := by
      rw [seqIndex_of h0 h4] at h1
      exact Option.some.inj h1
    exact PySem.W.ki_setAt ho h0 (by omega) (by rw [List.size_toArray, ← hl]; exact h4) (by rw [hk]; exact ⟨_, I', q⟩)
  · have hk : (k + (its.toArray.size : Int)).toNat = j := by
      rw [seqIndex_neg (by omega) h3] at h1
      rw [List.size_toArray, ← hl]
      exact Option.some.inj h1
    exact PySem.W.ki_setBack ho (by omega) (by rw [List.size_toArray, ← hl]; exact h3) (by omega) (by rw [hk]; exact ⟨_, I', q⟩)

def flatV : V → Bool
  | .non => true
  | .bl _ => true
  | .int _ => true
  | .str _ => true
  | _ => false
def eqV : V → V → Bool
  | .non, .non => true
  | .bl a, .bl b => a == b
  | .bl a, .int b => (if a then 1 else 0) == b
  | .int a, .bl b => a == (if b then 1 else 0)
  | .int a, .int b => a == b
  | .str a, .str b => a == b
  | _, _ => false
theorem eqAt_V {A : Around} {s : Shared} {y x : V} {u v : Value} (ry : RelV y u) (rx : RelV x v) (fy : flatV y = true) (fx : flatV x = true) : SeqAt.EqAt A s u v (eqV y x) := by
  cases y with
  | non =>
    cases ry
    cases x with
    | non => cases rx; exact SeqAt.EqAt.same _
    | bl b => cases rx; exact SeqAt.EqAt.none_bool b
    | int b => obtain ⟨t, rfl⟩ := rx; exact SeqAt.EqAt.none_int b t
    | str b => obtain ⟨t, rfl⟩ := rx; exact SeqAt.EqAt.none_str b t
    | _ => exact absurd (show false = true from fx) Bool.false_ne_true
  | bl a =>
    cases ry
    cases x with
    | non => cases rx; exact SeqAt.EqAt.bool_none a
    | bl b => cases rx; exact SeqAt.EqAt.bool_bool a b
    | int b => obtain ⟨t, rfl⟩ := rx; exact SeqAt.EqAt.bool_int a b t
    | str b => obtain ⟨t, rfl⟩ := rx; exact SeqAt.EqAt.bool_str a b t
    | _ => exact absurd (show false = true from fx) Bool.false_ne_true
  | int a =>
    obtain ⟨t', rfl⟩ := ry
    cases x with
    | non => cases rx; exact SeqAt.EqAt.int_none a t'
    | bl b => cases rx; exact SeqAt.EqAt.int_bool a t' b
    | int b => obtain ⟨t, rfl⟩ := rx; exact SeqAt.EqAt.int_int a t' b t
    | str b => obtain ⟨t, rfl⟩ := rx; exact SeqAt.EqAt.int_str a t' b t
    | _ => exact absurd (show false = true from fx) Bool.false_ne_true
  | str a =>
    obtain ⟨t', rfl⟩ := ry
    cases x with
    | non => cases rx; exact SeqAt.EqAt.str_none a t'
    | bl b => cases rx; exact SeqAt.EqAt.str_bool a t' b
    | int b => obtain ⟨t, rfl⟩ := rx; exact SeqAt.EqAt.str_int a t' b t
    | str b => obtain ⟨t, rfl⟩ := rx; exact SeqAt.EqAt.str_str a t' b t
    | _ => exact absurd (show false = true from fx) Bool.false_ne_true
  | _ => exact absurd (show false = true from fy) Bool.false_ne_true
def eqU (x : V) (u : Value) : Bool := match u with
  | .none => eqV .non x
  | .bool b => eqV (.bl b) x
  | .int i _ => eqV (.int i) x
  | .str z _ => eqV (.str z) x
  | _ => false
theorem eqU_of {x y : V} {u : Value} (r : RelV y u) (f : flatV y = true) : eqU x u = eqV y x := by
  cases y with
  | non => cases r; rfl
  | bl b => cases r; rfl
  | int i => obtain ⟨t, rfl⟩ := r; rfl
  | str z => obtain ⟨t, rfl⟩ := r; rfl
  | _ => exact absurd (show false = true from f) Bool.false_ne_true
theorem mem_eqAt {A : Around} {s : Shared} {x : V} {v : Value} (rx : RelV x v) (fx : flatV x = true) : ∀ {xs : List V} {us : List Value}, Vals xs us → xs.all flatV = true → ∀ u ∈ us, SeqAt.EqAt A s u v (eqU x u)
  | _, _, .nil, _ => fun u hu => by cases hu
  | y :: xs, u :: us, .cons r t, f => fun u' hu => by
    rw [List.all_cons, Bool.and_eq_true] at f
    rcases List.mem_cons.mp hu with rfl | hu
    · rw [eqU_of r f.1]; exact eqAt_V r rx f.1 fx
    · exact mem_eqAt rx fx t f.2 u' hu
theorem call_len_seq : CallR X (.builtin "len") (fun xs H Q => ∃ p ys, xs = [.ref p] ∧ (SqL X.K H p ys ∨ SqT X.K H p ys) ∧ Q (.int ys.length) H) := by
  intro pins s σ H xs us Q I r h
  obtain ⟨p, ys, rfl, hq, q⟩ := h
  obtain ⟨u, rfl, rx⟩ := vals1 r
  cases rx
  have hn := line63
  rcases hq with hq | hq
  · obtain ⟨its, r', pl, hz⟩ := I.list hq
    have hlen := r'.length
    exact Calls.call_len_list pl.isList (by simp only [List.size_toArray] <;> omega) ⟨.int ys.length, H, I.tok _, ⟨s.toks + 1, by rw [List.size_toArray, hlen]⟩, q⟩
  · obtain ⟨its, r', pl, hz⟩ := I.tuple hq
    have hlen := r'.length
    exact len_tuple pl (by simp only [List.size_toArray] <;> omega) ⟨.int ys.length, H, I.tok _, ⟨s.toks + 1, by rw [List.size_toArray, hlen]⟩, q⟩
theorem call_list_of : CallR X (.type "list") (fun xs H Q => ∃ p ys, xs = [.ref p] ∧ (SqL X.K H p ys ∨ SqT X.K H p ys) ∧ ∀ l, H l = none → Q (.ref l) (upd H l (.lst ys))) := by
  intro pins s σ H xs us Q I r h
  obtain ⟨p, ys, rfl, hq, q⟩ := h
  obtain ⟨u, rfl, rx⟩ := vals1 r
  cases rx
  have fin : ∀ (its : List Value), Vals ys its → ys.length ≤ sizeLine → ∀ (h' : Heap) (c' : Nat), (∀ b o', s.heap.get? b = some o' → h'.get? b = some o') →
      h'.get? s.heap.objs.size = some { cls := .type "list", dict := none, data := .seq its.toArray c', slots := #[] } → EP X pins σ Q (.ref s.heap.objs.size) { s with heap := h' } := fun its r' hz h' c' kp e =>
    ⟨.ref s.heap.objs.size, _, I.laid (t' := s.toks) kp (Nat.le_refl _) (show ObjOk X.prog X.w _ h' _ (.lst ys) from ⟨hz, its, c', r', e⟩), rfl, q _ (I.hok.fresh (Nat.le_refl _))⟩
  rcases hq with hq | hq
  · obtain ⟨its, r', pl, hz⟩ := I.list hq
    have hlen := r'.length
    obtain ⟨o, ho, hc, n, hd⟩ := pl.isList
    exact call_list_seq p (.inl rfl) ho hc hd (fun h' c' kp e => fin its r' hz h' c' kp e) (by simp only [List.size_toArray] <;> omega)
  · obtain ⟨its, r', pl, hz⟩ := I.tuple hq
    have hlen := r'.length
    obtain ⟨o, ho, hc, n, hd⟩ := pl
    exact call_list_seq p (.inr rfl) ho hc hd (fun h' c' kp e => fin its r' hz h' c' kp e) (by simp only [List.size_toArray] <;> omega)
def tyV (K : PySem.W.Frag) (T : String) (x : V) (H : Hp) : Prop := match x with
  | .str _ => T = "str"
  | .int _ => T = "int"
  | .ref p => (T = "list" ∧ ∃ xs, SqL K H p xs) ∨ (T = "tuple" ∧ ∃ o, K.lookup p = some o ∧ o.cls = .type "tuple" ∧ o.dict = none) ∨
      (T = "dict" ∧ ((∃ kvs, H p = some (.dK kvs)) ∨ ∃ kvs, H p = some (.dT kvs))) ∨ (T = "set" ∧ ∃ S n, H p = some (.set S n))
  | _ => False
theorem tyV_is {pins : List (Addr × Obj)} {σ : St} {H : Hp} {s : Shared} {T : String} {x : V} {v : Value} (I : Inv X pins σ H s) (r : RelV x v) (ty : tyV X.K T x H) :
    s.TypeIs v T ∧ ∀ a, v = .ref a → ∃ ob, s.heap.get? a = some ob ∧ ob.dict = none := by
  cases x with
  | str z =>
    obtain ⟨t, rfl⟩ := r
    cases (show T = "str" from ty)
    exact ⟨typeIs_str s z t, fun _ e => nomatch e⟩
  | int i =>
    obtain ⟨t, rfl⟩ := r
    cases (show T = "int" from ty)
    exact ⟨typeIs_int s i t, fun _ e => nomatch e⟩
  | ref p =>
    cases r
    rcases ty with ⟨rfl, xs, hq⟩ | ⟨rfl, o, hk, hc, hd⟩ | ⟨rfl, hk⟩ | ⟨rfl, S, n, hk⟩
    · obtain ⟨its, _, pl, _⟩ := I.list hq
      refine ⟨pl.isList.typeIs, fun a e => ?_⟩
      cases e
      obtain ⟨o, n, e, c, hd, _⟩ := pl
      exact ⟨o, e, hd⟩
    · refine ⟨⟨o, I.kIn p o hk, hc⟩, fun a e => ?_⟩
      cases e
      exact ⟨o, I.kIn _ o hk, hd⟩
    · have z : ∃ o, s.heap.get? p = some o ∧ o.ExactDict := by
        rcases hk with ⟨kvs, hk⟩ | ⟨kvs, hk⟩
        · obtain ⟨_, _, _, _, o, _, _, e, ex, _⟩ := I.hok p _ hk
          exact ⟨o, e, ex⟩
        · obtain ⟨_, _, _, _, o, _, _, e, ex, _⟩ := I.hok p _ hk
          exact ⟨o, e, ex⟩
      obtain ⟨o, e, ex⟩ := z
      refine ⟨⟨o, e, ex.1⟩, fun a e2 => ?_⟩
      cases e2
      exact ⟨o, e, ex.2.1⟩
    · obtain ⟨o, _, _, _, e, ex, _⟩ := I.hok p _ hk
      refine ⟨⟨o, e, ex.1⟩, fun a e2 => ?_⟩
      cases e2
      exact ⟨o, e, ex.2.1⟩
  | _ => exact False.elim ty
def tBM (K : PySem.W.Frag) (T : String) (r : V → List V → Hp → VK → Prop) (to : TE) (t : TA) : TE := fun σ H Q => to σ H fun x H1 => tyV K T x H1 ∧ t σ H1 fun xs H2 => r x xs H2 Q
variable {o e : Expr} {es : List Expr} {to : TE} {t : TA} {name : Str} {apos cpos : Pos} {T id : String} {r : V → List V → Hp → VK → Prop}
theorem pe_bm (pa : PlainAttrs T) (slot : Slot T name id) (hty : typeOf (.builtin id) = pure (.type "method_descriptor")) (hm : MtR X id r) (ho : PE X o to) (ha : PA X (e :: es) t)
    (hbase : attributeBase o name X.env (eval o X.env) = eval o X.env := by rfl)
    (hfew : ((backTo cpos (starEach (e :: es) X.env)).all (fun x => !x.1) && (backToKw cpos (keywordEach [] X.env)).all (fun x => x.1.isSome)
      && decide ((e :: es).length + ([] : List Keyword).length + (if ([] : List Keyword).isEmpty then 0 else 1) < 30)) = true := by rfl)
    (hline : (apos.endLine == cpos.line) = true := by rfl) (hs : starEach (e :: es) X.env = (false, eval e X.env) :: starEach es X.env := by rfl) (hplain : (backTo cpos (starEach es X.env)).any (·.1) = false := by rfl) :
    PE X (.Call (.Attribute o name apos) (e :: es) [] cpos) (tBM X.K T r to t) := by
  intro pins s σ H Q I h
  refine wpAny_Call_method_late hbase hfew hline rfl (thn (ho pins s σ H _ I h) fun v s1 ⟨x, H1, I1, r1, ty, q1⟩ => ?_)
  obtain ⟨h1, h2⟩ := tyV_is I1 r1 ty
  refine ⟨T, id, pa, slot, hty, h1, h2, ?_⟩
  have hA := ha cpos pins s1 σ H1 _ I1 q1
  rw [hs] at hA ⊢
  refine Calls.callWith_builtin (by show (false || (backTo cpos (starEach es X.env)).any (·.1)) = false; rw [hplain] <;> rfl) (Calls.evalArgs_plain ?_)
  exact thn hA fun us s2 ⟨vs, H2, I2, r2, q2⟩ => hm pins s2 σ H2 x vs v us Q I2 r1 r2 q2
end
end L2

namespace L2
open PySem PySem.Spec PyProof.Rows

def MtM (X : Cx) (id : String) (r : V → List V → Hp → VK → Prop) : Prop :=
  ∀ (pins : List (Addr × Obj)) (s : Shared) (σ : St) (H : Hp) (x : V) (xs : List V) (v : Value) (us : List Value) (Q : VK), Inv X pins σ H s → RelV x v → Vals xs us → r x xs H Q →
    wpAny (model X.prog X.w) X.A (call (.builtin id) (v :: us)) (EP X pins σ Q) X.xe s

theorem Vals.one : ∀ {x : V} {us : List Value}, Vals [x] us → ∃ u, us = [u] ∧ RelV x u
  | _, _, .cons r .nil => ⟨_, rfl, r⟩
theorem Vals.two : ∀ {x y : V} {us : List Value}, Vals [x, y] us → ∃ u v, us = [u, v] ∧ RelV x u ∧ RelV y v
  | _, _, _, .cons r (.cons q .nil) => ⟨_, _, rfl, r, q⟩
theorem Vals.zero : ∀ {us : List Value}, Vals [] us → us = []
  | _, .nil => rfl
theorem Vals.rep {xs : List V} {us : List Value} (h : Vals xs us) : ∀ k : Nat, Vals (List.replicate k xs).flatten (List.replicate k us).flatten
  | 0 => .nil
  | k + 1 => by
    rw [List.replicate_succ, List.replicate_succ, List.flatten_cons, List.flatten_cons]
    exact Vals.append h (Vals.rep h k)
theorem foldl_rep (its : List Value) : ∀ (k : Nat) (acc : List Value),
    List.foldl (fun x1 x2 => x1 ++ x2) acc.toArray (List.replicate k its.toArray) = (acc ++ (List.replicate k its).flatten).toArray
  | 0, acc => by simp
  | k + 1, acc => by
    have e : acc.toArray ++ its.toArray = (acc ++ its).toArray := by simp
    have e2 : (acc ++ its) ++ (List.replicate k its).flatten = acc ++ (List.replicate (k + 1) its).flatten := by
      rw [List.replicate_succ, List.flatten_cons, List.append_assoc]
    rw [← e2, ← foldl_rep its k (acc ++ its), ← e, List.replicate_succ, List.foldl_cons]

section
variable {X : Cx} {pins : List (Addr × Obj)} {σ : St} {H : Hp} {s : Shared} {l b : Addr} {xs ys zs : List V}

theorem Inv.lset {its its' : List Value} {n : Nat} {f : Array Value → Array Value} {t' : Nat} (I : Inv X pins σ H s) (hH : H l = some (.lst xs))
    (e : s.heap.get? l = some { cls := .type "list", data := .seq its.toArray n }) (hf : f its.toArray = its'.toArray) (hv : Vals ys its') (hz : ys.length ≤ sizeLine) :
    Inv X pins σ (upd H l (.lst ys)) { s with heap := s.heap.update l (Obj.mapSeq f), toks := t' } := by
  have q := PySem.IsL.update e f
  rw [hf] at q
  refine I.write (x := l) (e := l) (by rw [hH]; exact trivial) (.inl rfl) (fun b' u hb hu => (Heap.get?_update_other s.heap (Obj.mapSeq f) (Ne.symm hb)).trans hu) ⟨_, q⟩ ?_
  exact ⟨hz, its', _, hv, q⟩
theorem Inv.lnew {its : List Value} {t' : Nat} (I : Inv X pins σ H s) (hv : Vals ys its) (hz : ys.length ≤ sizeLine) :
    Inv X pins σ (upd H s.heap.objs.size (.lst ys)) { s with heap := s.heap.push { cls := .type "list", data := .seq its.toArray }, toks := t' } :=
  I.laid (fun _ _ q => Heap.get?_push_of_some _ q) (Nat.le_refl _) ⟨hz, its, 0, hv, Heap.get?_push_size _ rfl⟩
theorem Inv.fresh (I : Inv X pins σ H s) : H s.heap.objs.size = none := I.hok.fresh (Nat.le_refl _)
theorem Inv.lstM (I : Inv X pins σ H s) (hH : H l = some (.lst xs)) : xs.length ≤ sizeLine ∧ ∃ (its : List Value) (n : Nat), Vals xs its ∧ xs.length = its.length ∧ s.heap.get? l = some { cls := .type "list", data := .seq its.toArray n } := by
  obtain ⟨z, its, n, r, e⟩ := I.hok l _ hH
  exact ⟨z, its, n, r, r.length, e⟩

theorem notLongL {n : Nat} (h : n ≤ sizeLine) : Builtin.List.listTooLong n = false := by
  unfold Builtin.List.listTooLong
  exact decide_eq_false (by omega)
end

section
variable {X : Cx}

def rAppend : V → List V → Hp → VK → Prop := fun x vs H Q => ∃ l xs y, x = .ref l ∧ vs = [y] ∧ H l = some (.lst xs) ∧ xs.length < sizeLine ∧ Q .non (upd H l (.lst (xs ++ [y])))
theorem mt_append : MtM X "list.append" rAppend := by
  intro pins s σ H x vs v us Q I rx rv h
  obtain ⟨l, xs, y, rfl, rfl, hH, hz, q⟩ := h
  cases rx
  obtain ⟨u, rfl, ru⟩ := rv.one
  obtain ⟨z, its, n, r, hl, e⟩ := I.lstM hH
  refine call_meets F.slot_list_append ⟨_, e, rfl⟩ F.entry_list_append (F.args_list_append_2 _ _) (PySem.list_append l its.toArray n u (by rw [List.size_toArray]; omega)) ⟨e, ?_⟩
  refine ⟨.non, _, I.lset (its' := its ++ [u]) hH e (by simp) (r.append (.cons ru .nil)) ?_, rfl, q⟩
  rw [List.length_append, List.length_singleton]
  omega

def rCat : R2 := fun x y H Q => ∃ l b xs zs, x = .ref l ∧ y = .ref b ∧ H l = some (.lst xs) ∧ H b = some (.lst zs) ∧ xs.length + zs.length ≤ sizeLine ∧ ∀ p, H p = none → Q (.ref p) (upd H p (.lst (xs ++ zs)))
theorem op_cat : OpR X (binaryOp .Add) rCat := by
  intro pins s σ H x y v u Q I rx ry h
  obtain ⟨l, b, xs, zs, rfl, rfl, hH, hB, hz, q⟩ := h
  cases rx
  cases ry
  obtain ⟨z, its, n, r, hl, e⟩ := I.lstM hH
  obtain ⟨z2, its2, n2, r2, hl2, e2⟩ := I.lstM hB
  refine PySem.P.add_list e e2 ?_ (by rw [List.size_toArray, List.size_toArray]; omega)
  have ea : its.toArray ++ its2.toArray = (its ++ its2).toArray := by simp
  rw [ea]
  exact ⟨.ref _, _, I.lnew (t' := s.toks) (r.append r2) (by rw [List.length_append]; omega), rfl, q _ I.fresh⟩
def rRep : R2 := fun x y H Q => ∃ l k xs, x = .ref l ∧ y = .int k ∧ H l = some (.lst xs) ∧ -(2 ^ 63) ≤ k ∧ k < 2 ^ 63 ∧ xs.length * k.toNat ≤ sizeLine ∧
  ∀ p, H p = none → Q (.ref p) (upd H p (.lst (List.replicate k.toNat xs).flatten))
theorem len_rep {α : Type} (xs : List α) (k : Nat) : (List.replicate k xs).flatten.length = k * xs.length := by
  induction k with
  | zero => simp
  | succ k ih => rw [List.replicate_succ, List.flatten_cons, List.length_append, ih, Nat.succ_mul, Nat.add_comm]
theorem op_rep : OpR X (binaryOp .Mult) rRep := by
  intro pins s σ H x y v u Q I rx ry h
  obtain ⟨l, k, xs, rfl, rfl, hH, h1, h2, hz, q⟩ := h
  cases rx
  obtain ⟨t, rfl⟩ := ry
  obtain ⟨z, its, n, r, hl, e⟩ := I.lstM hH
  have hlen : its.toArray.size * k.toNat ≤ sizeLine := by rw [List.size_toArray, ← hl]; exact hz
  have hcap : ¬ its.toArray.size * k.toNat > (2 ^ 63 - 1) / 8 := by
    have : (sizeLine : Nat) ≤ (2 ^ 63 - 1) / 8 := by decide
    omega
  have hfit : ¬ (!Builtin.List.listFitsIndex k) = true := by
    rw [fitsIndex_both h1 h2]
    exact Bool.false_ne_true
  have hlong : ¬ Builtin.List.listTooLong (its.toArray.size * k.toNat) = true := by
    rw [notLongL hlen]
    exact Bool.false_ne_true
  have hnew : List.foldl (fun x1 x2 => x1 ++ x2) #[] (List.replicate (if its.toArray.isEmpty = true then 0 else k.toNat) its.toArray) = (List.replicate k.toNat its).flatten.toArray := by
    have f0 : ∀ m : Nat, List.foldl (fun x1 x2 => x1 ++ x2) #[] (List.replicate m its.toArray) = (List.replicate m its).flatten.toArray := fun m => by
      have := foldl_rep its m []
      rw [List.nil_append] at this
      exact this
    rw [f0]
    cases its with
    | nil => simp
    | cons a r' => rw [if_neg (by simp)]
  refine wpAny_binaryOp_repeat_ref (T := "list") (U := "int") (by decide) ⟨_, e, rfl⟩ (fun s' => typeIs_int s' k t) noFill_list_mul F.fills_int_mul F.slot_int_rmul repeat_list F.slot_int_index.lookup
    (call_meets F.slot_int_rmul (typeIs_int s k t) F.entry_int_rmul (F.args_int_rmul_2 _ _) (int___rmul___int_list k t l its.toArray n)
      ⟨e, rfl, ⟨_, e, rfl⟩, call_meets F.slot_list_mul ⟨_, e, rfl⟩ F.entry_list_mul (F.args_list_mul_2 _ _) (AutoListH.list___mul___list_int_3 l its.toArray n k t hfit hcap hlong) ⟨e, ?_⟩⟩)
  rw [hnew]
  exact ⟨.ref _, _, I.lnew (t' := s.toks) (r.rep k.toNat) (by rw [len_rep, Nat.mul_comm]; exact hz), rfl, q _ I.fresh⟩

end

section
variable {prog : Program} {w : World} {A : Around} {E : Value → Shared → Prop} {s : Shared}
end

section
variable {X : Cx}
end
end L2

namespace L2
open PySem PySem.Spec PyProof.Rows

section
variable {κ : Type} [DecidableEq κ]
def valV (kvs : List (κ × V)) (k : κ) : Option V := (kvs.find? fun kv => decide (kv.1 = k)).map (·.2)
def putK (kvs : List (κ × V)) (k : κ) (v : V) : List (κ × V) :=
  if (kvs.any fun kv => decide (kv.1 = k)) = true then kvs.map (fun kv => if kv.1 = k then (kv.1, v) else kv) else kvs ++ [(k, v)]
def dropK (kvs : List (κ × V)) (k : κ) : List (κ × V) := kvs.filter fun kv => decide (kv.1 ≠ k)

theorem valV_pos {p : κ × V} {r : List (κ × V)} {k : κ} (e : p.1 = k) : valV (p :: r) k = some p.2 := by simp [valV, List.find?_cons, e]
theorem valV_neg {p : κ × V} {r : List (κ × V)} {k : κ} (e : ¬ p.1 = k) : valV (p :: r) k = valV r k := by simp [valV, List.find?_cons, e]
theorem valV_any (k : κ) : ∀ kvs : List (κ × V), (kvs.any fun kv => decide (kv.1 = k)) = (valV kvs k).isSome
  | [] => rfl
  | p :: r => by
    rw [List.any_cons]
    by_cases e : p.1 = k
    · simp only [valV_pos e, decide_eq_true e, Bool.true_or, Option.isSome_some]
    · rw [valV_neg e, decide_eq_false e, Bool.false_or]; exact valV_any k r
theorem valV_map (k j : κ) (y : V) : ∀ kvs : List (κ × V), valV (kvs.map fun kv => if kv.1 = k then (kv.1, y) else kv) j = (valV kvs j).map fun x => if j = k then y else x
  | [] => rfl
  | p :: r => by
    have ih := valV_map k j y r
    rw [List.map_cons]
    by_cases h : p.1 = k
    · rw [if_pos h]
      by_cases e : p.1 = j
      · rw [valV_pos (p := (p.1, y)) e, valV_pos e, Option.map_some, if_pos (e.symm.trans h)]
      · rw [valV_neg (p := (p.1, y)) e, valV_neg e, ih]
    · rw [if_neg h]
      by_cases e : p.1 = j
      · rw [valV_pos (p := p) e, valV_pos e, Option.map_some, if_neg (fun z => h (e.trans z))]
      · rw [valV_neg (p := p) e, valV_neg e, ih]
theorem valV_snoc (k j : κ) (y : V) : ∀ kvs : List (κ × V), valV kvs k = none → valV (kvs ++ [(k, y)]) j = if j = k then some y else valV kvs j
  | [], _ => by
    by_cases e : k = j
    · rw [if_pos e.symm]; exact valV_pos (p := (k, y)) e
    · rw [if_neg (fun z => e z.symm)]; exact valV_neg (p := (k, y)) e
  | p :: r, hn => by
    rw [List.cons_append]
    have hk : ¬ p.1 = k := fun z => by rw [valV_pos z] at hn; cases hn
    rw [valV_neg hk] at hn
    have ih := valV_snoc k j y r hn
    by_cases e : p.1 = j
    · rw [valV_pos e, valV_pos e, if_neg (fun z => hk (e.trans z))]
    · rw [valV_neg e, valV_neg e, ih]
theorem valV_put (kvs : List (κ × V)) (k j : κ) (y : V) : valV (putK kvs k y) j = if j = k then some y else valV kvs j := by
  unfold putK
  by_cases a : (kvs.any fun kv => decide (kv.1 = k)) = true
  · rw [if_pos a, valV_map]
    rw [valV_any] at a
    by_cases e : j = k
    · obtain ⟨x, hx⟩ := Option.isSome_iff_exists.mp a
      rw [if_pos e, e, hx, Option.map_some, if_pos rfl]
    · rw [if_neg e]
      cases valV kvs j with
      | none => rfl
      | some x => rw [Option.map_some, if_neg e]
  · rw [if_neg a]
    refine valV_snoc k j y kvs ?_
    rw [valV_any] at a
    cases q : valV kvs k with
    | none => rfl
    | some x => rw [q] at a; exact (a rfl).elim
theorem length_putK (kvs : List (κ × V)) (k : κ) (v : V) : (putK kvs k v).length ≤ kvs.length + 1 := by
  unfold putK
  split
  · rw [List.length_map]; omega
  · rw [List.length_append, List.length_cons, List.length_nil]; omega
theorem RelO.isSome_eq {o : Option V} {u : Option Value} (r : RelO o u) : o.isSome = u.isSome := by
  cases o with
  | none => cases u with
    | none => rfl
    | some _ => exact (show False from r).elim
  | some _ => cases u with
    | none => exact (show False from r).elim
    | some _ => rfl
theorem RelO.getD {o : Option V} {u : Option Value} {d : V} {d' : Value} (r : RelO o u) (rd : RelV d d') : RelV (o.getD d) (u.getD d') := by
  cases o with
  | none => cases u with
    | none => exact rd
    | some _ => exact (show False from r).elim
  | some _ => cases u with
    | none => exact (show False from r).elim
    | some _ => exact r

theorem KV.val {kvs : List (κ × V)} {vs : List (κ × Value)} (r : KV kvs vs) (k : κ) : RelO (valV kvs k) (valueAt vs k) := by
  unfold KV at r
  induction r with
  | nil => exact True.intro
  | @cons p q ps qs h t ih =>
    obtain ⟨h1, h2⟩ := h
    by_cases e : p.1 = k
    · have e' : q.1 = k := h1.symm.trans e
      have b : valueAt (q :: qs) k = some q.2 := by simp [valueAt, List.find?_cons, e']
      rw [valV_pos e, b]; exact h2
    · have e' : ¬ q.1 = k := fun z => e (h1.trans z)
      have b : valueAt (q :: qs) k = valueAt qs k := by simp [valueAt, List.find?_cons, e']
      rw [valV_neg e, b]; exact ih
theorem KV.any {kvs : List (κ × V)} {vs : List (κ × Value)} (r : KV kvs vs) (k : κ) : (kvs.any fun kv => decide (kv.1 = k)) = vs.any fun kv => decide (kv.1 = k) := by
  unfold KV at r
  induction r with
  | nil => rfl
  | cons h t ih => rw [List.any_cons, List.any_cons, ih, h.1]
theorem KV.repl {kvs : List (κ × V)} {vs : List (κ × Value)} (r : KV kvs vs) (k : κ) {y : V} {u : Value} (ry : RelV y u) :
    KV (kvs.map fun kv => if kv.1 = k then (kv.1, y) else kv) (vs.map fun kv => if kv.1 = k then (kv.1, u) else kv) := by
  unfold KV at r ⊢
  induction r with
  | nil => exact .nil
  | @cons p q ps qs h t ih =>
    rw [List.map_cons, List.map_cons]
    refine .cons ?_ ih
    obtain ⟨h1, h2⟩ := h
    by_cases e : p.1 = k
    · rw [if_pos e, if_pos (h1.symm.trans e)]; exact ⟨h1, ry⟩
    · rw [if_neg e, if_neg (fun z => e (h1.trans z))]; exact ⟨h1, h2⟩
theorem KV.put {kvs : List (κ × V)} {vs : List (κ × Value)} (r : KV kvs vs) (k : κ) {y : V} {u : Value} (ry : RelV y u) : KV (putK kvs k y) (stored vs k u) := by
  unfold putK stored
  rw [r.any k]
  by_cases e : (vs.any fun kv => decide (kv.1 = k)) = true
  · rw [if_pos e, if_pos e]; exact r.repl k ry
  · rw [if_neg e, if_neg e]; exact Paired.snoc r ⟨rfl, ry⟩
theorem KV.drop {kvs : List (κ × V)} {vs : List (κ × Value)} (r : KV kvs vs) (k : κ) : KV (dropK kvs k) (without vs k) := by
  unfold KV at r ⊢
  unfold dropK without
  induction r with
  | nil => exact .nil
  | @cons p q ps qs h t ih =>
    obtain ⟨h1, h2⟩ := h
    rw [List.filter_cons, List.filter_cons]
    by_cases e : p.1 = k
    · have a : ¬ decide (p.1 ≠ k) = true := by simp [e]
      have b : ¬ decide (q.1 ≠ k) = true := by simp [h1.symm.trans e]
      rw [if_neg a, if_neg b]; exact ih
    · have e' : ¬ q.1 = k := fun z => e (h1.trans z)
      have a : decide (p.1 ≠ k) = true := by simp [e]
      have b : decide (q.1 ≠ k) = true := by simp [e']
      rw [if_pos a, if_pos b]; exact .cons ⟨h1, h2⟩ ih
theorem KV.keys {kvs : List (κ × V)} {vs : List (κ × Value)} (r : KV kvs vs) : kvs.map (·.1) = vs.map (·.1) := by
  unfold KV at r
  induction r with
  | nil => rfl
  | cons h t ih => rw [List.map_cons, List.map_cons, ih, h.1]
theorem KV.length {kvs : List (κ × V)} {vs : List (κ × Value)} (r : KV kvs vs) : kvs.length = vs.length := Paired.length r
end


theorem kV_is {P : Program} {w : World} {k : Key} {u : Value} (r : RelV (kV k) u) : (mixKind P w).is k u = true := by
  cases k with
  | inl i => obtain ⟨t, e⟩ := (show ∃ t, u = Value.int i t from r); subst e; exact mixKind_int P w i t
  | inr x => obtain ⟨t, e⟩ := (show ∃ t, u = Value.str x t from r); subst e; exact mixKind_str P w x t
theorem items_are {P : Program} {w : World} : ∀ {ks : List Key} {us : List Value}, Vals (ks.map kV) us → ItemsAre (mixKind P w) ks us
  | [], _, r => by rw [List.map_nil] at r; cases r; exact .nil
  | k :: ks, _, r => by
    rw [List.map_cons] at r
    cases r with
    | cons h t => exact .cons (kV_is h) (items_are t)

abbrev KT (H : Hp) : List (List Key × V) → List (List Key × Addr × Value) → Prop := Paired fun p q => p.1 = q.1 ∧ H q.2.1 = some (.tup (p.1.map kV)) ∧ RelV p.2 q.2.2
theorem KT.val {H : Hp} {kvs : List (List Key × V)} {xs : List (List Key × Addr × Value)} (r : KT H kvs xs) (k : List Key) : RelO (valV kvs k) ((atKey xs k).map (·.2)) := by
  induction r with
  | nil => exact True.intro
  | @cons p q ps qs h t ih =>
    obtain ⟨h1, _, h2⟩ := h
    by_cases e : p.1 = k
    · have e' : q.1 = k := h1.symm.trans e
      have b : atKey (q :: qs) k = some q.2 := by simp [atKey, List.find?_cons, e']
      rw [valV_pos e, b]; exact h2
    · have e' : ¬ q.1 = k := fun z => e (h1.trans z)
      have b : atKey (q :: qs) k = atKey qs k := by simp [atKey, List.find?_cons, e']
      rw [valV_neg e, b]; exact ih
theorem KT.repl {H : Hp} {kvs : List (List Key × V)} {xs : List (List Key × Addr × Value)} (r : KT H kvs xs) (k : List Key) {y : V} {u : Value} (ry : RelV y u) :
    KT H (kvs.map fun kv => if kv.1 = k then (kv.1, y) else kv) (xs.map (putAt k u)) := by
  induction r with
  | nil => exact .nil
  | @cons p q ps qs h t ih =>
    rw [List.map_cons, List.map_cons]
    refine .cons ?_ ih
    obtain ⟨h1, h2, h3⟩ := h
    unfold putAt
    by_cases e : p.1 = k
    · rw [if_pos e, if_pos (h1.symm.trans e)]; exact ⟨h1, h2, ry⟩
    · rw [if_neg e, if_neg (fun z => e (h1.trans z))]; exact ⟨h1, h2, h3⟩
theorem KT.put {H : Hp} {kvs : List (List Key × V)} {xs : List (List Key × Addr × Value)} (r : KT H kvs xs) (k : List Key) {b : Addr} {y : V} {u : Value} (hb : H b = some (.tup (k.map kV))) (ry : RelV y u) :
    KT H (putK kvs k y) (storedH xs k b u) := by
  have e : (kvs.any fun kv => decide (kv.1 = k)) = (atKey xs k).isSome := by
    rw [valV_any, (r.val k).isSome_eq, Option.isSome_map]
  unfold putK storedH
  rw [e]
  by_cases q : (atKey xs k).isSome = true
  · rw [if_pos q, if_pos q]; exact r.repl k ry
  · rw [if_neg q, if_neg q]; exact Paired.snoc r ⟨rfl, hb, ry⟩
theorem KT.keeps {H H' : Hp} {kvs : List (List Key × V)} {xs : List (List Key × Addr × Value)} (r : KT H kvs xs) (ht : ∀ b ys, H b = some (.tup ys) → H' b = some (.tup ys)) : KT H' kvs xs :=
  Paired.mapP r fun _ _ z => ⟨z.1, ht _ _ z.2.1, z.2.2⟩

section
variable {P : Program} {w : World} {H : Hp} {h : Heap} {a : Addr}
theorem rd_of {u : HO} (ok : HOk P w H h) (e : Rd H a u) : ObjOk P w H h a u := e.ok ok
theorem dk_rd {kvs : List (Key × V)} (ok : HOk P w H h) (e : Rd H a (.dK kvs)) : kvs.length ≤ sizeLine ∧ (a == sysModules) = false ∧ ∃ vs, KV kvs vs ∧ h.DictOf (mixKind P w) a vs :=
  show ObjOk P w H h a (.dK kvs) from rd_of ok e
theorem dk_of {kvs : List (Key × V)} (ok : HOk P w H h) (e : H a = some (.dK kvs)) : kvs.length ≤ sizeLine ∧ (a == sysModules) = false ∧ ∃ vs, KV kvs vs ∧ h.DictOf (mixKind P w) a vs := dk_rd ok (.inl e)
theorem key_of {ks : List Key} (ok : HOk P w H h) (e : H a = some (.tup (ks.map kV))) : (tupleKind (mixKind P w)).is h ks a := by
  obtain ⟨_, its, r, o, h1, h2, n, h3⟩ := (show ObjOk P w H h a (.tup (ks.map kV)) from ok a _ e)
  exact ⟨o, its.toArray, n, h1, h2, h3, by simpa using items_are r⟩
theorem dt_rd {kvs : List (List Key × V)} (ok : HOk P w H h) (e : Rd H a (.dT kvs)) : kvs.length ≤ sizeLine ∧ (a == sysModules) = false ∧
    ∃ xs, KT H kvs xs ∧ h.DictOfH (tupleKind (mixKind P w)) a xs := by
  obtain ⟨z, y, xs, r, o, es, ep, h1, h2, h3, h4, h5⟩ := (show ObjOk P w H h a (.dT kvs) from rd_of ok e)
  refine ⟨z, y, xs, r, o, es, ep, h1, h2, h3, h4, fun x hx => ?_, h5⟩
  have all : ∀ {l : List (List Key × V)} {m : List (List Key × Addr × Value)}, KT H l m → ∀ x ∈ m, (tupleKind (mixKind P w)).is h x.1 x.2.1 := by
    intro l m q
    induction q with
    | nil => intro x hx; exact nomatch hx
    | @cons p q ps qs hq t ih =>
      intro x hx
      rcases List.mem_cons.mp hx with e | hx
      · subst e
        exact key_of ok (by rw [← hq.1]; exact hq.2.1)
      · exact ih x hx
  exact all r x hx
theorem dt_of {kvs : List (List Key × V)} (ok : HOk P w H h) (e : H a = some (.dT kvs)) : kvs.length ≤ sizeLine ∧ (a == sysModules) = false ∧
    ∃ xs, KT H kvs xs ∧ h.DictOfH (tupleKind (mixKind P w)) a xs := dt_rd ok (.inl e)
end

def DGet (H : Hp) (a : Addr) (y : V) (r : Option V) : Prop :=
  (∃ kvs k, Rd H a (.dK kvs) ∧ y = kV k ∧ r = valV kvs k) ∨ ∃ kvs k b, Rd H a (.dT kvs) ∧ y = .ref b ∧ H b = some (.tup (k.map kV)) ∧ r = valV kvs k
def DPut (H : Hp) (a : Addr) (y v : V) (H' : Hp) : Prop :=
  (∃ kvs k, H a = some (.dK kvs) ∧ y = kV k ∧ kvs.length < sizeLine ∧ H' = upd H a (.dK (putK kvs k v))) ∨
  ∃ kvs k b, H a = some (.dT kvs) ∧ y = .ref b ∧ H b = some (.tup (k.map kV)) ∧ kvs.length < sizeLine ∧ H' = upd H a (.dT (putK kvs k v))
theorem DGet.k {H : Hp} {a : Addr} {kvs : List (Key × V)} {k : Key} (e : H a = some (.dK kvs)) : DGet H a (kV k) (valV kvs k) := .inl ⟨kvs, k, .inl e, rfl, rfl⟩
theorem DGet.t {H : Hp} {a b : Addr} {kvs : List (List Key × V)} {k : List Key} (e : H a = some (.dT kvs)) (eb : H b = some (.tup (k.map kV))) : DGet H a (.ref b) (valV kvs k) := .inr ⟨kvs, k, b, .inl e, rfl, eb, rfl⟩
theorem DPut.k {H : Hp} {a : Addr} {kvs : List (Key × V)} {k : Key} {v : V} (e : H a = some (.dK kvs)) (hl : kvs.length < sizeLine) : DPut H a (kV k) v (upd H a (.dK (putK kvs k v))) := .inl ⟨kvs, k, e, rfl, hl, rfl⟩
theorem DPut.t {H : Hp} {a b : Addr} {kvs : List (List Key × V)} {k : List Key} {v : V} (e : H a = some (.dT kvs)) (eb : H b = some (.tup (k.map kV))) (hl : kvs.length < sizeLine) :
    DPut H a (.ref b) v (upd H a (.dT (putK kvs k v))) := .inr ⟨kvs, k, b, e, rfl, eb, hl, rfl⟩


section
variable {X : Cx} {pins : List (Addr × Obj)} {σ : St} {H : Hp} {s : Shared} {a : Addr} {y v : V} {u r : Value} {o : Option V} {A : Around} {E : Value → Shared → Prop}

theorem Inv.big (I : Inv X pins σ H s) : sysModules < s.heap.objs.size := by
  have h : mainGlobals < s.heap.objs.size := (I.mod.glob.keeps I.bk).lt
  exact Nat.lt_trans (by decide) h

theorem d_getItem {Q : Value → Shared → Prop} (hu : A.units + 1 < cLine) (I : Inv X pins σ H s) (g : DGet H a y (some v)) (ry : RelV y u) (h : ∀ w' s', Inv X pins σ H s' → RelV v w' → Q w' s') :
    wpAny (model X.prog X.w) A (getItem (.ref a) u) Q E s := by
  rcases g with ⟨kvs, k, e, ey, l⟩ | ⟨kvs, k, b, e, ey, eb, l⟩
  · subst ey
    obtain ⟨z, hd, vs, rel, dd⟩ := dk_rd I.hok e
    obtain ⟨w', hw, rw'⟩ := RelO.some_of (v := v) (o := valueAt vs k) (by rw [l]; exact rel.val k)
    exact wpAny_getItem_of (kV_is ry) dd.mapOf hw (h w' _ (I.tok _) rw')
  · subst ey
    cases (show u = Value.ref b from ry)
    obtain ⟨z, hd, xs, rel, dd⟩ := dt_rd I.hok e
    obtain ⟨w', hw, rw'⟩ := RelO.some_of (v := v) (o := (atKey xs k).map (·.2)) (by rw [l]; exact rel.val k)
    obtain ⟨p, hp, hp2⟩ := Option.map_eq_some_iff.mp hw
    refine wpAny_getItem_heap (tupleKind_room_in1 hu) (key_of I.hok eb) dd hp ?_
    rw [hp2]
    exact h w' _ (I.tok _) rw'
theorem d_in {Q : Value → Shared → Prop} (hu : A.units + 1 < cLine) (I : Inv X pins σ H s) (g : DGet H a y o) (ry : RelV y u) (h : ∀ s', Inv X pins σ H s' → Q (.bool o.isSome) s') :
    wpAny (model X.prog X.w) A (compareOp .In u (.ref a)) Q E s := by
  rcases g with ⟨kvs, k, e, ey, l⟩ | ⟨kvs, k, b, e, ey, eb, l⟩
  · subst ey
    obtain ⟨z, hd, vs, rel, dd⟩ := dk_rd I.hok e
    refine wpAny_in_of (kV_is ry) hd dd.mapOf ?_
    rw [← (rel.val k).isSome_eq, ← l]
    exact h _ (I.tok _)
  · subst ey
    cases (show u = Value.ref b from ry)
    obtain ⟨z, hd, xs, rel, dd⟩ := dt_rd I.hok e
    refine wpAny_in_heap (tupleKind_room_in1 hu) (key_of I.hok eb) hd dd ?_
    have q := (rel.val k).isSome_eq
    rw [Option.isSome_map] at q
    rw [← q, ← l]
    exact h _ (I.tok _)
theorem d_write {h' : Heap} {t' : Nat} {ob : HO} (I : Inv X pins σ H s) (mu : Mut (H a)) (hs : Heap.SameBut a s.heap h') (he : ∃ q, h'.get? a = some q) (new : ObjOk X.prog X.w (upd H a ob) h' a ob) :
    Inv X pins σ (upd H a ob) { s with heap := h', toks := t' } :=
  I.write (x := a) (e := a) mu (.inl rfl) (fun b q hb z => (hs.2 b hb).trans z) he new
theorem dk_new {P : Program} {w : World} {H' : Hp} {h' : Heap} {kvs : List (Key × V)} {vs : List (Key × Value)} (z : kvs.length ≤ sizeLine) (hd : (a == sysModules) = false) (rel : KV kvs vs) (dd : h'.DictOf (mixKind P w) a vs) :
    ObjOk P w H' h' a (.dK kvs) := ⟨z, hd, vs, rel, dd⟩
theorem d_setItem {H' : Hp} {Q : Unit → Shared → Prop} (hu : A.units + 1 < cLine) (I : Inv X pins σ H s) (g : DPut H a y v H') (ry : RelV y u) (rv : RelV v r) (h : ∀ s', Inv X pins σ H' s' → Q () s') :
    wpAny (model X.prog X.w) A (setItem (.ref a) u r) Q E s := by
  rcases g with ⟨kvs, k, e, ey, l, eH⟩ | ⟨kvs, k, b, e, ey, eb, l, eH⟩
  · subst ey eH
    obtain ⟨z, hd, vs, rel, dd⟩ := dk_of I.hok e
    have hz : vs.length ≤ sizeLine := by rw [← rel.length]; exact z
    have hl : (putK kvs k v).length ≤ sizeLine := by have := length_putK kvs k v; omega
    refine wpAny_setItem_pairs (hsz := hz) (kV_is ry) dd fun h' dd' hs => h _ ?_
    have he : ∃ q, h'.get? a = some q := let ⟨q, _, _, hq, _⟩ := dd'; ⟨q, hq⟩
    exact d_write I (by rw [e]; exact True.intro) hs he (dk_new hl hd (rel.put k rv) dd')
  · subst ey eH
    cases (show u = Value.ref b from ry)
    obtain ⟨z, hd, xs, rel, dd⟩ := dt_of I.hok e
    have hz : xs.length ≤ sizeLine := by rw [← Paired.length rel]; exact z
    have hl : (putK kvs k v).length ≤ sizeLine := by have := length_putK kvs k v; omega
    refine wpAny_setItem_heap (hsz := hz) (tupleKind_room_in1 hu) (key_of I.hok eb) dd fun h' dd' hs => h _ ?_
    obtain ⟨q, es, ep, hq, h2, h3, h4, _, h5⟩ := dd'
    refine d_write I (by rw [e]; exact True.intro) hs ⟨q, hq⟩ ⟨hl, hd, _, (rel.put k eb rv).keeps fun c ys ec => ?_, q, es, ep, hq, h2, h3, h4, h5⟩
    rw [upd_ne (ne_of ec e (fun z => nomatch z))]
    exact ec
end

section
variable {X : Cx} {pins : List (Addr × Obj)} {σ : St} {H : Hp} {s : Shared} {a : Addr} {kvs : List (Key × V)} {k : Key} {u : Value} {A : Around} {E : Value → Shared → Prop}
end


def NoSl (i : Expr) : Prop := ∀ ov iv, subscripted i false ov iv = operate [ov, iv] (getItem ov iv)
theorem subD_of {prog : Program} {w : World} {A : Around} {E : Value → Shared → Prop} {s : Shared} {env : Env} {value slice : Expr} {pos : Pos} {T id : String} {Q : Value → Shared → Prop}
    (hl : typeLookup (.type T) "__getitem__" = pure (some (.builtin id))) (hs : NoSl slice)
    (h : wpAny (model prog w) A (eval value env) (fun o s₁ => wpAny (model prog w) A (eval slice env) (fun i s₂ => s₂.TypeIs o T ∧ wpAny (model prog w) A (getItem o i) Q E s₂) E s₁) E s) :
    wpAny (model prog w) A (eval (.Subscript value slice pos) env) Q E s := by
  refine Subscript_ (wpAny_mono h (fun o s₁ h₁ => wpAny_mono h₁ (fun i s₂ h₂ => ?_) fun _ _ x => x) fun _ _ x => x)
  obtain ⟨hT, h₂⟩ := h₂
  unfold subscriptTail
  refine wpAny_bind ?_
  rw [getitemInPython_of_ne hT.not_modules]
  refine wpAny_bind (wpAny_specialOf hT hl ?_)
  have fin : wpAny (model prog w) A (subscripted slice false o i) (fun r s₃ => wpAny (model prog w) A (letTemporaryGo value o r >>= fun _ => pure r) Q E s₃) E s₂ := by
    rw [hs o i]
    exact wpAny_operating (wpAny_mono h₂ (fun r s₃ h₃ => wpAny_bind (wpAny_letTemporaryGo (wpAny_pure h₃))) fun _ _ x => x)
  first
    | exact wpAny_pure (wpAny_bind fin)
    | exact wpAny_bind (wpAny_pure (wpAny_bind fin))
    | exact wpAny_bind fin

theorem dict_typeIs {X : Cx} {pins : List (Addr × Obj)} {σ : St} {H : Hp} {s : Shared} {a : Addr} {y : V} {o : Option V} (I : Inv X pins σ H s) (g : DGet H a y o) : s.TypeIs (.ref a) "dict" := by
  rcases g with ⟨kvs, k, e, _, _⟩ | ⟨kvs, k, b, e, _, _, _⟩
  · obtain ⟨_, _, vs, _, dd⟩ := dk_rd I.hok e
    exact dd.typeIs
  · obtain ⟨_, _, xs, _, dd⟩ := dt_rd I.hok e
    exact dd.typeIs
def tDGet (td ty : TE) : TE := fun σ H Q => td σ H fun x H1 => ty σ H1 fun y H2 => ∃ a v, x = .ref a ∧ DGet H2 a y (some v) ∧ Q v H2
def tDIn (ty td : TE) : TE := fun σ H Q => ty σ H fun y H1 => td σ H1 fun x H2 => ∃ a o, x = .ref a ∧ DGet H2 a y o ∧ Q (.bl o.isSome) H2
def sDPut (td ty tv : TE) : TS := fun D σ H => tv σ H fun v H1 => td σ H1 fun x H2 => ty σ H2 fun y H3 => ∃ a H4, x = .ref a ∧ DPut H3 a y v H4 ∧ D.nx σ H4
section
variable {X : Cx} {o i e value : Expr} {pos pos' tpos : Pos} {td ty tv : TE}
theorem pe_dget (hu : X.A.units + 1 < cLine) (ho : PE X o td) (hi : PE X i ty) (hs : NoSl i) : PE X (.Subscript o i pos) (tDGet td ty) := by
  intro pins s σ H Q I h
  refine subD_of PySem.F.slot_dict_getitem.lookup hs (thn (ho pins s σ H _ I h) fun u s1 ⟨x, H1, I1, rx, q1⟩ => thn (hi pins s1 σ H1 _ I1 q1) fun iv s2 ⟨y, H2, I2, ry, a, v, ex, g, q2⟩ => ?_)
  subst ex
  obtain rfl : u = Value.ref a := rx
  exact ⟨dict_typeIs I2 g, d_getItem hu I2 g ry fun w' s3 I3 rw' => ⟨v, H2, I3, rw', q2⟩⟩
theorem pc_din (hu : X.A.units + 1 < cLine) (hi : PE X i ty) (ho : PE X o td) : PC X .In i o (tDIn ty td) := by
  intro pins s σ H Q I h
  refine thn (hi pins s σ H _ I h) fun iv s1 ⟨y, H1, I1, ry, q1⟩ => thn (ho pins s1 σ H1 _ I1 q1) fun u s2 ⟨x, H2, I2, rx, a, ov, ex, g, q2⟩ => ?_
  subst ex
  obtain rfl : u = Value.ref a := rx
  exact d_in hu I2 g ry fun s3 I3 => ⟨.bl ov.isSome, H2, I3, rfl, q2⟩
theorem ps_dput (hu : X.A.units + 1 < cLine) (ho : PE X o td) (hi : PE X i ty) (hv : PE X value tv) (hs : swapsWith value (some (.Subscript o i pos')) pos.line X.env = pure false) :
    PS X (.Assign [.Subscript o i pos'] value pos) (sDPut td ty tv) := by
  intro pins s σ H D I h
  refine wpAny_Assign_Subscript (thn (hv pins s σ H _ I h) fun r s1 ⟨v, H1, I1, rv, q1⟩ => thn (ho pins s1 σ H1 _ I1 q1) fun u s2 ⟨x, H2, I2, rx, q2⟩ => thn (hi pins s2 σ H2 _ I2 q2) fun iv s3 ⟨y, H3, I3, ry, a, H4, ex, g, q3⟩ => ?_) hs
  subst ex
  obtain rfl : u = Value.ref a := rx
  exact d_setItem hu I3 g ry rv fun s4 I4 => ⟨σ, H4, I4, q3⟩
end


theorem dk_empty {P : Program} {w : World} {H : Hp} (h : Heap) (hb : sysModules < h.objs.size) : ObjOk P w H (h.push { cls := .type "dict", data := .dict #[] }) h.objs.size (.dK []) :=
  ⟨Nat.zero_le _, beq_eq_false_iff_ne.mpr (Ne.symm (Nat.ne_of_lt hb)), [], .nil, Heap.DictOf.new h⟩
def tDNewK : TE := fun _ H Q => ∀ p, H p = none → Q (.ref p) (upd H p (.dK []))
section
variable {X : Cx} {pos : Pos}
theorem pe_dnewK : PE X (.Dict [] [] pos) tDNewK := fun pins s σ H Q I h =>
  wpAny_Dict_empty ⟨.ref s.heap.objs.size, _, I.laid (a := s.heap.objs.size) (o := .dK []) (t' := s.toks) (fun _ _ q => Heap.get?_push_of_some _ q) (Nat.le_refl _) (dk_empty s.heap I.big), rfl, h _ (I.hok.fresh (Nat.le_refl _))⟩
end

section
variable {X : Cx} {pins : List (Addr × Obj)} {σ : St} {H : Hp} {s : Shared} {a : Addr} {y d : V} {u r : Value} {o : Option V} {A : Around} {E : Value → Shared → Prop}
end

section
variable {X : Cx} {o e f : Expr} {apos cpos : Pos} {td ty tx : TE}
end

section
variable {X : Cx} {pins : List (Addr × Obj)} {σ : St} {H : Hp} {s : Shared} {a : Addr} {kvs : List (Key × V)} {A : Around} {E : Value → Shared → Prop}
end


section
variable {X : Cx} {pins : List (Addr × Obj)} {σ : St} {H : Hp} {s : Shared} {a : Addr} {y : V} {u : Value} {A : Around} {E : Value → Shared → Prop}
end
end L2


namespace Att
open PySem PySem.W PySem.Calls PyProof.Rows

theorem ints_of_wellAll {P : Params} {h : Heap} : ∀ (ns : List Int) (vs : List Value), WellAll P h vs (ns.map WData.int) → IntsAre vs ns := by
  intro ns
  induction ns with
  | nil =>
    intro vs w
    rw [List.map_nil] at w
    cases w
    exact .nil
  | cons n ns ih =>
    intro vs w
    rw [List.map_cons] at w
    cases w with
    | cons a b =>
      cases a
      exact .cons _ _ (ih _ b)

theorem script_of {l : OpenLaw} {n : Nat} (hn : l.most = some n) {P : Params} {h : Heap} {args : List WData} {vals : List Value}
    (hpre : l.row.toRowW.claim.pre args = true) (hwl : WellAll P h vals args) :
    ∃ a vs ns, vals = [Value.ref a] ∧ args = [WData.list (ns.map WData.int)] ∧ h.get? a = some { cls := .type "list", data := .seq vs.toArray } ∧ IntsAre vs ns ∧ ns.length ≤ n := by
  have hsh : WShape.hasAll [] args [.list .int] = true := (pre_splitW hpre).1
  have hc : l.pre.holds [] { args := args } = true := (pre_splitW hpre).2
  obtain ⟨d, r, rfl, h1, h2⟩ := hasAllW_cons hsh
  obtain rfl := hasAllW_nil h2
  obtain ⟨xs, rfl, h3⟩ := hasW_list h1
  obtain ⟨ns, rfl⟩ := items_int h3
  have hlen : ns.length ≤ n := by
    unfold OpenLaw.pre at hc
    have h4 : (WTm.not (.lt (.lit (.int (n : Int))) (.len (.arg 0)))).holds [] { args := [.list (ns.map .int)] } = true := by
      have h4 := (holds_andW hc).1
      rw [hn] at h4
      exact h4
    have h5 := condW_of h4 (w_not (w_lt w_lit (w_len_list (w_arg rfl))))
    rw [List.length_map] at h5
    refine Nat.le_of_not_lt fun q => ?_
    have q' : (n : Int) < ((ns.length : Nat) : Int) := by omega
    first
      | (rw [decide_eq_true q'] at h5; exact absurd h5 (by decide))
      | (simp at h5; omega)
  cases hwl with
  | cons w1 w2 =>
    cases w2
    cases w1 with
    | list ho hall => exact ⟨_, _, ns, rfl, rfl, ho, ints_of_wellAll ns _ hall, hlen⟩

theorem post_true (l : OpenLaw) (args : List WData) : l.row.toRowW.claim.post args (.bool true) args = true :=
  postW_of (r := l.row.toRowW) (X := (true == true))
    (show WShape.has [] (.bool true) .bool = true by first | rfl | decide | simp [WShape.has, WShape.arms, WShape.armsAll])
    (show (WTm.eq .res (.lit (.bool true))).value [] { args := args, res := some (.bool true), after := args } = some (.bool (true == true)) from w_eq_bool (w_res rfl) w_lit) rfl

theorem attach_call {l : OpenLaw} {n : Nat} {q : Program} {loose : List Str} {XP : (Str → Option Value) → Heap → Prop} {YP : World → Heap → Prop} {d : DefRec}
    (hn : l.most = some n) (hdf : d.params.defaults = [])
    (call : ∀ (w : World) (s₀ s₁ : Shared) (mg mb : Str → Option Value) (fa : Addr) (o : Obj) (pm cd doc : Value) (a : Addr) (vs : List Value) (ns : List Int),
      Ground q loose [] XP w s₀ mg mb s₁.heap → YP w s₁.heap →
      s₁.heap.get? fa = some o → o.data = .func (docDef d.name d.params d.body d.scope pm cd doc) → s₁.heap.CodeRec cd d.name → mg d.name = some (.ref fa) →
      s₁.heap.get? a = some { cls := .type "list", data := .seq vs.toArray } → IntsAre vs ns → ns.length ≤ n → s₁.gens = #[] →
      codeAny (model l.prog w) callerA (.call (.ref fa) ⟨[.ref a], []⟩) (fun r s' => r = .ok (.ret (.bool true)) ∧ OldK s₁.heap s'.heap ∧ s'.os = s₁.os ∧ AllBare s'.gens) s₁) :
    WalkO q loose XP YP l.row.toRowW d [] (fun f vs => PySem.call f vs) := by
  intro w s₀ s₁ mg mb G Y fa o pm cd doc dV kV ho hd hcd hD hmg hg args vals as hpre hlay hrd hwl hlo
  obtain rfl : dV = .none := Dflts.none hD hdf
  obtain rfl : kV = .none := Dflts.noKw hD
  obtain ⟨a, vs, ns, rfl, rfl, hobj, hints, hlen⟩ := script_of hn hpre hwl
  refine enter_call (codeAny_mono (call w s₀ s₁ mg mb fa o pm cd doc a vs ns G Y ho (fd_plain hd) hcd hmg hobj hints hlen hg) fun r s' hq => ?_)
  obtain ⟨rfl, h2, h3, h4⟩ := hq
  exact ⟨.inl ⟨.bool true, .bool true, [], rfl, fun _ => rfl, .bool true, post_true l _, fun _ => ⟨List.Pairwise.nil, fun _ hm => (nomatch hm)⟩⟩, h2, h3, h4⟩

section
variable {prog : Program} {w : World} {A : Around} {E : Value → Shared → Prop} {s : Shared} {K : Frag}

end
end Att

namespace L2
open PySem PySem.Spec PyProof.Rows

theorem vals_ints : ∀ {vs : List Value} {ns : List Int}, IntsAre vs ns → Vals (ns.map V.int) vs
  | _, _, .nil => .nil
  | _, _, .cons n t h => .cons ⟨t, rfl⟩ (vals_ints h)

def Only (H : Hp) : Prop := ∀ b, H b = none ∨ ∃ o xs, H b = some (.frz o (.lst xs))

theorem law_call {P : Program} {w : World} {K : PySem.W.Frag} {mg mb : Str → Option Value} {CX : CXT} {k : Nat} {fa a : Addr} {fd : FuncData} {x : Str} {sp : Sp} {s₁ : Shared} {vs : List Value} {ns : List Int}
    (KX : K.In s₁.heap) (hns : s₁.heap.Ns mainGlobals mg) (hb : s₁.heap.Ns builtinsNs mb) (hbb : ∀ x : Str, x ≠ "__name__" → mb x = bootBuiltins x) (hlim : s₁.heap.NoLimit) (hg : s₁.gens = #[])
    (ha : s₁.heap.get? a = some { cls := .type "list", data := .seq vs.toArray }) (hi : IntsAre vs ns) (hl : ns.length ≤ sizeLine) (hr : Room k callerA)
    (F : ∀ base : Heap, K.In base → base.Ns mainGlobals mg → FnOk P w K mg base CX k fa fd [x] sp) (hbind : ∀ (s : Shared) (u : Value), BindsTo s fd ⟨[u], []⟩ [(x, u)])
    (hsp : ∀ H : Hp, Only H → SqL K H a (ns.map V.int) → sp [.ref a] H (fun v _ => v = .bl true) fun _ _ _ => False)
    (hCX : ∀ H e s', CX [] H s₁ (fun _ _ _ => False) e s' → False) :
    codeAny (model P w) callerA (.call (.ref fa) ⟨[.ref a], []⟩) (fun r s' => r = .ok (.ret (.bool true)) ∧ OldK s₁.heap s'.heap ∧ s'.os = s₁.os ∧ AllBare s'.gens) s₁ := by
  have rv := vals_ints hi
  have lenV := hi.length
  -- from an abstract heap in which nothing but the script may be tracked
  have core : ∀ H : Hp, Only H → SqL K H a (ns.map V.int) → HOk P w H s₁.heap → (∀ b, H b ≠ none → b = a) → (H a ≠ none → K.lookup a = none) →
      codeAny (model P w) callerA (.call (.ref fa) ⟨[.ref a], []⟩) (fun r s' => r = .ok (.ret (.bool true)) ∧ OldK s₁.heap s'.heap ∧ s'.os = s₁.os ∧ AllBare s'.gens) s₁ := by
    intro H hO hS hok hA hK
    have base_of : ∀ {b : Addr} {o : Obj}, s₁.heap.get? b = some o → H b = none → (hidT s₁.heap H).get? b = some o := fun e n => hidT_get e n
    have noA : ∀ {b : Addr} {o : Obj} {es : Array DictEntry} {ep : Nat}, s₁.heap.get? b = some o → o.data = .dict es ep → H b = none := fun {b o es ep} e d => by
      cases q : H b with
      | none => rfl
      | some u =>
        have e' : b = a := hA b (by rw [q]; simp)
        subst e'
        rw [ha] at e; cases e
        have d' : Data.seq vs.toArray _ = Data.dict es ep := d
        cases d'
    have nsK : ∀ {b : Addr} {m : Str → Option Value}, s₁.heap.Ns b m → (hidT s₁.heap H).Ns b m := fun {b m} ⟨o, es, ep, e, d, r⟩ => ⟨o, es, ep, base_of e (noA e d), d, r⟩
    have hKb : K.In (hidT s₁.heap H) := fun b o e => base_of (KX b o e) (by
      cases q : H b with
      | none => rfl
      | some u =>
        have e' : b = a := hA b (by rw [q]; simp)
        subst e'
        rw [hK (by rw [q]; simp)] at e; cases e)
    have hM : Mod K mg (hidT s₁.heap H) := ⟨hKb, nsK hns, ⟨mb, nsK hb, hbb⟩, let ⟨mc, h1, h2⟩ := hlim; ⟨mc, nsK h1, h2⟩⟩
    have e0 : Env0 P w K mg (hidT s₁.heap H) callerA [] s₁ H := ⟨rfl, hM, fun b o e => of_hidT e, Nat.le_of_eq (hidT_size _ _), trivial, fun b hb => absurd (show b ∈ ([] : List Addr) from hb) (by simp), hok, .of_eq hg⟩
    refine codeAny_mono ((F _ hKb (nsK hns)).run callerA [] s₁ H ⟨[.ref a], []⟩ [.ref a] [.ref a] _ _ hr e0 (hbind s₁ (.ref a)) (.cons rfl .nil) (hsp H hO hS)) fun r s' h => ?_
    cases r with
    | error e => exact (hCX H e s' h).elim
    | ok fl =>
      cases fl with
      | next => exact False.elim h
      | brk => exact False.elim h
      | cont => exact False.elim h
      | ret u =>
        obtain ⟨v, H', os, bare, un, hok', r', q⟩ := h
        have q' : v = .bl true := q
        subst q'
        obtain rfl : u = Value.bool true := r'
        refine ⟨rfl, OldK.of_keep fun b o e => ?_, os, bare⟩
        cases q : H b with
        | none => exact un.keep b o e q (by intro z; exact absurd (show b ∈ ([] : List Addr) from z) (by simp)) (by simp)
        | some u =>
          rcases hO b with z | ⟨ob, xs, z⟩
          · rw [q] at z; cases z
          · have z2 := un.frzs b ob _ z
            obtain ⟨e1, _⟩ := hok b _ z
            obtain ⟨e2, _⟩ := hok' b _ z2
            rw [e] at e1; cases e1
            exact e2
  cases hk : K.lookup a with
  | some o =>
    -- the script is one of the module's own objects
    have e := KX a o hk
    rw [ha] at e
    cases e
    refine core (fun _ => none) (fun _ => .inl rfl) (.inr ⟨_, vs.toArray, _, hk, rfl, rfl, rfl, by rw [List.size_toArray, lenV]; exact hl, by simpa using rv⟩) (fun b u z => by have z' : (none : Option HO) = some u := z; cases z') (fun b z => absurd rfl z) fun z => absurd rfl z
  | none =>
    refine core (fun b => if b = a then some (.frz { cls := .type "list", data := .seq vs.toArray } (.lst (ns.map V.int))) else none) (fun b => ?_) (.inl (.inr ⟨{ cls := .type "list", data := .seq vs.toArray }, if_pos rfl⟩)) (fun b u z => ?_) (fun b z => ?_) fun _ => hk
    · by_cases hb : b = a
      · exact .inr ⟨_, _, if_pos hb⟩
      · exact .inl (if_neg hb)
    · by_cases hb : b = a
      · have z' := (if_pos hb).symm.trans z
        cases z'
        subst hb
        exact ⟨ha, by rw [List.length_map]; exact hl, vs, _, rv, ha⟩
      · have z' := (if_neg hb).symm.trans z
        cases z'
    · by_cases hb : b = a
      · exact hb
      · exact absurd (if_neg hb) z
end L2

namespace L2
open PySem PySem.Spec PyProof.Rows

abbrev KOf {K : PySem.W.Frag} {h : Heap} (_ : K.In h) : PySem.W.Frag := K

theorem walk_of {l : PySem.W.OpenLaw} {n k : Nat} {q : Program} {loose : List Str} {XP : (Str → Option Value) → Heap → Prop} {YP : World → Heap → Prop} {d : DefRec} {K : Params → PySem.W.Frag} {CX : World → CXT} {sp : World → Sp} {x : Str}
    (hn : l.most = some n) (hn2 : n ≤ sizeLine) (hdf : d.params.defaults = []) (hr : Room k callerA)
    (hY : ∀ (w : World) (h : Heap), YP w h → (K w.params).In h)
    (F : ∀ (w : World) (mg : Str → Option Value) (fa : Addr) (h : Heap), (K w.params).In h → h.Ns mainGlobals mg → mg d.name = some (.ref fa) →
      ∃ fd : FuncData, (∀ (s : Shared) (u : Value), BindsTo s fd ⟨[u], []⟩ [(x, u)]) ∧
        ∀ base : Heap, (K w.params).In base → base.Ns mainGlobals mg → FnOk l.prog w (K w.params) mg base (CX w) k fa fd [x] (sp w))
    (hsp : ∀ (w : World) (H : Hp) (a : Addr) (ns : List Int), ns.length ≤ n → Only H → SqL (K w.params) H a (ns.map V.int) → sp w [.ref a] H (fun v _ => v = .bl true) fun _ _ _ => False)
    (hCX : ∀ (w : World) (H : Hp) (s : Shared) (e : Value) (s' : Shared), CX w [] H s (fun _ _ _ => False) e s' → False) :
    PySem.W.WalkO q loose XP YP l.row.toRowW d [] (fun f vs => PySem.call f vs) := by
  refine Att.attach_call hn hdf fun w s₀ s₁ mg mb fa o pm cd doc a vs ns G Y ho hd hcd hmg hobj hints hlen hg => ?_
  have KX := hY w _ Y
  obtain ⟨fd, hb, hF⟩ := F w mg fa _ KX G.T.g hmg
  exact law_call KX G.T.g G.T.b G.T.builtins G.T.nolimit hg hobj hints (Nat.le_trans hlen hn2) hr hF hb (fun H hO hS => hsp w H a ns hlen hO hS) fun H e s' => hCX w H s₁ e s'
end L2

/- THE LAST THEOREM (shape; LID, My.* are yours):
   My.Adr: a structure of the addresses that your layer names (classes, functions); My.Txt K t: a structure (Prop) of the equations over K;
   My.txt_mk : {K} {implicit addresses ..} (e1 : nsIn K mainGlobals "law" = some (some (.ref f))) (e2 : K.lookup f = some ⟨oc, od, .func (fnOf "law" "law" params body scope dV kV doc pm an cdv ct), sl⟩) (e3 : codeIn K cdv "law" = true) .. : ∃ t, My.Txt K t

set_option maxRecDepth 100000 in
set_option maxHeartbeats 0 in
theorem PySem.Challenge.cw_LID_holds : PySem.Challenge.rw_LID.Holds := by
  w_on; o_law; k_head; (case hw => w_witness2)
  k_fill
  refine L2.walk_of (l := PySem.Challenge.rw_LID) (n := 63) (k := 40) (x := "script") (CX := fun w => ..) (sp := fun _ => My.sp_law) rfl (by decide) rfl ⟨rfl, by decide, by decide⟩ (fun w h Y => PySem.W.kIn_of Y) ?F ?S ?C
  case F =>
    intro w mg fa h KX G hmg
    have T : ∃ t, My.Txt (L2.KOf KX) t := by
      dsimp only [L2.KOf]                          -- K must stand as «<heap const> w.params» for k_is
      refine' My.txt_mk ?e1 ?e2 ?e3 ..
      (case e1 => PySem.W.k_is)                    -- in the order: a name -> its address -> its object -> its parts
      (case e2 => PySem.W.k_is)
      ..
    obtain ⟨t, T⟩ := T
    have e0 := hmg.symm.trans (PySem.W.mg_of KX G T.law)
    cases e0                                       -- fa is the law's own address
    exact ⟨_, fun s u => .of_eq rfl, fun base kb nb => My.law_fn T kb nb⟩     -- if «.of_eq rfl» comes too early: refine' ⟨_, ?b, fun base kb nb => My.law_fn T kb nb⟩; exact fun s u => .of_eq rfl
  case S => exact fun w H a ns hl hO hS => ..
  case C => exact ..
(the tactic k_is has no namespace: write k_is) -/

namespace L2
open PySem PySem.Spec PyProof.Rows

def inClass (s : Stmt) (j : Nat) : Stmt := match s with
  | .ClassDef _ _ _ body _ _ _ _ _ _ _ => body.getD j (.Pass ⟨0, 0, 0, 0⟩)
  | _ => .Pass ⟨0, 0, 0, 0⟩
def defArgs (s : Stmt) : Arguments := match s with
  | .FunctionDef _ a _ _ _ _ _ _ _ _ => a
  | _ => { posonlyargs := [], args := [], vararg := none, kwonlyargs := [], kw_defaults := [], kwarg := none, defaults := [] }
def defBody (s : Stmt) : List Stmt := match s with
  | .FunctionDef _ _ b _ _ _ _ _ _ _ => b
  | _ => []
def defScope (s : Stmt) : Scope := match s with
  | .FunctionDef _ _ _ _ _ _ sc _ _ _ => sc
  | _ => { kind := .function, names := [], isGenerator := false, isCoroutine := false }

abbrev CX0 : CXT := fun _ _ _ _ _ _ => False
abbrev E0 : XK := fun _ _ _ => False
theorem pass0 {X : Cx} : Passes CX0 X E0 := fun _ _ _ _ _ _ _ h => h.elim

structure Fun (K : PySem.W.Frag) (x qual : Str) (st : Stmt) (f : Addr) (fd : FuncData) : Prop where
  ex : ∃ (oc : Value) (od : Option Addr) (kV doc pm : Value) (an : Option Addr) (cdv ct : Value) (osl : Array (Option Value)),
    fd = PySem.W.fnOf x qual (defArgs st) (defBody st) (defScope st) .none kV doc pm an cdv ct ∧ K.lookup f = some ⟨oc, od, .func fd, osl⟩ ∧ PySem.W.codeIn K cdv qual = true
  kp : PySem.W.keepIn K (.ref f) = true
section
variable {P : Program} {w : World} {K : PySem.W.Frag} {mg : Str → Option Value} {base : Heap}
theorem Fun.ok {x qual : Str} {st : Stmt} {f : Addr} {fd : FuncData} {N ps : List Str} {k : Nat} {sp : Sp} (F : Fun K x qual st f fd) (S : FnScope N ps (defScope st)) (len : ∀ vs H Q E, sp vs H Q E → vs.length = ps.length)
    (hbody : ∀ (cdv : Value) (A : Around) (outer : List Env) (s : Shared) (H : Hp) (vs : List V) (Q : VK) (E : XK), Room k (A.deeper (envOfC qual (defScope st) s.heap.objs.size f cdv)) → sp vs H Q E →
      ∃ t, PSs (cxOf CX0 P w K mg base N qual (defScope st) f cdv A outer s H E).nox (defBody st) t ∧ t { nx := fun _ H' => Q .non H', rt := Q } (start N vs) H) : FnOk P w K mg base CX0 (k + 1) f fd ps sp := by
  obtain ⟨oc, od, kV, doc, pm, an, cdv, ct, osl, rfl, lk, hcd⟩ := F.ex
  refine fn_of lk hcd S len fun A outer s H vs Q E hr hsp => ?_
  obtain ⟨t, h, q⟩ := hbody cdv A outer s H vs Q E hr hsp
  exact ⟨t, h.nox, q⟩
theorem Fun.binds {x qual : Str} {st : Stmt} {f : Addr} {fd : FuncData} {ps : List Str} (F : Fun K x qual st f fd)
    (h : ∀ (kV doc pm : Value) (an : Option Addr) (cdv ct : Value) (us : List Value), us.length = ps.length → bindArgs (PySem.W.fnOf x qual (defArgs st) (defBody st) (defScope st) .none kV doc pm an cdv ct) ⟨us, []⟩ = pure (ps.zip us)) : Binds K fd ps [] := by
  obtain ⟨oc, od, kV, doc, pm, an, cdv, ct, osl, rfl, lk, hcd⟩ := F.ex
  exact .all (h kV doc pm an cdv ct)
end
theorem hu_of {A : Around} {k : Nat} (hr : Room k A) : A.units + 1 < cLine := Nat.lt_of_le_of_lt (Nat.add_le_add_left (by decide : 1 ≤ 64) _) hr.units
section
variable {X : Cx}
theorem pv (i : Nat) {x : Str} {pos : Pos} (hN : X.N[i]? = some x := by rfl) (hv : Vis X.env.scope x := by first | exact Or.inl rfl | exact Or.inr (Or.inl rfl) | exact Or.inr (Or.inr rfl)) (hd : (x == ("__debug__" : Str)) = false := by decide)
    (hcd : (x == ("__classdict__" : Str)) = false := by decide) : PE X (.Name x pos) (tVar i) := pe_var hN hv hd hcd
end

theorem iteF {A B : Prop} (h : B) : if false = true then A else B := by
  rw [if_neg Bool.false_ne_true]
  exact h
theorem iteT {A B : Prop} (h : A) : if true = true then A else B := by
  rw [if_pos rfl]
  exact h
def Same (H H' : Hp) : Prop := ∀ b o, H b = some o → H' b = some o
theorem Same.refl (H : Hp) : Same H H := fun _ _ h => h
theorem Same.trans {H H1 H2 : Hp} (a : Same H H1) (b : Same H1 H2) : Same H H2 := fun c o h => b c o (a c o h)
theorem Same.free {H H' : Hp} (e : Same H H') {l : Addr} (h : H' l = Option.none) : H l = Option.none := by
  cases q : H l with
  | none => rfl
  | some o =>
    rw [e l o q] at h
    cases h
theorem Same.seq {K : PySem.W.Frag} {H H' : Hp} {a : Addr} {xs : List V} (e : Same H H') (h : SqL K H a xs) : SqL K H' a xs := by
  rcases h with (h | ⟨o, h⟩) | h
  · exact .inl (.inl (e _ _ h))
  · exact .inl (.inr ⟨o, e _ _ h⟩)
  · exact .inr h

end L2

namespace L2
open PySem PySem.Spec PyProof.Rows
section
variable {X : Cx}
end
section
variable {κ : Type} [DecidableEq κ]
end
end L2


namespace L2
open PySem PySem.Spec PyProof.Rows
section
variable {X : Cx}
theorem get_list : PGet X (rIxL X.K) := by
  intro pins s σ H o i ov iv Q I ro ri h
  obtain ⟨p, xs, k, z, rfl, rfl, hq, he, q⟩ := h
  cases ro
  obtain ⟨t, rfl⟩ := ri
  obtain ⟨its, r, pl, hz⟩ := I.list hq
  obtain ⟨j, h1, h2, h3, h4, h5⟩ := atI_get he
  obtain ⟨w, ew, rw'⟩ := r.get h2
  have hl := r.length
  have hn := line63
  have fin : EP X pins σ Q w s := ⟨z, H, I, rw', q⟩
  by_cases h0 : 0 ≤ k
  · have hj : k.toNat = j := by
      rw [seqIndex_of h0 h5] at h1
      exact Option.some.inj h1
    exact wpAny_getItem_list pl.isList h0 (by omega) (by rw [hj]; simpa using ew) fin
  · have hj : (k + (its.toArray.size : Int)).toNat = j := by
      rw [seqIndex_neg (by omega) h4] at h1
      rw [List.size_toArray, ← hl]
      exact Option.some.inj h1
    exact wpAny_getItem_list_neg pl.isList (by omega) (by rw [List.size_toArray] <;> omega) (by omega) (by rw [hj]; simpa using ew) fin
end

def isW : V → Bool
  | .int _ => true
  | _ => false
def isI : V → Bool
  | .int _ => true
  | .bl _ => true
  | _ => false
def isB : V → Bool
  | .bl _ => true
  | _ => false
def isS : V → Bool
  | .str _ => true
  | _ => false
inductive Knd (H : Hp) : V → Prop where
  | non : Knd H .non
  | bl (b : Bool) : Knd H (.bl b)
  | int (i : Int) : Knd H (.int i)
  | str (x : Str) : Knd H (.str x)
  | lst {a : Addr} {xs : List V} (e : H a = some (.lst xs)) : Knd H (.ref a)
  | tup {a : Addr} {xs : List V} (e : H a = some (.tup xs)) : Knd H (.ref a)
theorem Knd.same {H H' : Hp} {x : V} (k : Knd H x) (s : Same H H') : Knd H' x := by
  cases k with
  | non => exact .non
  | bl b => exact .bl b
  | int i => exact .int i
  | str x => exact .str x
  | lst e => exact .lst (s _ _ e)
  | tup e => exact .tup (s _ _ e)
section
variable {K : PySem.W.Frag} {H : Hp} {x : V}
theorem kit_nI : PySem.W.kitOne K (.type "NoneType") (.type "int") = some false := by kernel_rfl
theorem kit_bI : PySem.W.kitOne K (.type "bool") (.type "int") = some true := by kernel_rfl
theorem kit_iI : PySem.W.kitOne K (.type "int") (.type "int") = some true := by kernel_rfl
theorem kit_sI : PySem.W.kitOne K (.type "str") (.type "int") = some false := by kernel_rfl
theorem kit_lI : PySem.W.kitOne K (.type "list") (.type "int") = some false := by kernel_rfl
theorem kit_tI : PySem.W.kitOne K (.type "tuple") (.type "int") = some false := by kernel_rfl
theorem kit_nB : PySem.W.kitOne K (.type "NoneType") (.type "bool") = some false := by kernel_rfl
theorem kit_bB : PySem.W.kitOne K (.type "bool") (.type "bool") = some true := by kernel_rfl
theorem kit_iB : PySem.W.kitOne K (.type "int") (.type "bool") = some false := by kernel_rfl
theorem kit_sB : PySem.W.kitOne K (.type "str") (.type "bool") = some false := by kernel_rfl
theorem kit_lB : PySem.W.kitOne K (.type "list") (.type "bool") = some false := by kernel_rfl
theorem kit_tB : PySem.W.kitOne K (.type "tuple") (.type "bool") = some false := by kernel_rfl
theorem kit_nS : PySem.W.kitOne K (.type "NoneType") (.type "str") = some false := by kernel_rfl
theorem kit_bS : PySem.W.kitOne K (.type "bool") (.type "str") = some false := by kernel_rfl
theorem kit_iS : PySem.W.kitOne K (.type "int") (.type "str") = some false := by kernel_rfl
theorem kit_sS : PySem.W.kitOne K (.type "str") (.type "str") = some true := by kernel_rfl
theorem kit_lS : PySem.W.kitOne K (.type "list") (.type "str") = some false := by kernel_rfl
theorem kit_tS : PySem.W.kitOne K (.type "tuple") (.type "str") = some false := by kernel_rfl
theorem Knd.ty (k : Knd H x) : ∃ t, TyOf K H x t ∧ PySem.W.kitOne K t (.type "int") = some (isI x) ∧ PySem.W.kitOne K t (.type "bool") = some (isB x) ∧ PySem.W.kitOne K t (.type "str") = some (isS x) := by
  cases k with
  | non => exact ⟨_, .non, kit_nI, kit_nB, kit_nS⟩
  | bl b => exact ⟨_, .bl b, kit_bI, kit_bB, kit_bS⟩
  | int i => exact ⟨_, .int i, kit_iI, kit_iB, kit_iS⟩
  | str y => exact ⟨_, .str y, kit_sI, kit_sB, kit_sS⟩
  | lst e => exact ⟨_, .lst e, kit_lI, kit_lB, kit_lS⟩
  | tup e => exact ⟨_, .tup e, kit_tI, kit_tB, kit_tS⟩
theorem isW_eq (x : V) : (if isI x = true then !isB x else false) = isW x := by cases x <;> rfl
end
def cellAt (ns : List Int) (k : Int) : Int := ns.getD k.toNat 0
theorem cellAt_in {ns : List Int} {k : Int} (h0 : 0 ≤ k) (h : k < ns.length) : atI (ns.map V.int) k = some (.int (cellAt ns k)) := by
  obtain ⟨j, rfl⟩ := Int.eq_ofNat_of_zero_le h0
  refine atI_nat ?_
  have hj : j < ns.length := by omega
  unfold cellAt
  simp [hj]
theorem cellAt_out {ns : List Int} {k : Int} (h0 : 0 ≤ k) (h : ¬ k < ns.length) : cellAt ns k = 0 := by
  unfold cellAt
  rw [List.getD_eq_getElem?_getD, List.getElem?_eq_none (by omega)]
  rfl
theorem Same.upd {H : Hp} {p : Addr} {o : HO} (h : H p = none) : Same H (upd H p o) := fun b u e => by
  rw [upd_ne (ne_of_none e h)]
  exact e
structure Wr (H H' : Hp) (p : Addr) (o : HO) : Prop where
  at_ : H' p = some o
  ne : ∀ b, b ≠ p → H' b = H b
theorem Wr.mk' {H : Hp} {p : Addr} {o : HO} : Wr H (upd H p o) p o := ⟨upd_same, fun _ h => upd_ne h⟩
theorem Wr.keep {H H' : Hp} {p b : Addr} {o u : HO} (r : Wr H H' p o) (h : H b = some u) (n : b ≠ p) : H' b = some u := (r.ne b n).trans h
abbrev NewO (H : Hp) (o : HO) (Q : VK) : Prop := ∀ p H', H p = none → Same H H' → H' p = some o → Q (.ref p) H'
theorem NewO.at {H : Hp} {o : HO} {Q : VK} (q : NewO H o Q) (p : Addr) (n : H p = none) : Q (.ref p) (upd H p o) := q p _ n (Same.upd n) upd_same
section
variable {X : Cx} {e : Expr} {es : List Expr} {t : TA} {pos : Pos}
def tTupN (t : TA) : TE := fun σ H Q => t σ H fun xs H1 => xs.length ≤ sizeLine ∧ NewO H1 (.tup xs) Q
def tLstN (t : TA) : TE := fun σ H Q => t σ H fun xs H1 => xs.length ≤ sizeLine ∧ NewO H1 (.lst xs) Q
theorem pe_tupN {x1} (h : PA X es t) : PE X (.Tuple es x1 pos) (tTupN t) := by
  intro pins s σ H Q I hq
  refine wpAny_Tuple_spliced (thn (h pos pins s σ H _ I hq) fun us s1 ⟨xs, H1, I1, r, z, q⟩ => ⟨by rw [← r.length]; exact z, ?_⟩)
  have hf : H1 s1.heap.objs.size = none := I1.hok.fresh (Nat.le_refl _)
  refine ⟨.ref s1.heap.objs.size, upd H1 s1.heap.objs.size (.tup xs), I1.laid (t' := s1.toks) (fun b u e => Heap.get?_push_of_some _ e) (Nat.le_refl _) ?_, rfl, q.at _ hf⟩
  exact ⟨z, us, r, ⟨_, Heap.get?_push_size _ rfl, rfl, _, rfl⟩⟩
theorem pe_lstN (h : PA X es t) : PE X (.List es pos) (tLstN t) := by
  intro pins s σ H Q I hq
  refine wpAny_List_spliced (thn (h pos pins s σ H _ I hq) fun us s1 ⟨xs, H1, I1, r, z, q⟩ => ⟨by rw [← r.length]; exact z, ?_⟩)
  have hf : H1 s1.heap.objs.size = none := I1.hok.fresh (Nat.le_refl _)
  refine ⟨.ref s1.heap.objs.size, upd H1 s1.heap.objs.size (.lst xs), I1.laid (t' := s1.toks) (fun b u e => Heap.get?_push_of_some _ e) (Nat.le_refl _) ?_, rfl, q.at _ hf⟩
  exact ⟨z, us, 0, r, Heap.get?_push_size _ rfl⟩
def rCatN : R2 := fun x y H Q => ∃ l b xs zs, x = .ref l ∧ y = .ref b ∧ H l = some (.lst xs) ∧ H b = some (.lst zs) ∧ xs.length + zs.length ≤ sizeLine ∧ NewO H (.lst (xs ++ zs)) Q
theorem op_catN : OpR X (binaryOp .Add) rCatN := by
  intro pins s σ H x y v u Q I rx ry ⟨l, b, xs, zs, e1, e2, h1, h2, h3, q⟩
  exact op_cat pins s σ H x y v u Q I rx ry ⟨l, b, xs, zs, e1, e2, h1, h2, h3, q.at⟩
def rRepN : R2 := fun x y H Q => ∃ l k v, x = .ref l ∧ y = .int k ∧ H l = some (.lst [v]) ∧ 0 ≤ k ∧ k ≤ 100000 ∧ NewO H (.lst (List.replicate k.toNat v)) Q
theorem flat_one {α : Type} (v : α) : ∀ k : Nat, (List.replicate k [v]).flatten = List.replicate k v
  | 0 => rfl
  | k + 1 => by rw [List.replicate_succ, List.flatten_cons, flat_one v k, List.replicate_succ]; rfl
theorem op_repN : OpR X (binaryOp .Mult) rRepN := by
  intro pins s σ H x y v u Q I rx ry ⟨l, k, z, e1, e2, h1, h2, h3, q⟩
  refine op_rep pins s σ H x y v u Q I rx ry ⟨l, k, [z], e1, e2, h1, by omega, by omega, ?_, ?_⟩
  · rw [sizeLine_eq, List.length_singleton]
    omega
  · rw [flat_one]
    exact q.at
theorem call_list_ofN : CallR X (.type "list") (fun xs H Q => ∃ p ys, xs = [.ref p] ∧ (SqL X.K H p ys ∨ SqT X.K H p ys) ∧ NewO H (.lst ys) Q) := by
  intro pins s σ H xs us Q I r ⟨p, ys, e, h, q⟩
  exact call_list_of pins s σ H xs us Q I r ⟨p, ys, e, h, q.at⟩
end
def spWhole : Sp := fun vs H Q _ => ∃ x, vs = [x] ∧ Knd H x ∧ Q (.bl (isW x)) H
def inB (x : V) (lo hi : Int) : Bool := match x with
  | .int i => decide (lo ≤ i) && decide (i ≤ hi)
  | _ => false
def spWithin : Sp := fun vs H Q _ => ∃ x lo hi, vs = [x, .int lo, .int hi] ∧ Knd H x ∧ Q (.bl (inB x lo hi)) H
def spCell (K : PySem.W.Frag) : Sp := fun vs H Q _ => ∃ a ns k, vs = [.ref a, .int k] ∧ SqL K H a (ns.map V.int) ∧ 0 ≤ k ∧ Q (.int (cellAt ns k)) H
def spLaw (K : PySem.W.Frag) : Sp := fun vs H Q _ => ∃ (a : Addr) (ns : List Int), vs = [.ref a] ∧ SqL K H a (ns.map V.int) ∧ ns.length ≤ 63 ∧ ∀ H', Q (.bl true) H'
end L2

namespace L2
open PySem
def ExO (h : Heap) (e : Addr) (C : Value) (od : Option Addr) (vs : Array Value) : Prop := ∃ oe, h.get? e = some oe ∧ oe.cls = C ∧ oe.dict = od ∧ oe.data = .fields vs ∧ 1 < vs.size
def TrO (h : Heap) (e T : Addr) (vs : Array Value) (f : Value) : Prop := vs[1]? = some (.ref T) ∧ T ≠ e ∧ ∃ oT ts, h.get? T = some oT ∧ oT.data = .fields ts ∧ ts[3]? = some f
def Air (L : Addr) (h : Heap) (e : Addr) (C : Value) (od : Option Addr) : Option Addr → Prop
  | none => ∃ vs, ExO h e C od vs ∧ vs[1]? = some .none
  | some T => ∃ vs f, ExO h e C od vs ∧ TrO h e T vs f ∧ (f = .none ∨ f = rawInt L)
def Held (f : Value) (h : Heap) (e T : Addr) (C : Value) (od : Option Addr) : Prop := ∃ vs, ExO h e C od vs ∧ TrO h e T vs f
structure Chg (fr rs : List Addr) (h h' : Heap) : Prop where
  keep : ∀ b o, b ∉ fr → b ∉ rs → h.get? b = some o → h'.get? b = some o
  slot : ∀ b o, b ∉ rs → h.get? b = some o → ∃ sl, h'.get? b = some { o with slots := sl }
  there : ∀ b o, h.get? b = some o → ∃ o', h'.get? b = some o'
theorem Chg.refl {fr rs : List Addr} {h : Heap} : Chg fr rs h h := ⟨fun _ _ _ _ e => e, fun _ o _ e => ⟨o.slots, e⟩, fun _ o e => ⟨o, e⟩⟩
theorem Chg.trans {fr rs : List Addr} {h h1 h2 : Heap} (x : Chg fr rs h h1) (y : Chg fr rs h1 h2) : Chg fr rs h h2 :=
  ⟨fun b o f r e => y.keep b o f r (x.keep b o f r e), fun b o r e => let ⟨_, e1⟩ := x.slot b o r e; let ⟨sl, e2⟩ := y.slot b _ r e1; ⟨sl, e2⟩,
   fun b o e => let ⟨_, e1⟩ := x.there b o e; y.there b _ e1⟩
theorem Chg.fresh {fr rs rs' : List Addr} {h h1 h2 : Heap} (x : Chg fr rs h h1) (y : Chg fr rs' h1 h2) (n : ∀ b ∈ rs', b ∈ rs ∨ h.get? b = none) : Chg fr rs h h2 := by
  have m : ∀ b o, b ∉ rs → h.get? b = some o → b ∉ rs' := fun b o r e z => (n b z).elim r fun q => by rw [q] at e; cases e
  exact ⟨fun b o f r e => y.keep b o f (m b o r e) (x.keep b o f r e), fun b o r e => let ⟨_, e1⟩ := x.slot b o r e; let ⟨sl, e2⟩ := y.slot b _ (m b o r e) e1; ⟨sl, e2⟩,
    fun b o e => let ⟨_, e1⟩ := x.there b o e; y.there b _ e1⟩
theorem Chg.slots {fr rs : List Addr} {h h' : Heap} (x : Heap.SlotsOnly fr h h') : Chg fr rs h h' :=
  ⟨fun b o f _ e => (x.2.1 b f).trans e, fun b o _ e => x.2.2 b o e, fun b o e => let ⟨sl, q⟩ := x.2.2 b o e; ⟨_, q⟩⟩
theorem Chg.upd {fr rs : List Addr} {h : Heap} {a : Addr} {f : Obj → Obj} (ha : a ∈ rs) (hf : ∀ o, h.get? a = some o → (f o).isFreed = false) : Chg fr rs h (h.update a f) := by
  have k : ∀ b o, b ∉ rs → h.get? b = some o → (h.update a f).get? b = some o := fun b o r e => by
    exact (Heap.get?_update_other h f (fun (q : a = b) => r (q ▸ ha))).trans e
  refine ⟨fun b o _ r e => k b o r e, fun b o r e => ⟨o.slots, k b o r e⟩, fun b o e => ?_⟩
  by_cases q : b = a
  · subst q; exact ⟨_, Heap.get?_update_self f e (hf o e)⟩
  · exact ⟨o, by rw [Heap.get?_update_other h f (Ne.symm q)]; exact e⟩
theorem Chg.push {fr rs : List Addr} {h : Heap} {o : Obj} : Chg fr rs h (h.push o) :=
  ⟨fun b u _ _ e => Heap.get?_push_of_some _ e, fun b u _ e => ⟨u.slots, Heap.get?_push_of_some _ e⟩, fun b u e => ⟨u, Heap.get?_push_of_some _ e⟩⟩
theorem mapF_dict (o : Obj) (f : Array Value → Array Value) : (o.mapFields f).dict = o.dict := by
  obtain ⟨c, d, dt, sl⟩ := o
  cases dt <;> rfl
theorem ExO.set {h : Heap} {e : Addr} {C : Value} {od : Option Addr} {vs : Array Value} (x : ExO h e C od vs) (i : Nat) (v : Value) : ExO (h.update e (Obj.mapFields (·.setIfInBounds i v))) e C od (vs.setIfInBounds i v) := by
  obtain ⟨oe, h1, h2, h3, h4, h5⟩ := x
  have hd := Obj.data_mapFields h4 (·.setIfInBounds i v)
  exact ⟨_, Heap.get?_update_self _ h1 (Obj.isFreed_of_fields hd), (Obj.cls_mapFields _ _).trans h2, (mapF_dict _ _).trans h3, hd, by simpa using h5⟩
theorem ExO.of {h h' : Heap} {e : Addr} {C : Value} {od : Option Addr} {vs : Array Value} (x : ExO h e C od vs) (k : ∀ o, h.get? e = some o → h'.get? e = some o) : ExO h' e C od vs :=
  let ⟨oe, h1, r⟩ := x; ⟨oe, k _ h1, r⟩
section
variable {M : Model} {A : Around} {E : Value → Shared → Prop} {s : Shared} {env : Env} {outer : List Env} {L e T : Addr} {C : Value} {od : Option Addr} {base : Heap}
theorem ExO.nofr {h : Heap} {l : List Env} {vs : Array Value} (x : ExO h e C od vs) (hl : h.FunFrames base l) : e ∉ l.filterMap (·.frame) := fun hm => by
  obtain ⟨_, o, ho, hn⟩ := hl.mem hm
  obtain ⟨oe, h1, _, _, h4, _⟩ := x
  rw [h1] at ho
  cases ho
  exact hn _ h4
theorem entry_ok {head : Value} {hn : Bool} {vs : Array Value} {Q : Unit → Shared → Prop} (hfr : A.frames = some (env :: outer)) (hl : s.heap.FunFrames base (env :: outer)) (hf : env.frame = some L) (x : ExO s.heap e C od vs)
    (q : ∀ h' T, Chg ((env :: outer).filterMap (·.frame)) [e] s.heap h' → Held (rawInt L) h' e T C od → s.heap.objs.size ≤ T → Q () { s with heap := h' }) :
    wpAny M A (do let a ← frameOf env; let pl ← entryPlaceOf L hn; let b ← EntryCells.newEntry head a .none (rawInt L) .none pl; setField (.ref e) 1 b) Q E s := by
  have ne := x.nofr hl
  refine wpAny_bind (wpAny_frameOf_fun hfr hl hf fun h1 so => wpAny_bind (wpAny_entryPlaceOf fun pl hp => ?_))
  unfold EntryCells.newEntry newFields
  refine wpAny_bind (wpAny_newObj_type ?_ (hp.sizeOk5 _ _ _ _ _))
  have x1 : ExO h1 e C od vs := x.of fun o z => (so.2.1 e ne).trans z
  have x2 := x1.of (h' := h1.push _) fun o z => Heap.get?_push_of_some { cls := .type "traceback", dict := none, data := .fields ([head, .ref L, .none, rawInt L, .none] ++ (if pl.isEmpty then List.replicate 6 Value.none else pl)).toArray } z
  obtain ⟨oe, a1, a2, a3, a4, a5⟩ := id x2
  refine wpAny_setField a1 a4 a5 ?_
  have hlt : e < h1.objs.size := let ⟨_, z, _⟩ := x1; Heap.lt_size z
  have fresh : s.heap.objs.size ≤ h1.objs.size := Nat.le_of_eq so.1.symm
  refine q _ h1.objs.size (((Chg.slots so).trans Chg.push).trans (Chg.upd (List.mem_singleton.mpr rfl) fun o z => ?_)) ⟨_, x2.set 1 _, ?_, Nat.ne_of_gt hlt, { cls := .type "traceback", dict := none, data := .fields ([head, .ref L, .none, rawInt L, .none] ++ (if pl.isEmpty then List.replicate 6 Value.none else pl)).toArray }, _, ?_, rfl, ?_⟩ fresh
  · rw [a1] at z
    cases z
    exact Obj.isFreed_of_fields (Obj.data_mapFields a4 _)
  · simp [a5]
  · rw [Heap.get?_update_other _ _ (Nat.ne_of_lt hlt)]
    exact Heap.get?_push_size h1 rfl
  · first | (simp; done) | (rcases hp with rfl | ⟨_, _, _, _, _, _, _, rfl⟩ <;> simp)
theorem note_ok {tr : Option Addr} {Q : Unit → Shared → Prop} (hfr : A.frames = some (env :: outer)) (hl : s.heap.FunFrames base (env :: outer)) (hf : env.frame = some L) (x : Air L s.heap e C od tr)
    (q : ∀ h' T, Chg ((env :: outer).filterMap (·.frame)) (e :: tr.toList) s.heap h' → Held (rawInt L) h' e T C od → (T ∈ tr ∨ s.heap.objs.size ≤ T) → Q () { s with heap := h' }) :
    wpAny M A (noteFrame (.ref e) env) Q E s := by
  unfold noteFrame
  simp only [hf]
  cases tr with
  | none =>
    obtain ⟨vs, x, h1⟩ := x
    obtain ⟨oe, a1, a2, a3, a4, a5⟩ := id x
    refine wpAny_bind (wpAny_field a1 a4 h1 ?_)
    rw [if_neg (by decide)]
    exact entry_ok hfr hl hf x fun h' T c hd n => q h' T c hd (.inr n)
  | some T =>
    obtain ⟨vs, f, x, ⟨t1, t2, oT, ts, t3, t4, t5⟩, hfl⟩ := x
    obtain ⟨oe, a1, a2, a3, a4, a5⟩ := id x
    refine wpAny_bind (wpAny_field a1 a4 t1 ?_)
    rw [if_pos (by simp)]
    refine wpAny_bind (wpAny_field t3 t4 t5 ?_)
    rcases hfl with rfl | rfl
    · rw [if_neg (by simp [rawInt])]
      refine wpAny_bind (wpAny_setField t3 t4 (Array.getElem?_eq_some_iff.mp t5).1 ?_)
      have k : ∀ b o, b ≠ T → s.heap.get? b = some o → (s.heap.update T (Obj.mapFields (·.setIfInBounds 3 Value.none))).get? b = some o := fun b o n z => (Heap.get?_update_other _ _ (Ne.symm n)).trans z
      have hl2 : (s.heap.update T (Obj.mapFields (·.setIfInBounds 3 Value.none))).FunFrames base (env :: outer) := hl.of_keeps fun b o z nf => ⟨o, k b o (fun w => by subst w; rw [t3] at z; cases z; exact nf _ t4) z, rfl⟩
      refine entry_ok (s := { s with heap := s.heap.update T (Obj.mapFields (·.setIfInBounds 3 Value.none)) }) hfr hl2 hf (x.of fun o z => k e o (Ne.symm t2) z) fun h' T' c hd n => q h' T' ?_ hd ?_
      · refine (Chg.upd (a := T) (by simp) fun o z => ?_).fresh c fun b hb => .inl ?_
        · rw [t3] at z
          cases z
          exact Obj.isFreed_of_fields (Obj.data_mapFields t4 _)
        · rw [List.mem_singleton.mp hb]
          exact List.mem_cons_self
      · exact .inr (Nat.le_trans (Nat.le_of_eq (Heap.size_after_update ..).symm) n)
    · rw [if_pos (by simp)]
      exact wpAny_pure (q _ T .refl ⟨vs, x, t1, t2, oT, ts, t3, t4, t5⟩ (.inl rfl))
theorem flight_ok {f : Value} {fr : Option Addr} {Q : Unit → Shared → Prop} (x : Held f s.heap e T C od)
    (q : ∀ h', Chg [] [T] s.heap h' → Held (fr.elim .none fun f => rawInt f) h' e T C od → Q () { s with heap := h' }) : wpAny M A (setFlight (.ref e) fr) Q E s := by
  obtain ⟨vs, x, t1, t2, oT, ts, t3, t4, t5⟩ := x
  obtain ⟨oe, a1, a2, a3, a4, a5⟩ := id x
  have hz := (Array.getElem?_eq_some_iff.mp t5).1
  unfold setFlight
  refine wpAny_bind (wpAny_field a1 a4 t1 ?_)
  rw [if_pos (by simp)]
  have hd := Obj.data_mapFields t4 (·.setIfInBounds 3 (fr.elim .none fun f => rawInt f))
  refine wpAny_setField t3 t4 hz (q _ (Chg.upd (by simp) fun o z => ?_) ⟨vs, x.of fun o z => ?_, t1, t2, _, _, Heap.get?_update_self _ t3 (Obj.isFreed_of_fields hd), hd, by simp [hz]⟩)
  · rw [t3] at z
    cases z
    exact Obj.isFreed_of_fields hd
  · exact (Heap.get?_update_other _ _ t2).trans z
theorem Held.air {f : Value} {h : Heap} (x : Held f h e T C od) (hf : f = .none ∨ f = rawInt L) : Air L h e C od (some T) := let ⟨vs, a, b⟩ := x; ⟨vs, f, a, b, hf⟩
theorem leave_ok {tr : Option Addr} {Q : Unit → Shared → Prop} (hfr : A.frames = some (env :: outer)) (hl : s.heap.FunFrames base (env :: outer)) (hf : env.frame = some L) (x : Air L s.heap e C od tr)
    (q : ∀ h' T, Chg ((env :: outer).filterMap (·.frame)) (e :: tr.toList) s.heap h' → Held .none h' e T C od → (T ∈ tr ∨ s.heap.objs.size ≤ T) → Q () { s with heap := h' }) : wpAny M A (leaving env (.ref e)) Q E s := by
  unfold leaving
  refine wpAny_bind (note_ok hfr hl hf x fun h' T c hd n => flight_ok hd fun h2 c2 hd2 => q h2 T ?_ hd2 n)
  refine c.fresh (rs' := [T]) ⟨fun b o _ r z => c2.keep b o (by simp) r z, c2.slot, c2.there⟩ fun b hb => ?_
  rw [List.mem_singleton.mp hb]
  exact n.imp (fun z => List.mem_cons_of_mem _ (by cases tr with | none => cases z | some t => cases z; exact List.mem_singleton.mpr rfl)) Heap.get?_none_of_le
end
end L2

namespace L2
open PySem PySem.Spec PyProof.Rows
section
variable {P : Program} {w : World} {H : Hp} {h h' : Heap} {a : Addr} {o : HO}
theorem ObjOk.there (x : ObjOk P w H h a o) : ∃ ob, h.get? a = some ob := by
  cases o with
  | lst xs => obtain ⟨_, _, _, _, e⟩ := x; exact ⟨_, e⟩
  | tup xs => obtain ⟨_, _, _, _, e, _⟩ := x; exact ⟨_, e⟩
  | dK kvs => obtain ⟨_, _, _, _, o, _, _, e, _⟩ := x; exact ⟨_, e⟩
  | dT kvs => obtain ⟨_, _, _, _, o, _, _, e, _⟩ := x; exact ⟨_, e⟩
  | set S n => obtain ⟨o, _, _, _, e, _⟩ := x; exact ⟨_, e⟩
  | ins C dx fs => obtain ⟨_, _, _, e, _⟩ := x; exact ⟨_, e⟩
  | own y => exact x
  | xd fs => obtain ⟨_, ⟨_, _, _, e, _⟩, _⟩ := x; exact ⟨_, e⟩
  | rng lo hi => obtain ⟨_, _, _, e⟩ := x; exact ⟨_, e⟩
  | frz ob u => exact ⟨_, x.1⟩
  | tbl ps => exact ⟨_, show h.get? a = some _ from x⟩
  | met f y => exact ⟨_, show h.get? a = some _ from x⟩
  | ext φ => exact x.2.1
theorem HOk.free (x : HOk P w H h) (e : h.get? a = none) : H a = none := by
  cases q : H a with
  | none => rfl
  | some o =>
    obtain ⟨_, z⟩ := (x a o q).there
    rw [e] at z
    cases z
theorem HOk.chg {fr rs : List Addr} (x : HOk P w H h) (c : Chg fr rs h h') (hf : ∀ b ∈ fr, H b = none) (hr : ∀ b ∈ rs, H b = none) : HOk P w H h' := by
  intro a o e
  refine (x a o e).stay (fun b u hb z => ?_) (fun _ q => q) fun _ _ q => q
  have n : H b ≠ none := by
    rcases hb with rfl | q
    · rw [e]; intro y; cases y
    · rw [q]; intro y; cases y
  exact c.keep b u (fun m => n (hf b m)) (fun m => n (hr b m)) z
end
def Recs (h : Heap) (rs : List Addr) : Prop := ∀ b ∈ rs, ∃ o vs, h.get? b = some o ∧ o.data = .fields vs
theorem Air.recs {L e : Addr} {h : Heap} {C : Value} {od tr : Option Addr} (x : Air L h e C od tr) : Recs h (e :: tr.toList) := by
  intro b hb
  cases tr with
  | none =>
    obtain ⟨vs, ⟨oe, a1, _, _, a4, _⟩, _⟩ := x
    have e' : b = e := by simpa using hb
    subst e'
    exact ⟨_, _, a1, a4⟩
  | some T =>
    obtain ⟨vs, f, ⟨oe, a1, _, _, a4, _⟩, ⟨_, _, oT, ts, t3, t4, _⟩, _⟩ := x
    have e' : b = e ∨ b = T := by simpa using hb
    rcases e' with rfl | rfl
    · exact ⟨_, _, a1, a4⟩
    · exact ⟨_, _, t3, t4⟩
def Ours (X : Cx) (pins : List (Addr × Obj)) (H : Hp) (rs : List Addr) : Prop := ∀ b ∈ rs, (X.s₀.heap.get? b = none ∨ b ∈ X.ex) ∧ H b = none ∧ ∀ p ∈ X.pn ++ pins, p.1 ≠ b
section
variable {X : Cx} {pins : List (Addr × Obj)} {σ : St} {H : Hp} {s : Shared} {h' : Heap} {rs : List Addr}
theorem Inv.chg {t' : Nat} (I : Inv X pins σ H s) (c : Chg (frs X.stack) rs s.heap h') (o : Ours X pins H rs) (rc : Recs s.heap rs) : Inv X pins σ H { s with heap := h', toks := t' } := by
  obtain ⟨m, hn, hv⟩ := I.loc
  have nl : X.env.locals ∉ rs := fun z => by
    obtain ⟨ob, vs, e, d⟩ := rc _ z
    obtain ⟨o', es, ep, ho, hd, _⟩ := hn
    rw [e] at ho
    cases ho
    rw [d] at hd
    cases hd
  have nc : ∀ c v, s.heap.IsCell c v → c ∉ rs := fun c v q z => by
    obtain ⟨ob, vs, e, d⟩ := rc _ z
    obtain ⟨o', ho, hd⟩ := q
    rw [e] at ho
    cases ho
    rw [d] at hd
    cases hd
  have cellk : ∀ c v, s.heap.IsCell c v → h'.IsCell c v := fun a v q => by
    have n := nc a v q
    obtain ⟨o', ho, hd⟩ := q
    obtain ⟨sl, z⟩ := c.slot a o' n ho
    exact ⟨_, z, hd⟩
  have old : ∀ b ob, X.s₀.heap.get? b = some ob → b ∉ X.ex → b ∉ rs := fun b ob q ne z => by
    rcases (o b z).1 with y | y
    · rw [q] at y; cases y
    · exact ne y
  have ns' : h'.Ns X.env.locals m := by
    obtain ⟨o', es, ep, ho, r⟩ := hn
    obtain ⟨sl, z⟩ := c.slot _ o' nl ho
    exact ⟨_, es, ep, z, r⟩
  refine ⟨I.ok, I.os, I.bare, ⟨fun b ob q n nf ne => ?_, fun b ob q n hf ne => ?_, I.base.free, fun b ob q ne => ?_, I.base.tups, I.base.frzs, I.base.tbls⟩,
    ⟨m, ns', fun i x v e1 e2 e3 => ?_⟩, fun x a e => ?_, I.free, I.freeC, fun p hp => ?_, I.hok.chg c I.stkFree fun b hb => (o b hb).2.1, I.len⟩
  · refine c.keep b ob (fun z => ?_) (old b ob q ne) (I.base.keep b ob q n nf ne)
    rcases List.mem_cons.mp (I.stkSub b z) with rfl | y
    · exact absurd (Heap.lt_size q) (Nat.not_lt.mpr I.ok.above)
    · exact nf y
  · obtain ⟨sl, z⟩ := I.base.slot b ob q n hf ne
    obtain ⟨sl', z'⟩ := c.slot b _ (old b ob q ne) z
    exact ⟨sl', z'⟩
  · obtain ⟨o', z⟩ := I.base.there b ob q ne
    exact c.there b o' z
  · obtain ⟨u, r, lk⟩ := hv i x v e1 e2 e3
    refine ⟨u, r, lk.imp id fun ⟨k, cc, l, q⟩ => ⟨k, cc, l, cellk _ _ q⟩⟩
  · obtain ⟨v, q⟩ := I.cell x a e
    exact ⟨v, cellk _ _ q⟩
  · obtain ⟨p1, p2, p3, p4, p5⟩ := I.pin p hp
    refine ⟨c.keep _ _ (fun z => ?_) (fun z => (o _ z).2.2 p hp rfl) p1, p2, p3, p4, p5⟩
    rcases List.mem_cons.mp (I.stkSub _ z) with y | y
    · exact p3 y
    · exact p4 y
end
def CXe (P : Program) (w : World) : CXT := fun outer H s E e s' => ∃ ea T C od H', e = .ref ea ∧ s'.os = s.os ∧ AllBare s'.gens ∧ Un (frs outer) [] H H' s.heap s'.heap ∧ HOk P w H' s'.heap ∧
  Held .none s'.heap ea T C od ∧ (s.heap.get? ea = none ∧ s.heap.get? T = none) ∧ (H' ea = none ∧ H' T = none) ∧ E C od H'
def Takes (X : Cx) (ES : St → XK) : Prop := ∀ (pins : List (Addr × Obj)) (σ : St) (H : Hp) (s : Shared) (ea : Addr) (tr : Option Addr) (C : Value) (od : Option Addr),
  Inv X pins σ H s → Air X.env.locals s.heap ea C od tr → Ours X pins H (ea :: tr.toList) → ES σ C od H → X.xe (.ref ea) s
def PassesS (CX : CXT) (X : Cx) (ES : St → XK) : Prop := ∀ (pins : List (Addr × Obj)) (σ : St) (H : Hp) (s : Shared) (e : Value) (s' : Shared), Inv X pins σ H s → CX X.stack H s (ES σ) e s' → X.xe e s'
theorem Takes.passes {X : Cx} {ES : St → XK} (t : Takes X ES) : PassesS (CXe X.prog X.w) X ES := by
  intro pins σ H s e s' I ⟨ea, T, C, od, H', e1, ho, hg, u, hok, hd, ⟨f1, f2⟩, ⟨g1, g2⟩, q⟩
  subst e1
  refine t pins σ H' s' ea (some T) C od (I.call' ho u hok hg fun b hb => by cases hb) (hd.air (.inl rfl)) (fun b hb => ?_) q
  have key : ∀ b, s.heap.get? b = none → H' b = none → (X.s₀.heap.get? b = none ∨ b ∈ X.ex) ∧ H' b = none ∧ ∀ p ∈ X.pn ++ pins, p.1 ≠ b := fun b f g => by
    refine ⟨?_, g, fun p hp z => ?_⟩
    · by_cases y : b ∈ X.ex
      · exact .inr y
      · refine .inl ?_
        cases z : X.s₀.heap.get? b with
        | none => rfl
        | some ob =>
          obtain ⟨o', z'⟩ := I.base.there b ob z y
          rw [f] at z'
          cases z'
    · have y := (I.pin p hp).1
      rw [z, f] at y
      cases y
  have e' : b = ea ∨ b = T := by simpa using hb
  rcases e' with rfl | rfl
  · exact key _ f1 g1
  · exact key _ f2 g2
theorem takes_fn {P : Program} {w : World} {K : PySem.W.Frag} {mg : Str → Option Value} {base : Heap} {N : List Str} {qual : Str} {scope : Scope} {f : Addr} {cd : Value} {A : Around} {outer : List Env} {s : Shared} {H : Hp} {E : XK} :
    Takes (cxOf (CXe P w) P w K mg base N qual scope f cd A outer s H E) (fun _ => E) := by
  intro pins σ H' s' ea tr C od I air ours q
  refine leave_ok (base := base) I.ok.frames I.stack rfl air fun h' T c hd n => ?_
  have I2 := I.chg (t' := s'.toks) c ours air.recs
  have out : ∀ b, s'.heap.objs.size ≤ b → s.heap.get? b = none := fun b z => by
    cases y : s.heap.get? b with
    | none => rfl
    | some ob =>
      obtain ⟨o', y'⟩ := I.base.there b ob y (by intro m; cases m)
      exact absurd (Heap.lt_size y') (Nat.not_lt.mpr z)
  have own : ∀ b, b ∈ ea :: tr.toList → s.heap.get? b = none ∧ H' b = none := fun b hb => ⟨(ours b hb).1.elim id (fun z => by cases z), (ours b hb).2.1⟩
  have hT : s.heap.get? T = none ∧ H' T = none := by
    rcases n with z | z
    · exact own T (List.mem_cons_of_mem _ (by cases tr with | none => cases z | some t => cases z; exact List.mem_singleton.mpr rfl))
    · exact ⟨out T z, I.hok.fresh z⟩
  exact ⟨ea, T, C, od, H', rfl, I.os, I.bare, I2.base, I2.hok, hd, ⟨(own ea (List.mem_cons_self)).1, hT.1⟩, ⟨(own ea (List.mem_cons_self)).2, hT.2⟩, q⟩
end L2

namespace L2
open PySem PySem.Spec PyProof.Rows
def tCallS (sp : Sp) (dvs : List V) (ES : St → XK) (t : TA) : TE := fun σ H Q => t σ H fun vs H1 => sp (vs ++ dvs) H1 Q (ES σ)
def tMethS (C : Addr) (m : Str) (sp : Sp) (dvs : List V) (ES : St → XK) (ta : TE) (t : TA) : TE := fun σ H Q => ta σ H fun x H1 => ∃ a dx fs, x = .ref a ∧ H1 a = some (.ins C dx fs) ∧ fs.lookup m = none ∧
  t σ H1 fun vs H2 => sp (x :: (vs ++ dvs)) H2 Q (ES σ)
def tMakeS (C : Addr) (sp : Sp) (dvs : List V) (ES : St → XK) (t : TA) : TE := fun σ H Q => t σ H fun vs H1 => ∀ x dx, H1 x = none → H1 dx = none → dx ≠ x →
  sp (.ref x :: (vs ++ dvs)) (upd (upd H1 dx (.own x)) x (.ins C dx [])) (fun v H2 => v = .non ∧ Q (.ref x) H2) (ES σ)
theorem takes_never {X : Cx} : Takes X (fun _ _ _ _ => False) := fun _ _ _ _ _ _ _ _ _ _ _ h => h.elim
section
variable {X : Cx} {k : Nat} {f C : Addr} {fd : FuncData} {ps : List Str} {sp : Sp} {dvs : List V} {ds : List Value} {E : XK} {ES : St → XK} {x m : Str} {p pos apos : Pos} {e o : Expr} {es : List Expr} {ta : TE} {t : TA}
theorem run_fnS {pins : List (Addr × Obj)} {σ : St} {H : Hp} {s : Shared} {Q : VK} {us : List Value} {vs : List V} (F : FnOk X.prog X.w X.K X.mg X.base (CXe X.prog X.w) k f fd ps sp) (hr : Room k X.A) (hb : Binds X.K fd ps ds) (hd : Vals dvs ds) (tk : Takes X ES)
    (I : Inv X pins σ H s) (r : Vals vs us) (h : sp (vs ++ dvs) H Q (ES σ)) : wpAny (model X.prog X.w) X.A (call (.ref f) us) (EP X pins σ Q) X.xe s := by
  have r2 : Vals (vs ++ dvs) (us ++ ds) := r.append hd
  have hl : (us ++ ds).length = ps.length := by rw [← r2.length]; exact F.len _ _ _ _ h
  refine wpAny_call (codeAny_mono (F.run X.A X.stack s H ⟨us, []⟩ (us ++ ds) (vs ++ dvs) Q (ES σ) hr I.env0 (hb s us I.kIn hl) r2 h) fun r s' hq => ?_)
  cases r with
  | error e => exact tk.passes pins σ H s e s' I hq
  | ok fl =>
    cases fl with
    | ret u => exact I.after hq
    | next => exact False.elim hq
    | brk => exact False.elim hq
    | cont => exact False.elim hq
theorem pe_callS (tk : Takes X ES) (F : FnOk X.prog X.w X.K X.mg X.base (CXe X.prog X.w) k f fd ps sp) (hr : Room k X.A) (hg : Gl X x) (hm : X.mg x = some (.ref f)) (hk : PySem.W.keepIn X.K (.ref f) = true) (hb : Binds X.K fd ps ds) (hd : Vals dvs ds)
    (ha : PA X (e :: es) t) (hdb : (x == ("__debug__" : Str)) = false := by decide) (he : starEach (e :: es) X.env = (false, eval e X.env) :: starEach es X.env := by rfl) (hpl : (backTo pos (starEach es X.env)).any (·.1) = false := by rfl) :
    PE X (.Call (.Name x p) (e :: es) [] pos) (tCallS sp dvs ES t) := by
  intro pins s σ H Q I h
  refine wpAny_Call_Name_kw (ld_glob I hg hm ?_ hdb)
  refine PySem.W.callWith_K (h₀ := X.base) I.ok.mod.kin hk (thn (ha pos pins s σ H _ I h) fun us s1 ⟨vs, H1, I1, r, q⟩ => ⟨I1.kIn, ?_⟩) he hpl
  exact run_fnS F hr hb hd tk I1 r q
theorem pe_methS {pl : Sem Bool} (tk : Takes X ES) (he : PE X o ta) (c : Cls X.K C) (hm : Meth X.K C m f) (F : FnOk X.prog X.w X.K X.mg X.base (CXe X.prog X.w) k f fd ps sp) (hr : Room k X.A) (hb : Binds X.K fd ps ds) (hd : Vals dvs ds) (ha : PA X (e :: es) t)
    (hst : starEach (e :: es) X.env = (false, eval e X.env) :: starEach es X.env := by rfl) (hpl : (backTo pos (starEach es X.env)).any (·.1) = false := by rfl)
    (ht : eval (.Call (.Attribute o m apos) (e :: es) [] pos) X.env = (do
      let ov ← eval o X.env
      standAt apos.atName
      let (f, first) ← holding [ov] (getMethod ov m pl)
      callWith pos f first (backTo pos (starEach (e :: es) X.env)) (backToKw pos (keywordEach [] X.env))) := by rfl) :
    PE X (.Call (.Attribute o m apos) (e :: es) [] pos) (tMethS C m sp dvs ES ta t) := by
  intro pins s σ H Q I h
  refine PySem.W.methodCall_KW (pl := pl) (thn (he pins s σ H _ I h) fun u s1 ⟨x, H1, I1, rx, a, dx, fs, ex, ea, l, q⟩ => ?_) ht
  subst ex
  obtain rfl : u = Value.ref a := rx
  refine getmeth_ok I1 ea c hm l ?_
  refine PySem.W.callWith_K (first := [.ref a]) (h₀ := X.base) I.ok.mod.kin hm.kp (thn (ha pos pins s1 σ H1 _ I1 q) fun us s2 ⟨vs, H2, I2, r, q2⟩ => ⟨I2.kIn, ?_⟩) hst hpl
  exact run_fnS (us := .ref a :: us) (vs := .ref a :: vs) F hr hb hd tk I2 (.cons rfl r) q2
theorem pe_meth0S {pl : Sem Bool} (tk : Takes X ES) (he : PE X o ta) (c : Cls X.K C) (hm : Meth X.K C m f) (F : FnOk X.prog X.w X.K X.mg X.base (CXe X.prog X.w) k f fd ps sp) (hr : Room k X.A) (hb : Binds X.K fd ps ds) (hd : Vals dvs ds)
    (ht : eval (.Call (.Attribute o m apos) [] [] pos) X.env = (do
      let ov ← eval o X.env
      standAt apos.atName
      let (f, first) ← holding [ov] (getMethod ov m pl)
      callWith pos f first (backTo pos (starEach [] X.env)) (backToKw pos (keywordEach [] X.env))) := by rfl) :
    PE X (.Call (.Attribute o m apos) [] [] pos) (tMethS C m sp dvs ES ta tNil) := by
  intro pins s σ H Q I h
  refine PySem.W.methodCall_KW (pl := pl) (thn (he pins s σ H _ I h) fun u s1 ⟨x, H1, I1, rx, a, dx, fs, ex, ea, l, q⟩ => ?_) ht
  subst ex
  obtain rfl : u = Value.ref a := rx
  refine getmeth_ok I1 ea c hm l ?_
  exact PySem.W.callWith_K0 (first := [.ref a]) I1.kIn hm.kp (run_fnS (us := [.ref a]) (vs := [.ref a]) F hr hb hd tk I1 (.cons rfl .nil) q)
theorem run_makeS {pins : List (Addr × Obj)} {σ : St} {H : Hp} {s : Shared} {Q : VK} {us : List Value} {vs : List V} (M : Mk X.K C f) (F : FnOk X.prog X.w X.K X.mg X.base (CXe X.prog X.w) k f fd ps sp) (hr : Room (k + 1) X.A) (hb : Binds X.K fd ps ds) (hd : Vals dvs ds)
    (tk : Takes X ES) (I : Inv X pins σ H s) (r : Vals vs us)
    (h : ∀ x dx, H x = none → H dx = none → dx ≠ x → sp (.ref x :: (vs ++ dvs)) (upd (upd H dx (.own x)) x (.ins C dx [])) (fun v H2 => v = .non ∧ Q (.ref x) H2) (ES σ)) :
    wpAny (model X.prog X.w) X.A (call (.ref C) us) (EP X pins σ Q) X.xe s := by
  have hq := h (s.heap.objs.size + 1) s.heap.objs.size (I.hok.fresh (Nat.le_succ _)) (I.hok.fresh (Nat.le_refl _)) (Nat.ne_of_lt (Nat.lt_succ_self _))
  have I2 := Inv.made (C := C) I
  have r2 : Vals (V.ref (s.heap.objs.size + 1) :: (vs ++ dvs)) (Value.ref (s.heap.objs.size + 1) :: (us ++ ds)) := .cons rfl (r.append hd)
  have hl : (Value.ref (s.heap.objs.size + 1) :: us ++ ds).length = ps.length := by
    have e := r2.length
    rw [F.len _ _ _ _ hq] at e
    exact e.symm
  refine wpAny_call (make_map (f := f) I.kIn M.makes M.init (beq_iff_eq.mp M.fn) (codeAny_mono (F.run _ X.stack _ _ ⟨Value.ref (s.heap.objs.size + 1) :: us, []⟩ (Value.ref (s.heap.objs.size + 1) :: (us ++ ds)) _ _ (ES σ) (hr.make C us [])
    (I2.env0.make C us []) (hb _ (Value.ref (s.heap.objs.size + 1) :: us) I2.kIn hl) r2 hq) fun r s' hq' => ?_))
  cases r with
  | error e => exact tk.passes pins σ _ _ e s' I2 hq'
  | ok fl =>
    cases fl with
    | ret u =>
      obtain ⟨v, H', I3, rv, ev, q3⟩ := I2.after hq'
      subst ev
      exact ⟨rv, ⟨V.ref (s.heap.objs.size + 1), H', I3, rfl, q3⟩⟩
    | next => exact False.elim hq'
    | brk => exact False.elim hq'
    | cont => exact False.elim hq'
theorem pe_makeS (tk : Takes X ES) (M : Mk X.K C f) (F : FnOk X.prog X.w X.K X.mg X.base (CXe X.prog X.w) k f fd ps sp) (hr : Room (k + 1) X.A) (hg : Gl X x) (hm : X.mg x = some (.ref C)) (hb : Binds X.K fd ps ds) (hd : Vals dvs ds)
    (ha : PA X (e :: es) t) (hdb : (x == ("__debug__" : Str)) = false := by decide) (he : starEach (e :: es) X.env = (false, eval e X.env) :: starEach es X.env := by rfl) (hpl : (backTo pos (starEach es X.env)).any (·.1) = false := by rfl) :
    PE X (.Call (.Name x p) (e :: es) [] pos) (tMakeS C sp dvs ES t) := by
  intro pins s σ H Q I h
  refine wpAny_Call_Name_kw (ld_glob I hg hm ?_ hdb)
  refine PySem.W.callWith_K (h₀ := X.base) I.ok.mod.kin M.kp (thn (ha pos pins s σ H _ I h) fun us s1 ⟨vs, H1, I1, r, q⟩ => ⟨I1.kIn, ?_⟩) he hpl
  exact run_makeS M F hr hb hd tk I1 r q
end
structure FunD (K : PySem.W.Frag) (x qual : Str) (st : Stmt) (dV : Value) (f : Addr) (fd : FuncData) : Prop where
  ex : ∃ (oc : Value) (od : Option Addr) (kV doc pm : Value) (an : Option Addr) (cdv ct : Value) (osl : Array (Option Value)),
    fd = PySem.W.fnOf x qual (defArgs st) (defBody st) (defScope st) dV kV doc pm an cdv ct ∧ K.lookup f = some ⟨oc, od, .func fd, osl⟩ ∧ PySem.W.codeIn K cdv qual = true
section
variable {P : Program} {w : World} {K : PySem.W.Frag} {mg : Str → Option Value} {base : Heap} {dV : Value}
theorem Fun.d {x qual : Str} {st : Stmt} {f : Addr} {fd : FuncData} (F : Fun K x qual st f fd) : FunD K x qual st .none f fd := ⟨F.ex⟩
theorem FunD.mk' {x qual : Str} {st : Stmt} {f : Addr} {oc : Value} {od an : Option Addr} {osl : Array (Option Value)} {kV doc pm cdv ct : Value} (l : K.lookup f = some ⟨oc, od, .func (PySem.W.fnOf x qual (defArgs st) (defBody st) (defScope st) dV kV doc pm an cdv ct), osl⟩)
    (c : PySem.W.codeIn K cdv qual = true) : FunD K x qual st dV f (PySem.W.fnOf x qual (defArgs st) (defBody st) (defScope st) dV kV doc pm an cdv ct) := ⟨⟨oc, od, kV, doc, pm, an, cdv, ct, osl, rfl, l, c⟩⟩
theorem FunD.okE {x qual : Str} {st : Stmt} {f : Addr} {fd : FuncData} {N ps : List Str} {k : Nat} {sp : Sp} (F : FunD K x qual st dV f fd) (S : FnScope N ps (defScope st)) (len : ∀ vs H Q E, sp vs H Q E → vs.length = ps.length)
    (hbody : ∀ (cdv : Value) (A : Around) (outer : List Env) (s : Shared) (H : Hp) (vs : List V) (Q : VK) (E : XK), Room k (A.deeper (envOfC qual (defScope st) s.heap.objs.size f cdv)) → sp vs H Q E →
      ∃ t, PSs (cxOf (CXe P w) P w K mg base N qual (defScope st) f cdv A outer s H E) (defBody st) t ∧ t { nx := fun _ H' => Q .non H', rt := Q } (start N vs) H) : FnOk P w K mg base (CXe P w) (k + 1) f fd ps sp := by
  obtain ⟨oc, od, kV, doc, pm, an, cdv, ct, osl, rfl, lk, hcd⟩ := F.ex
  exact fn_of lk hcd S len fun A outer s H vs Q E hr hsp => hbody cdv A outer s H vs Q E hr hsp
theorem FunD.ok0 {x qual : Str} {st : Stmt} {f : Addr} {fd : FuncData} {N ps : List Str} {k : Nat} {sp : Sp} (F : FunD K x qual st dV f fd) (S : FnScope N ps (defScope st)) (len : ∀ vs H Q E, sp vs H Q E → vs.length = ps.length)
    (hbody : ∀ (cdv : Value) (A : Around) (outer : List Env) (s : Shared) (H : Hp) (vs : List V) (Q : VK) (E : XK), Room k (A.deeper (envOfC qual (defScope st) s.heap.objs.size f cdv)) → sp vs H Q E →
      ∃ t, PSs (cxOf CX0 P w K mg base N qual (defScope st) f cdv A outer s H E).nox (defBody st) t ∧ t { nx := fun _ H' => Q .non H', rt := Q } (start N vs) H) : FnOk P w K mg base CX0 (k + 1) f fd ps sp := by
  obtain ⟨oc, od, kV, doc, pm, an, cdv, ct, osl, rfl, lk, hcd⟩ := F.ex
  refine fn_of lk hcd S len fun A outer s H vs Q E hr hsp => ?_
  obtain ⟨t, h, q⟩ := hbody cdv A outer s H vs Q E hr hsp
  exact ⟨t, h.nox, q⟩
end
abbrev bmVE : List Value := [.type "ValueError", .type "Exception", .type "BaseException", .type "object"]
abbrev XCls (K : PySem.W.Frag) (C : Addr) : Prop := PySem.W.excIn K C bmVE "ValueError.__new__" = true
theorem xcls_at {K : PySem.W.Frag} {C : Addr} (q : XCls K C) : ∃ bm N nm qn bs hd sn sub ab col dd k0 k1 k2 k3 k5, K.lookup C = some (excClassObj nm qn C N bs bm hd sn sub ab col dd k0 k1 k2 k3 k5 "ValueError.__new__") ∧
    PySem.W.tailIn K bmVE bm = true ∧ PySem.W.nsOkIn K N = true ∧ PySem.W.nsIn K N "__init__" = some none := by
  unfold XCls PySem.W.excIn at q
  split at q
  · rename_i dd cd sl ho
    split at q
    · rename_i C' bm k0 k1 k2 k3 n k5 hm hs
      obtain ⟨nm, bs, mro, ns, qn, hd, sn, sub, ab, col, del⟩ := cd
      obtain ⟨l⟩ := sl
      simp only [Bool.and_eq_true, beq_iff_eq, Bool.not_eq_true'] at q hm hs
      obtain ⟨⟨⟨⟨⟨e1, e2⟩, e3⟩, e4⟩, e5⟩, e6⟩ := q
      subst e1 e2 e3 hm hs
      exact ⟨bm, ns, nm, qn, bs, hd, sn, sub, ab, col, dd, k0, k1, k2, k3, k5, ho, e4, e5, e6⟩
    · cases q
  · cases q
def tRaise (ES : St → XK) (C : Addr) (t : TA) : TS := fun _ σ H => t σ H fun vs H1 => vs.length ≤ sizeLine ∧ ES σ (.ref C) none H1
section
variable {X : Cx} {ES : St → XK} {C : Addr} {x : Str} {np cpos pos : Pos} {e : Expr} {es : List Expr} {t : TA}
theorem made_air {pins : List (Addr × Obj)} {σ : St} {H : Hp} {s : Shared} {h' : Heap} {ea : Addr} {C : Value} {vs : List Value} (I : Inv X pins σ H s) (m : Heap.MadeExcOf s.heap h' ea C vs) :
    Air X.env.locals h' ea C none none ∧ Ours X pins H [ea] := by
  obtain ⟨t, m1, m2, m3⟩ := m.there
  refine ⟨⟨_, ⟨_, m1, rfl, rfl, rfl, by simp⟩, rfl⟩, fun b hb => ?_⟩
  rw [List.mem_singleton.mp hb]
  refine ⟨?_, I.hok.free m.new, fun p hp z => ?_⟩
  · by_cases y : ea ∈ X.ex
    · exact .inr y
    · refine .inl ?_
      cases z : X.s₀.heap.get? ea with
      | none => rfl
      | some ob =>
        obtain ⟨o', z'⟩ := I.base.there ea ob z y
        rw [m.new] at z'
        cases z'
  · have y := (I.pin p hp).1
    rw [z, m.new] at y
    cases y
theorem ps_raise (tk : Takes X ES) (hc : X.calm = true) (hg : Gl X x) (hm : X.mg x = some (.ref C)) (hx : XCls X.K C) (ha : PA X (e :: es) t) (hdb : (x == ("__debug__" : Str)) = false := by decide)
    (he : starEach (e :: es) X.env = (false, eval e X.env) :: starEach es X.env := by rfl) (hpl : (backTo cpos (starEach es X.env)).any (·.1) = false := by rfl) :
    PS X (.Raise (some (.Call (.Name x np) (e :: es) [] cpos)) none pos) (tRaise ES C t) := by
  intro pins s σ H D I hq
  obtain ⟨bm, N, nm, qn, bs, hd, sn, sub, ab, col, dd, k0, k1, k2, k3, k5, lk, tl, ok, ni⟩ := xcls_at hx
  have kb := I.mod.kin
  have T0 := PySem.W.tail_of_in kb tl
  have hN : X.base.Ns N (X.base.nsMap N) := .of_isNs (PySem.W.isNs_of_in kb ok)
  have hni := PySem.W.nsMap_none_of_in kb ok ni
  have hplain : (backTo cpos (starEach (e :: es) X.env)).any (·.1) = false := by
    rw [he]
    show (false || (backTo cpos (starEach es X.env)).any (·.1)) = false
    rw [hpl]
    rfl
  refine wpAny_Raise_call_subT (C := C) (nm := nm) (q := qn) (N := N) (bs := bs) (bm := bm) (hdct := hd) (sn := sn) (sub := sub) (ab := ab) (col := col) (dd := dd) (k0 := k0) (k1 := k1) (k2 := k2) (k3 := k3) (k5 := k5) (mN := X.base.nsMap N)
    PySem.F.excBase_ValueError (T0.hasType (by decide)) (I.ok.hd hc) hplain hni (ld_glob I hg hm ⟨rfl, ?_⟩ hdb)
  have h0 := ha cpos pins s σ H _ I hq
  rw [he] at h0 ⊢
  refine PySem.Calls.evalArgs_plain (wpAny_mono h0 (fun us s1 h1 => ?_) fun _ _ y => y)
  obtain ⟨vs, H1, I1, r, hz, hE⟩ := h1
  refine ⟨rfl, by rw [← r.length]; exact hz, I1.bk _ _ (kb _ _ lk), ?_, T0.keeps I1.bk, fun h' ea m => ?_⟩
  · obtain ⟨o', es', ep', z, rr⟩ := hN
    exact ⟨o', es', ep', I1.bk _ _ z, rr⟩
  · obtain ⟨air, ours⟩ := made_air I1 m
    refine tk pins σ H1 { s1 with heap := h' } ea none (.ref C) none (I1.kept (t' := s1.toks) m.keeps) air ours hE
end
end L2

namespace L2
open PySem PySem.Spec PyProof.Rows
abbrev Cx.tr (X : Cx) (pins : List (Addr × Obj)) (XE : Value → Shared → Prop) : Cx := { X with pn := X.pn ++ pins, xe := XE }
abbrev Cx.sui (X : Cx) (e : Addr) : Cx := { X with A := X.A.mark (some (.ref e)), calm := false, xe := fun _ _ => False }
theorem Chg.mono {fr fr' rs rs' : List Addr} {h h' : Heap} (c : Chg fr rs h h') (f : ∀ b ∈ fr, b ∈ fr') (r : ∀ b ∈ rs, b ∈ rs') : Chg fr' rs' h h' :=
  ⟨fun b o a z e => c.keep b o (fun y => a (f b y)) (fun y => z (r b y)) e, fun b o z e => c.slot b o (fun y => z (r b y)) e, c.there⟩
theorem Held.recs {f : Value} {e T : Addr} {h : Heap} {C : Value} {od : Option Addr} (x : Held f h e T C od) : Recs h [e, T] := by
  obtain ⟨vs, ⟨oe, a1, _, _, a4, _⟩, _, _, oT, ts, t3, t4, _⟩ := x
  intro b hb
  have e' : b = e ∨ b = T := by simpa using hb
  rcases e' with rfl | rfl
  · exact ⟨_, _, a1, a4⟩
  · exact ⟨_, _, t3, t4⟩
section
variable {X : Cx} {pins : List (Addr × Obj)} {σ : St} {H : Hp} {s : Shared} {XE : Value → Shared → Prop}
theorem Inv.tr (I : Inv X pins σ H s) (XE : Value → Shared → Prop) : Inv (X.tr pins XE) [] σ H s :=
  have ok := I.ok
  ⟨⟨ok.mod, ok.kind, ok.glob, ok.blt, ok.above, ok.inj, ok.has, ok.cab, ok.hd, ok.frames, ok.stk, ok.exf, ok.bs, ok.bsz, ok.noex, ok.exfs, ok.funs, ok.frf⟩, I.os, I.bare, I.base, I.loc, I.cell, I.free, I.freeC, fun p hp => I.pin p (by simpa using hp), I.hok, I.len⟩
theorem Inv.untr {ps : List (Addr × Obj)} (I : Inv (X.tr pins XE) ps σ H s) : Inv X pins σ H s :=
  have ok := I.ok
  ⟨⟨ok.mod, ok.kind, ok.glob, ok.blt, ok.above, ok.inj, ok.has, ok.cab, ok.hd, ok.frames, ok.stk, ok.exf, ok.bs, ok.bsz, ok.noex, ok.exfs, ok.funs, ok.frf⟩, I.os, I.bare, I.base, I.loc, I.cell, I.free, I.freeC, fun p hp => I.pin p (List.mem_append_left _ hp), I.hok, I.len⟩
theorem Inv.sui (I : Inv X pins σ H s) (e : Addr) : Inv (X.sui e) pins σ H s :=
  have ok := I.ok
  ⟨⟨ok.mod, ok.kind, ok.glob, ok.blt, ok.above, ok.inj, ok.has, ok.cab, (fun z => by cases z), ok.frames, ok.stk, ok.exf, ok.bs, ok.bsz, ok.noex, ok.exfs, ok.funs, ok.frf⟩, I.os, I.bare, I.base, I.loc, I.cell, I.free, I.freeC, I.pin, I.hok, I.len⟩
theorem Inv.unsui {e : Addr} (hc : X.calm = true → X.A.handled = none) (I : Inv (X.sui e) pins σ H s) : Inv X pins σ H s :=
  have ok := I.ok
  ⟨⟨ok.mod, ok.kind, ok.glob, ok.blt, ok.above, ok.inj, ok.has, ok.cab, hc, ok.frames, ok.stk, ok.exf, ok.bs, ok.bsz, ok.noex, ok.exfs, ok.funs, ok.frf⟩, I.os, I.bare, I.base, I.loc, I.cell, I.free, I.freeC, I.pin, I.hok, I.len⟩
theorem SP.untr {D : Ends} {f : Flow} {s' : Shared} (h : SP (X.tr pins XE) [] D f s') : SP X pins D f s' := by
  cases f with
  | next => obtain ⟨σ', H', I, q⟩ := h; exact ⟨σ', H', I.untr, q⟩
  | brk => obtain ⟨σ', H', I, q⟩ := h; exact ⟨σ', H', I.untr, q⟩
  | cont => obtain ⟨σ', H', I, q⟩ := h; exact ⟨σ', H', I.untr, q⟩
  | ret u => obtain ⟨v, σ', H', I, r, q⟩ := h; exact ⟨v, σ', H', I.untr, r, q⟩
theorem SP.unsui {e : Addr} {D : Ends} {f : Flow} {s' : Shared} (hc : X.calm = true → X.A.handled = none) (h : SP (X.sui e) pins D f s') : SP X pins D f s' := by
  cases f with
  | next => obtain ⟨σ', H', I, q⟩ := h; exact ⟨σ', H', I.unsui hc, q⟩
  | brk => obtain ⟨σ', H', I, q⟩ := h; exact ⟨σ', H', I.unsui hc, q⟩
  | cont => obtain ⟨σ', H', I, q⟩ := h; exact ⟨σ', H', I.unsui hc, q⟩
  | ret u => obtain ⟨v, σ', H', I, r, q⟩ := h; exact ⟨v, σ', H', I.unsui hc, r, q⟩
theorem SP.mono {D D' : Ends} {f : Flow} {s' : Shared} (h : SP X pins D f s') (hn : ∀ σ H, D.nx σ H → D'.nx σ H) (hr : ∀ v H, D.rt v H → D'.rt v H) (hb : ∀ σ H, D.bk σ H → D'.bk σ H) (hc : ∀ σ H, D.ct σ H → D'.ct σ H) : SP X pins D' f s' := by
  cases f with
  | next => obtain ⟨σ', H', I, q⟩ := h; exact ⟨σ', H', I, hn _ _ q⟩
  | brk => obtain ⟨σ', H', I, q⟩ := h; exact ⟨σ', H', I, hb _ _ q⟩
  | cont => obtain ⟨σ', H', I, q⟩ := h; exact ⟨σ', H', I, hc _ _ q⟩
  | ret u => obtain ⟨v, σ', H', I, r, q⟩ := h; exact ⟨v, σ', H', I, r, hr _ _ q⟩
end
def IsExc (ea : Addr) (C : Value) (od : Option Addr) : Heap → Prop := fun h => ∃ o vs, h.get? ea = some o ∧ o.cls = C ∧ o.dict = od ∧ o.data = .fields vs
abbrev XO (ea : Addr) (C : Value) (od : Option Addr) : HO := .ext (IsExc ea C od)
abbrev TH := Ends → St → Hp → Addr → Value → Option Addr → Prop
def PHs (X : Cx) (hs : List ExceptHandler) (t : TH) : Prop := ∀ (pins : List (Addr × Obj)) (s : Shared) (σ : St) (H : Hp) (D : Ends) (ea T : Addr) (C : Value) (od : Option Addr),
  Inv X pins σ H s → Held .none s.heap ea T C od → Ours X pins H [ea, T] → t D σ H ea C od → wpAny (model X.prog X.w) X.A (handleBy (.ref ea) X.env hs) (SP X pins D) X.xe s
section
variable {X : Cx} {ES : St → XK}
theorem ph_nil (tk : Takes X ES) (hf : X.env.frame = some X.env.locals := by rfl) : PHs X [] (fun _ σ H _ C od => ES σ C od H) := by
  intro pins s σ H D ea T C od I hd ours q
  refine wpAny_handleBy_nil ?_
  unfold PySem.passOn
  have rc := hd.recs
  obtain ⟨vs, x, t1, t2, oT, ts, t3, t4, t5⟩ := id hd
  obtain ⟨oe, a1, a2, a3, a4, a5⟩ := id x
  refine wpAny_bind (wpAny_field a1 a4 t1 ?_)
  rw [if_neg (by simp)]
  refine wpAny_bind (flight_ok hd fun h' c hd2 => wpAny_throw ?_)
  rw [hf] at hd2
  exact tk pins σ H { s with heap := h' } ea (some T) C od (I.chg (t' := s.toks) (rs := [ea, T]) (c.mono (by simp) (by simp)) ours rc) (hd2.air (.inr rfl)) ours q
theorem Inv.pinX {pins : List (Addr × Obj)} {σ : St} {H : Hp} {s : Shared} {ea T : Addr} {C : Value} {od : Option Addr} {f : Value} (I : Inv X pins σ H s) (hd : Held f s.heap ea T C od) (ours : Ours X pins H [ea, T]) :
    ∃ oe oT, Inv X (pins ++ [(ea, oe), (T, oT)]) σ H s ∧ ∀ h' : Heap, h'.get? ea = some oe → h'.get? T = some oT → Held f h' ea T C od := by
  have rc := hd.recs
  obtain ⟨vs, ⟨oe, a1, a2, a3, a4, a5⟩, t1, t2, oT, ts, t3, t4, t5⟩ := hd
  refine ⟨oe, oT, I.pins_of fun p hp => ?_, fun h' z1 z2 => ⟨vs, ⟨oe, z1, a2, a3, a4, a5⟩, t1, t2, oT, ts, z2, t4, t5⟩⟩
  have nl : ∀ b o ws, s.heap.get? b = some o → o.data = .fields ws → b ≠ X.env.locals ∧ b ∉ X.fs := fun b o ws e d => by
    refine ⟨fun z => ?_, fun z => ?_⟩
    · obtain ⟨m, ⟨o', es, ep, ho, hd', _⟩, _⟩ := I.loc
      rw [← z, e] at ho
      cases ho
      rw [d] at hd'
      cases hd'
    · obtain ⟨_, o', ho, hn⟩ := I.funs.mem z
      rw [e] at ho
      cases ho
      exact hn _ d
  rcases List.mem_append.mp hp with z | z
  · exact I.pin p (List.mem_append_right _ z)
  · have z : p = (ea, oe) ∨ p = (T, oT) := by simpa using z
    rcases z with rfl | rfl
    · exact ⟨a1, (ours ea (by simp)).2.1, (nl _ _ _ a1 a4).1, (nl _ _ _ a1 a4).2, fun v q => by rw [a4] at q; cases q⟩
    · exact ⟨t3, (ours T (by simp)).2.1, (nl _ _ _ t3 t4).1, (nl _ _ _ t3 t4).2, fun v q => by rw [t4] at q; cases q⟩
theorem clause_test {ty : Expr} {c : V} {cv : Value} {pins : List (Addr × Obj)} {s : Shared} {σ : St} {H : Hp} {ea T : Addr} {C : Value} {od : Option Addr} {b : Bool} {R : Result → Shared → Prop} {pos : Pos} (hc : PE (X.sui ea) ty (tC c)) (rc : RelV c cv)
    (I : Inv X pins σ H s) (hh : X.calm = true → X.A.handled = none) (hd : Held .none s.heap ea T C od) (ours : Ours X pins H [ea, T]) (hx : PySem.W.exmOne X.K C cv = some b) (q : ∀ s', Inv X pins σ H s' → Held .none s'.heap ea T C od → R (.ok (if b then .brk else .next)) s') :
    codeAny (model X.prog X.w) (X.A.mark (some (.ref ea))) (.handlers (.ref ea) [.ExceptHandler (some ty) none [] pos] X.env) R s := by
  obtain ⟨oe, oT, I1, back⟩ := I.pinX hd ours
  refine codeAny_handlers_test (wpAny_mono (hc _ s σ H (fun v H' => v = c ∧ H' = H) (I1.sui ea) ⟨rfl, rfl⟩) (fun u s1 h1 => ?_) fun _ _ z => z.elim)
  obtain ⟨v, H', I2, r, e1, e2⟩ := h1
  subst e1 e2
  have e3 : u = cv := by
    cases v with
    | non => exact r.trans rc.symm
    | bl b => exact r.trans rc.symm
    | ref a => exact r.trans rc.symm
    | ty n => exact r.trans rc.symm
    | int i => obtain ⟨t, e⟩ := r; obtain ⟨t', e'⟩ := rc; subst e'; unfold PySem.W.exmOne at hx; split at hx <;> cases hx
    | str i => obtain ⟨t, e⟩ := r; obtain ⟨t', e'⟩ := rc; subst e'; unfold PySem.W.exmOne at hx; split at hx <;> cases hx
    | byt i => obtain ⟨t, e⟩ := r; obtain ⟨t', e'⟩ := rc; subst e'; unfold PySem.W.exmOne at hx; split at hx <;> cases hx
    | flt i => obtain ⟨t, e⟩ := r; obtain ⟨t', e'⟩ := rc; subst e'; unfold PySem.W.exmOne at hx; split at hx <;> cases hx
  subst e3
  have p1 := (I2.pin (ea, oe) (by simp)).1
  have p2 := (I2.pin (T, oT) (by simp)).1
  have hd1 := back _ p1 p2
  obtain ⟨vs, ⟨oe', z1, z2, _⟩, _⟩ := id hd1
  have LT : PySem.W.Looks (model X.prog X.w) s1.heap (typeOf (.ref ea)) C := by
    rw [← z2]
    exact (PySem.W.Looks.ld z1).andThen .now
  have I3 : Inv X pins σ H' s1 := (Inv.unsui hh I2).unpinned
  exact (PySem.W.exm_one I2.kIn LT hx).here (q s1 I3 hd1)
theorem ph_cons {ty : Expr} {c : V} {cv : Value} {b₀ : Stmt} {suite : List Stmt} {pos : Pos} {rest : List ExceptHandler} {ts : TS} {tr : TH} (hc : ∀ ea, PE (X.sui ea) ty (tC c)) (rc : RelV c cv) (hs : ∀ ea, PSs (X.sui ea) (b₀ :: suite) ts) (hr : PHs X rest tr) :
    PHs X (.ExceptHandler (some ty) none (b₀ :: suite) pos :: rest) (fun D σ H ea C od => ∃ b, PySem.W.exmOne X.K C cv = some b ∧ if b = true then ts D σ H else tr D σ H ea C od) := by
  intro pins s σ H D ea T C od I hd ours ⟨b, hx, q⟩
  refine wpAny_handleBy_cons (clause_test (hc ea) rc I I.ok.hd hd ours hx fun s' I' hd' => ?_) (by intro z; cases z)
  cases b with
  | false =>
    rw [if_neg (by simp)] at q
    exact hr pins s' σ H D ea T C od I' hd' ours q
  | true =>
    rw [if_pos rfl] at q
    refine codeAny_handlers_suite (flight_ok hd' fun h' c hd2 => ?_)
    have I2 := I'.chg (t' := s'.toks) (rs := [ea, T]) (c.mono (by simp) (by simp)) ours hd'.recs
    exact wpAny_mono (hs ea pins { s' with heap := h' } σ H D (I2.sui ea) q) (fun f s2 z => z.unsui I.ok.hd) fun _ _ z => z.elim
theorem Inv.track {pins : List (Addr × Obj)} {σ : St} {H : Hp} {s : Shared} {ea : Addr} {C : Value} {od : Option Addr} {o : Obj} {vs : Array Value} (I : Inv X pins σ H s) (e : s.heap.get? ea = some o) (e1 : o.cls = C) (e2 : o.dict = od) (e3 : o.data = .fields vs)
    (ours : Ours X pins H [ea]) : Inv X pins σ (upd H ea (XO ea C od)) s := by
  have w := ours ea (by simp)
  have ne : ∀ b o', X.s₀.heap.get? b = some o' → b ∉ X.ex → b ≠ ea := fun b o' z n y => by
    subst y
    rcases w.1 with q | q
    · rw [z] at q; cases q
    · exact n q
  have nt : ∀ b u, H b = some u → b ≠ ea := fun b u z y => by rw [y, w.2.1] at z; cases z
  have nl : ea ≠ X.env.locals := fun z => by
    obtain ⟨m, ⟨o', es, ep, ho, hd', _⟩, _⟩ := I.loc
    rw [← z, e] at ho
    cases ho
    rw [e3] at hd'
    cases hd'
  refine ⟨I.ok, I.os, I.bare, ⟨I.base.keep, I.base.slot, fun b o' z n x => ?_, I.base.there, fun b xs z => ?_, fun b o' u z => ?_, fun b ps z => ?_⟩, I.loc, I.cell, ?_, fun x c z => ?_, fun p hp => ?_, fun a u z => ?_, I.len⟩
  · rw [upd_ne (ne b o' z x)]
    exact I.base.free b o' z n x
  · have := I.base.tups b xs z
    rw [upd_ne (nt _ _ this)]
    exact this
  · have := I.base.frzs b o' u z
    rw [upd_ne (nt _ _ this)]
    exact this
  · obtain ⟨more, this⟩ := I.base.tbls b ps z
    exact ⟨more, by rw [upd_ne (nt _ _ this)]; exact this⟩
  · rw [upd_ne (Ne.symm nl)]
    exact I.free
  · have nc : c ≠ ea := fun y => by
      obtain ⟨v, o', ho, hd⟩ := I.cell x c z
      rw [y, e] at ho
      cases ho
      rw [e3] at hd
      cases hd
    rw [upd_ne nc]
    exact I.freeC x c z
  · obtain ⟨p1, p2, p3, p4, p5⟩ := I.pin p hp
    exact ⟨p1, by rw [upd_ne (w.2.2 p hp)]; exact p2, p3, p4, p5⟩
  · by_cases y : a = ea
    · subst y
      rw [upd_same] at z
      cases z
      exact ⟨⟨o, vs, e, e1, e2, e3⟩, ⟨o, e⟩, fun h1 h2 ⟨o1, ws, f1, f2⟩ k => ⟨o1, ws, k _ f1, f2⟩⟩
    · rw [upd_ne y] at z
      refine (I.hok a u z).stay (fun _ _ _ g => g) (fun b g => ?_) fun b xs g => ?_
      · rw [upd_ne (nt _ _ g)]; exact g
      · rw [upd_ne (nt _ _ g)]; exact g
theorem Inv.goes {M : Model} {A : Around} {E : Value → Shared → Prop} {pins : List (Addr × Obj)} {σ : St} {H : Hp} {s : Shared} {i : Nat} {n : Str} {pos : Pos} {Q : Unit → Shared → Prop} (I : Inv X pins σ H s) (hN : X.N.Nodup) (hi : X.N[i]? = some n)
    (hk : X.env.kindOf n = some .local) (q : ∀ s', Inv X pins (σ.set i none) H s' → Q () s') : wpAny M A (do bindName X.env n .none; unbindBehindTheSuite X.env n pos) Q E s := by
  obtain ⟨m, hn, hv⟩ := I.loc
  refine wpAny_nameGoes_keeps hk hn (by rw [I.ok.kind]; rfl) fun h' v hn' sb => q _ ?_
  have k : ∀ b o, b ≠ X.env.locals → s.heap.get? b = some o → h'.get? b = some o := fun b o z e => (sb.2 b z).trans e
  have cl : ∀ x c, X.env.cells.lookup x = some c → ∀ w, s.heap.IsCell c w → h'.IsCell c w := fun x c z w ⟨o, ho, hd⟩ => ⟨o, k c o (I.cne x c z) ho, hd⟩
  have below : ∀ b o, X.s₀.heap.get? b = some o → b ≠ X.env.locals := fun b o z y => absurd (Heap.lt_size z) (Nat.not_lt.mpr (y ▸ I.ok.above))
  refine ⟨I.ok, I.os, I.bare, ⟨fun b o z a f x => k b o (below b o z) (I.base.keep b o z a f x), fun b o z a f x => ?_, I.base.free, fun b o z x => ?_, I.base.tups, I.base.frzs, I.base.tbls⟩,
    ⟨_, hn', fun j x v' e1 e2 e3 => ?_⟩, fun x c z => ?_, I.free, I.freeC, fun p hp => ?_, fun a u z => ?_, by rw [List.length_set]; exact I.len⟩
  · obtain ⟨sl, y⟩ := I.base.slot b o z a f x
    exact ⟨sl, k b _ (below b o z) y⟩
  · obtain ⟨o', y⟩ := I.base.there b o z x
    exact ⟨o', k b _ (below b o z) y⟩
  · have ne : j ≠ i := fun y => by
      subst y
      rw [List.getElem?_set_self'] at e2
      cases y : σ[j]? with
      | none => rw [y] at e2; cases e2
      | some u => rw [y] at e2; cases e2
    rw [List.getElem?_set_ne (Ne.symm ne)] at e2
    have nx : x ≠ n := fun y => by
      subst y
      exact ne (nodup_ix hN e1 hi)
    obtain ⟨u, r, lk⟩ := hv j x v' e1 e2 e3
    refine ⟨u, r, ?_⟩
    rcases lk with ⟨z1, z2⟩ | ⟨z1, c, z2, z3⟩
    · refine .inl ⟨z1, ?_⟩
      show (if x = n then v else m x) = some u
      rw [if_neg nx]
      exact z2
    · exact .inr ⟨z1, c, z2, cl x c z2 _ z3⟩
  · obtain ⟨w, y⟩ := I.cell x c z
    exact ⟨w, cl x c z _ y⟩
  · obtain ⟨p1, p2, p3, p4, p5⟩ := I.pin p hp
    exact ⟨k _ _ p3 p1, p2, p3, p4, p5⟩
  · refine (I.hok a u z).stay (fun b u' hb g => k b u' (fun y => ?_) g) (fun _ g => g) fun _ _ g => g
    have f := I.free
    rw [← y] at f
    rcases hb with rfl | w
    · rw [z] at f; cases f
    · rw [w] at f; cases f
theorem ph_as {ty : Expr} {c : V} {cv : Value} {n : Str} {i : Nat} {b₀ : Stmt} {suite : List Stmt} {pos : Pos} {rest : List ExceptHandler} {ts : TS} {tr : TH} (hN : X.N.Nodup) (hi : X.N[i]? = some n) (hk : X.env.kindOf n = some .local) (hl : X.env.scope.names.lookup n = some .local)
    (hc : ∀ ea, PE (X.sui ea) ty (tC c)) (rc : RelV c cv) (hs : ∀ ea, PSs (X.sui ea) (b₀ :: suite) ts) (hr : PHs X rest tr) :
    PHs X (.ExceptHandler (some ty) (some n) (b₀ :: suite) pos :: rest) (fun D σ H ea C od => ∃ b, PySem.W.exmOne X.K C cv = some b ∧ if b = true then
      ts { nx := fun σ' H' => D.nx (σ'.set i none) H', rt := D.rt, bk := fun σ' H' => D.bk (σ'.set i none) H', ct := fun σ' H' => D.ct (σ'.set i none) H' } (σ.set i (some (.ref ea))) (upd H ea (XO ea C od)) else tr D σ H ea C od) := by
  intro pins s σ H D ea T C od I hd ours ⟨b, hx, q⟩
  refine wpAny_handleBy_cons (clause_test (hc ea) rc I I.ok.hd hd ours hx fun s' I' hd' => ?_) (by intro z; cases z)
  cases b with
  | false =>
    rw [if_neg (by simp)] at q
    exact hr pins s' σ H D ea T C od I' hd' ours q
  | true =>
    rw [if_pos rfl] at q
    refine codeAny_handlers_suite_as (flight_ok hd' fun h' c hd2 => ?_)
    have I2 := I'.chg (t' := s'.toks) (rs := [ea, T]) (c.mono (by simp) (by simp)) ours hd'.recs
    obtain ⟨vs, ⟨oe, a1, a2, a3, a4, _⟩, _⟩ := hd2
    have I3 := I2.track a1 a2 a3 a4 fun b hb => ours b (by rw [List.mem_singleton.mp hb]; simp)
    refine store_ok (X := X.sui ea) (v := .ref ea) (I3.sui ea) hN hi (.inl hl) rfl (fun s2 I4 => ?_) (.inr hl)
    refine wpAny_mono (hs ea pins s2 _ _ _ I4 q) (fun f s3 z => ?_) fun _ _ z => z.elim
    have z := z.unsui I.ok.hd
    show wpAny _ _ _ _ _ _
    cases f with
    | next => obtain ⟨σ', H', J, y⟩ := z; exact J.goes hN hi hk fun s4 J' => ⟨_, H', J', y⟩
    | brk => obtain ⟨σ', H', J, y⟩ := z; exact J.goes hN hi hk fun s4 J' => ⟨_, H', J', y⟩
    | cont => obtain ⟨σ', H', J, y⟩ := z; exact J.goes hN hi hk fun s4 J' => ⟨_, H', J', y⟩
    | ret u => obtain ⟨v, σ', H', J, r, y⟩ := z; exact J.goes hN hi hk fun s4 J' => ⟨v, _, H', J', r, y⟩
def tTry (tb : (St → XK) → TS) (th : TH) : TS := fun D σ H => tb (fun σ' C od H' => ∀ ea, H' ea = none → th D σ' H' ea C od) D σ H
theorem ps_try {body : List Stmt} {h₀ : ExceptHandler} {hs : List ExceptHandler} {pos : Pos} {tb : (St → XK) → TS} {th : TH}
    (hb : ∀ (pins : List (Addr × Obj)) (XE : Value → Shared → Prop) (ES : St → XK), Takes (X.tr pins XE) ES → PassesOwn (model X.prog X.w) X.A X.env XE → PSs (X.tr pins XE) body (tb ES)) (hh : PHs X (h₀ :: hs) th)
    (hfs : ∃ fr, X.stack = X.env :: fr := by exact ⟨_, rfl⟩) (hf : X.env.frame = some X.env.locals := by rfl) : PS X (.Try body (h₀ :: hs) [] [] pos) (tTry tb th) := by
  intro pins s σ H D I q
  refine wpAny_Try_except (wpAny_mono (hb pins (fun e s1 => wpAny (model X.prog X.w) X.A (noteFrame e X.env) (fun _ s2 => wpAny (model X.prog X.w) X.A (setFlight e none) (fun _ s3 => wpAny (model X.prog X.w) X.A (handleBy e X.env (h₀ :: hs)) (SP X pins D) X.xe s3) X.xe s2) X.xe s1)
    (fun σ' C od H' => ∀ ea, H' ea = none → th D σ' H' ea C od) ?_ PassesOwn.looking [] s σ H D (I.tr _) q) (fun f s1 z => ?_) fun e s1 z => z)
  · intro pins' σ' H' s' ea tr C od I' air ours y
    obtain ⟨fr, ek⟩ := hfs
    have frames : X.A.frames = some (X.env :: fr) := by rw [I.ok.frames, ek]
    have ff : s'.heap.FunFrames X.base (X.env :: fr) := by rw [← ek]; exact I'.stack
    refine note_ok frames ff hf air fun h' T c hd n => ?_
    have en : frs X.stack = (X.env :: fr).filterMap (·.frame) := by rw [ek]; rfl
    have I2 : Inv (X.tr pins _) pins' σ' H' { s' with heap := h' } := I'.chg (t' := s'.toks) (by show Chg (frs X.stack) _ _ _; rw [en]; exact c) ours air.recs
    have oT : Ours (X.tr pins fun e s1 => wpAny (model X.prog X.w) X.A (noteFrame e X.env) (fun _ s2 => wpAny (model X.prog X.w) X.A (setFlight e none) (fun _ s3 => wpAny (model X.prog X.w) X.A (handleBy e X.env (h₀ :: hs)) (SP X pins D) X.xe s3) X.xe s2) X.xe s1) pins' H' [ea, T] := by
      intro b hb
      have hb : b = ea ∨ b = T := by simpa using hb
      rcases hb with rfl | rfl
      · exact ours b (by simp)
      · rcases n with z | z
        · exact ours b (List.mem_cons_of_mem _ (by cases tr with | none => cases z | some t => cases z; exact List.mem_singleton.mpr rfl))
        · refine ⟨?_, I'.hok.fresh z, fun p hp w => ?_⟩
          · by_cases y : b ∈ X.ex
            · exact .inr y
            · refine .inl ?_
              cases w : X.s₀.heap.get? b with
              | none => rfl
              | some ob =>
                obtain ⟨o', w'⟩ := I'.base.there b ob w y
                exact absurd (Heap.lt_size w') (Nat.not_lt.mpr z)
          · have w' := (I'.pin p hp).1
            rw [w] at w'
            exact absurd (Heap.lt_size w') (Nat.not_lt.mpr z)
    refine flight_ok hd fun h2 c2 hd2 => ?_
    have I3 := I2.chg (t' := s'.toks) (rs := [ea, T]) (c2.mono (by simp) (by simp)) oT hd.recs
    exact hh pins _ σ' H' D ea T C od I3.untr hd2 (fun b hb => ⟨(oT b hb).1, (oT b hb).2.1, fun p hp => (oT b hb).2.2 p (List.mem_append_left _ hp)⟩) (y ea (ours ea (by simp)).2.1)
  · have z := z.untr
    cases f with
    | next => obtain ⟨σ', H', I', y⟩ := z; exact pss_nil pins s1 σ' H' D I' y
    | _ => exact z
end
end L2

namespace L2
open PySem PySem.Spec PyProof.Rows
section
variable {M : Model} {A : Around} {E : Value → Shared → Prop} {env : Env}
variable {nm q : Str} {C N : Addr} {bs bm : List Value} {hdct : Bool} {sn : List Str} {sub : List Value} {ab : Bool} {col : Option Bool} {dd : Option Addr} {k0 k1 k2 k3 k5 : Option Value} {newId : String}
theorem raise_obj {s : Shared} {x : Sem Value} {Q : Flow → Shared → Prop} (hb : bm.contains (.type "BaseException") = true) (hh : A.handled = none)
    (h : wpAny M A x (fun v s1 => ∃ e od vs sl, v = .ref e ∧ s1.heap.get? C = some (excClassObj nm q C N bs bm hdct sn sub ab col dd k0 k1 k2 k3 k5 newId) ∧ s1.heap.get? e = some ⟨.ref C, od, .fields vs, sl⟩ ∧ vs[1]? = some .none ∧ E (.ref e) s1) E s) :
    wpAny M A (raiseStmt env (some x) none) Q E s := by
  have hc : (Value.ref C :: bm).contains (.type "BaseException") = true := by rw [List.contains_cons, hb, Bool.or_true]
  unfold raiseStmt
  refine wpAny_bind (wpAny_mono h (fun v s1 h1 => ?_) fun _ _ z => z)
  obtain ⟨e, od, vs, sl, e1, hC, he, hv, hE⟩ := h1
  subst e1
  obtain ⟨hp, g, d, tk, os⟩ := s1
  repeat (first | with_reducible refine wpAny_loadPart_at he ?_ | with_reducible refine wpAny_loadPart_at hC ?_ | (with_reducible refine wpAny_isSubtype_exc hC ?_; rw [hc]) | wp_step)
  rw [hv]
  refine wpAny_pure ?_
  rw [if_neg (by decide)]
  exact wpAny_pure (wpAny_raiseNew_none hh hE)
end
section
variable {prog : Program} {w : World} {A : Around} {E : Value → Shared → Prop} {h : Heap} {g : Array GenState} {d : Drawn} {t : Nat} {os : OsState}
variable {nm q : Str} {C N : Addr} {bs bm bmB : List Value} {hdct : Bool} {sn : List Str} {sub : List Value} {ab : Bool} {col : Option Bool} {dd : Option Addr} {k0 k1 k2 k3 k5 : Option Value} {B newId initId : String}
theorem type_call_I (F : ExcBaseFacts B newId initId bmB) (T : OwnTail h bmB bm) {mN : Str → Option Value} {rest : List Value} {fI : Addr} {oI : Obj} {Q : Fin → Shared → Prop}
    (hC : h.get? C = some (excClassObj nm q C N bs bm hdct sn sub ab col dd k0 k1 k2 k3 k5 newId)) (hn : h.Ns N mN) (hi : mN "__init__" = some (.ref fI)) (hf : h.get? fI = some oI) (hc : oI.cls = .type "function") (hl : rest.length ≤ sizeLine)
    (hq : ∀ h' e, Heap.MadeExcOf h h' e (.ref C) rest → wpAny (model prog w) A (call (.ref fI) (.ref e :: rest)) (fun r s' => r = .none ∧ Q (.done (.ret (.ref e))) s') E ⟨h', g, d, t, os⟩) :
    wpAny (model prog w) A (Builtin.«type.__call__» ⟨.ref C :: rest, []⟩) Q E ⟨h, g, d, t, os⟩ := by
  repeat (first | with_reducible refine wpAny_loadPart_at hC ?_ | with_reducible refine wpAny_madeBy_exc hC ?_ | wp_step)
  refine codeAny_call_builtin_code (Code.quiet_builtin _ F.quiet) (wpAny_check_new_subT F T hC (codeAny_exc_new_subT F T hC ?_ hl))
  show wpAny _ _ _ _ _ _
  have up : ∀ b o, h.get? b = some o → ((h.push ⟨.type "tuple", none, .seq rest.toArray 0, #[]⟩).push ⟨.ref C, none, .fields #[.ref h.objs.size, .none, .none, .none, .bool false, .none], #[]⟩).get? b = some o := fun b o z => Heap.get?_push_of_some _ (Heap.get?_push_of_some _ z)
  have hC1 := up _ _ hC
  have hf1 := up _ _ hf
  have T1 := T.keeps up
  have hn1 : ((h.push ⟨.type "tuple", none, .seq rest.toArray 0, #[]⟩).push ⟨.ref C, none, .fields #[.ref h.objs.size, .none, .none, .none, .bool false, .none], #[]⟩).Ns N mN := let ⟨o, es, ep, z, r⟩ := hn; ⟨o, es, ep, up _ _ z, r⟩
  have at1 : ((h.push ⟨.type "tuple", none, .seq rest.toArray 0, #[]⟩).push ⟨.ref C, none, .fields #[.ref h.objs.size, .none, .none, .none, .bool false, .none], #[]⟩).get? (h.objs.size + 1) = some ⟨.ref C, none, .fields #[.ref h.objs.size, .none, .none, .none, .bool false, .none], #[]⟩ := by heap_get
  have self : (Value.ref C :: bm).contains (.ref C) = true := by simp
  unfold isInstance
  repeat (first | with_reducible refine wpAny_loadPart_at at1 ?_ | (with_reducible refine wpAny_isSubtype_exc hC1 ?_; rw [self]) | wp_step)
  show wpAny _ _ (typeLookup (.ref C) _) _ _ _
  refine wpAny_typeLookup_tail hC1 hn1 T1 F.mroIs F.init.lookup ?_
  rw [hi]
  refine wpAny_holding (wpAny_bind ?_)
  unfold bindSpecial
  refine wpAny_bind (wpAny_typeOf (T := "function") ⟨_, hf1, hc⟩ ?_)
  rw [if_pos (by decide)]
  have tt : h.get? h.objs.size = none := Heap.get?_none_of_le (Nat.le_refl _)
  refine wpAny_pure (wpAny_bind (wpAny_mono (hq _ (h.objs.size + 1) ⟨up, Heap.get?_none_of_le (Nat.le_succ _), h.objs.size, at1, tt, Heap.get?_push_of_some _ (Heap.get?_push_at rfl rfl)⟩) (fun r s' z => ?_) fun _ _ z => z))
  obtain ⟨e1, hQ⟩ := z
  subst e1
  wp_walk
  exact hQ
theorem call_I (F : ExcBaseFacts B newId initId bmB) (T : OwnTail h bmB bm) {mN : Str → Option Value} {rest : List Value} {fI : Addr} {oI : Obj} {Q : Value → Shared → Prop}
    (hC : h.get? C = some (excClassObj nm q C N bs bm hdct sn sub ab col dd k0 k1 k2 k3 k5 newId)) (hn : h.Ns N mN) (hi : mN "__init__" = some (.ref fI)) (hf : h.get? fI = some oI) (hc : oI.cls = .type "function") (hl : rest.length ≤ sizeLine)
    (hq : ∀ h' e, Heap.MadeExcOf h h' e (.ref C) rest → wpAny (model prog w) (A.under (.builtin "type.__call__" ⟨.ref C :: rest, []⟩)) (call (.ref fI) (.ref e :: rest)) (fun r s' => r = .none ∧ Q (.ref e) s') E ⟨h', g, d, t, os⟩) :
    wpAny (model prog w) A (call (.ref C) rest) Q E ⟨h, g, d, t, os⟩ := by
  have g1 := tc_lookup
  have g2 := tc_bind (.ref C)
  have g3 : (⟨h, g, d, t, os⟩ : Shared).TypeIs (.ref C) "type" := ⟨_, hC, rfl⟩
  refine wpAny_call (codeAny_of_tree ?_)
  show wpAny _ _ (callAny (.ref C) _) _ _ _
  repeat (any_goals (first | assumption | with_reducible refine wpAny_loadPart_at hC ?_ | wp_step))
  exact ⟨rfl, codeAny_call_builtin_at (Code.quiet_builtin _ (by decide +kernel)) entry_typeCall (wpAny_check_type_call_sub hC (type_call_I F T hC hn hi hf hc hl fun h' e m => hq h' e m))⟩
end
end L2

namespace L2
open PySem PySem.Spec PyProof.Rows
def NewX (ea : Addr) (C : Value) (od : Option Addr) : Heap → Prop := fun h => ∃ vs sl, h.get? ea = some ⟨C, od, .fields vs, sl⟩ ∧ 1 < vs.size ∧ vs[1]? = some .none
abbrev XN (ea : Addr) (C : Value) (od : Option Addr) : HO := .ext (NewX ea C od)
def del (H : Hp) (a : Addr) : Hp := fun b => if b = a then none else H b
theorem del_ne {H : Hp} {a b : Addr} (h : b ≠ a) : del H a b = H b := if_neg h
theorem del_same {H : Hp} {a : Addr} : del H a a = none := if_pos rfl
def Young (X : Cx) (pins : List (Addr × Obj)) (a : Addr) : Prop := (X.s₀.heap.get? a = none ∨ a ∈ X.ex) ∧ ∀ p ∈ X.pn ++ pins, p.1 ≠ a
section
variable {X : Cx} {pins : List (Addr × Obj)} {σ : St} {H : Hp} {s : Shared} {a : Addr}
theorem Inv.young (I : Inv X pins σ H s) (e : s.heap.get? a = none) : Young X pins a := by
  refine ⟨?_, fun p hp z => ?_⟩
  · by_cases y : a ∈ X.ex
    · exact .inr y
    · refine .inl ?_
      cases z : X.s₀.heap.get? a with
      | none => rfl
      | some ob =>
        obtain ⟨o', z'⟩ := I.base.there a ob z y
        rw [e] at z'
        cases z'
  · have y := (I.pin p hp).1
    rw [z, e] at y
    cases y
theorem Inv.trackG {o : HO} (I : Inv X pins σ H s) (n : H a = none) (y : Young X pins a) (nl : a ≠ X.env.locals) (nc : ∀ x c, X.env.cells.lookup x = some c → c ≠ a) (new : ObjOk X.prog X.w (upd H a o) s.heap a o) : Inv X pins σ (upd H a o) s := by
  have ne : ∀ b o', X.s₀.heap.get? b = some o' → b ∉ X.ex → b ≠ a := fun b o' z x q => by
    subst q
    rcases y.1 with w | w
    · rw [z] at w; cases w
    · exact x w
  have nt : ∀ b u, H b = some u → b ≠ a := fun b u z q => by rw [q, n] at z; cases z
  refine ⟨I.ok, I.os, I.bare, ⟨I.base.keep, I.base.slot, fun b o' z m x => ?_, I.base.there, fun b xs z => ?_, fun b o' u z => ?_, fun b ps z => ?_⟩, I.loc, I.cell, ?_, fun x c z => ?_, fun p hp => ?_, fun b u z => ?_, I.len⟩
  · rw [upd_ne (ne b o' z x)]
    exact I.base.free b o' z m x
  · have w := I.base.tups b xs z
    rw [upd_ne (nt _ _ w)]
    exact w
  · have w := I.base.frzs b o' u z
    rw [upd_ne (nt _ _ w)]
    exact w
  · obtain ⟨more, w⟩ := I.base.tbls b ps z
    exact ⟨more, by rw [upd_ne (nt _ _ w)]; exact w⟩
  · rw [upd_ne (Ne.symm nl)]
    exact I.free
  · rw [upd_ne (nc x c z)]
    exact I.freeC x c z
  · obtain ⟨p1, p2, p3, p4, p5⟩ := I.pin p hp
    exact ⟨p1, by rw [upd_ne (y.2 p hp)]; exact p2, p3, p4, p5⟩
  · by_cases q : b = a
    · subst q
      rw [upd_same] at z
      cases z
      exact new
    · rw [upd_ne q] at z
      refine (I.hok b u z).stay (fun _ _ _ g => g) (fun c g => ?_) fun c xs g => ?_
      · rw [upd_ne (nt _ _ g)]; exact g
      · rw [upd_ne (nt _ _ g)]; exact g
theorem Inv.nofields {o : Obj} {vs : Array Value} (I : Inv X pins σ H s) (e : s.heap.get? a = some o) (d : o.data = .fields vs) : a ≠ X.env.locals ∧ ∀ x c, X.env.cells.lookup x = some c → c ≠ a := by
  refine ⟨fun z => ?_, fun x c z q => ?_⟩
  · obtain ⟨m, ⟨o', es, ep, ho, hd', _⟩, _⟩ := I.loc
    rw [← z, e] at ho
    cases ho
    rw [d] at hd'
    cases hd'
  · obtain ⟨v, o', ho, hd⟩ := I.cell x c z
    rw [q, e] at ho
    cases ho
    rw [d] at hd
    cases hd
theorem Inv.drop {φ : Heap → Prop} (I : Inv X pins σ H s) (e : H a = some (.ext φ)) : Inv X pins σ (del H a) s := by
  have nd : ∀ b u, H b = some u → (∀ ψ, u ≠ .ext ψ) → del H a b = some u := fun b u z w => by
    have q : b ≠ a := fun q => by rw [q, e] at z; cases z; exact w _ rfl
    rw [del_ne q]
    exact z
  have nn : ∀ b, H b = none → del H a b = none := fun b z => by
    unfold del
    split
    · rfl
    · exact z
  refine ⟨I.ok, I.os, I.bare, ⟨I.base.keep, I.base.slot, fun b o' z m x => nn b (I.base.free b o' z m x), I.base.there, fun b xs z => nd _ _ (I.base.tups b xs z) (fun _ q => by cases q), fun b o' u z => nd _ _ (I.base.frzs b o' u z) (fun _ q => by cases q), fun b ps z => ?_⟩,
    I.loc, I.cell, nn _ I.free, fun x c z => nn _ (I.freeC x c z), fun p hp => ?_, fun b u z => ?_, I.len⟩
  · obtain ⟨more, w⟩ := I.base.tbls b ps z
    exact ⟨more, nd _ _ w (fun _ q => by cases q)⟩
  · obtain ⟨p1, p2, p3, p4, p5⟩ := I.pin p hp
    exact ⟨p1, nn _ p2, p3, p4, p5⟩
  · have z' : H b = some u := by
      unfold del at z
      split at z
      · cases z
      · exact z
    exact (I.hok b u z').stay (fun _ _ _ g => g) (fun c g => nd _ _ g (fun _ q => by cases q)) fun c xs g => nd _ _ g (fun _ q => by cases q)
end
theorem ns_some {K : PySem.W.Frag} {h : Heap} {N : Addr} {m : Str → Option Value} {n : Str} {v : Value} (X : K.In h) (G : h.Ns N m) (e : PySem.W.nsIn K N n = some (some v)) : m n = some v := by
  obtain ⟨o, es, ep, ho, hd, _, hf⟩ := G
  unfold PySem.W.nsIn at e
  split at e
  · rename_i q
    have w := X _ _ q
    rw [ho] at w
    cases w
    cases hd
    split at e
    · rename_i en he
      cases e
      rw [← hf]
      unfold nsFind findBy
      rw [← Array.find?_toList, he]
      exact rfl
    · split at e <;> cases e
  · cases e
theorem fn_at {K : PySem.W.Frag} {h : Heap} {f : Addr} (X : K.In h) (e : PySem.W.isFn K (.ref f) = true) : ∃ o, h.get? f = some o ∧ o.cls = .type "function" := by
  obtain ⟨o, ho, hc⟩ := Option.map_eq_some_iff.mp (beq_iff_eq.mp e)
  exact ⟨o, X _ _ ho, hc⟩
def xinI (K : PySem.W.Frag) (C fI : Addr) : Bool := match K.lookup C with
  | some ⟨.type "type", _, .cls cd, sl⟩ => (match cd.mro, sl.toList with
    | .ref C' :: bm, [_, _, _, _, some (.builtin n), _] => C' == C && n == "ValueError.__new__" && !cd.hasDel && PySem.W.tailIn K bmVE bm && PySem.W.nsOkIn K cd.ns && PySem.W.nsIn K cd.ns "__init__" == some (some (.ref fI)) && PySem.W.isFn K (.ref fI)
    | _, _ => false)
  | _ => false
theorem xinI_at {K : PySem.W.Frag} {C fI : Addr} (q : xinI K C fI = true) : ∃ bm N nm qn bs hd sn sub ab col dd k0 k1 k2 k3 k5, K.lookup C = some (excClassObj nm qn C N bs bm hd sn sub ab col dd k0 k1 k2 k3 k5 "ValueError.__new__") ∧
    PySem.W.tailIn K bmVE bm = true ∧ PySem.W.nsOkIn K N = true ∧ PySem.W.nsIn K N "__init__" = some (some (.ref fI)) ∧ PySem.W.isFn K (.ref fI) = true := by
  unfold xinI at q
  split at q
  · rename_i dd cd sl ho
    split at q
    · rename_i C' bm k0 k1 k2 k3 n k5 hm hs
      obtain ⟨nm, bs, mro, ns, qn, hd, sn, sub, ab, col, dl⟩ := cd
      obtain ⟨l⟩ := sl
      simp only [Bool.and_eq_true, beq_iff_eq, Bool.not_eq_true'] at q hm hs
      obtain ⟨⟨⟨⟨⟨⟨e1, e2⟩, e3⟩, e4⟩, e5⟩, e6⟩, e7⟩ := q
      subst e1 e2 e3 hm hs
      exact ⟨bm, ns, nm, qn, bs, hd, sn, sub, ab, col, dd, k0, k1, k2, k3, k5, ho, e4, e5, e6, e7⟩
    · cases q
  · cases q
section
variable {X : Cx} {k : Nat} {fI C : Addr} {fd : FuncData} {ps : List Str} {sp : Sp} {dvs : List V} {ds : List Value} {ES : St → XK} {x : Str} {np cpos pos : Pos} {e : Expr} {es : List Expr} {t : TA}
theorem run_makeI {pins : List (Addr × Obj)} {σ : St} {H : Hp} {s : Shared} {us : List Value} {vs : List V} {Q : Addr → Hp → Prop} {R : Value → Shared → Prop} (hx : xinI X.K C fI = true) (F : FnOk X.prog X.w X.K X.mg X.base (CXe X.prog X.w) k fI fd ps sp) (hr : Room (k + 1) X.A)
    (hb : Binds X.K fd ps ds) (hd : Vals dvs ds) (tk : Takes X ES) (I : Inv X pins σ H s) (r : Vals vs us) (hl : us.length ≤ sizeLine)
    (h : ∀ ea, H ea = none → sp (.ref ea :: (vs ++ dvs)) (upd H ea (XN ea (.ref C) none)) (fun v H2 => v = .non ∧ Q ea H2) (ES σ))
    (fin : ∀ ea H2 s', Inv X pins σ H2 s' → Young X pins ea → Q ea H2 → R (.ref ea) s') : wpAny (model X.prog X.w) X.A (call (.ref C) us) R X.xe s := by
  obtain ⟨bm, N, nm, qn, bs, hdc, sn, sub, ab, col, dd, k0, k1, k2, k3, k5, lk, tl, ok, ni, fn⟩ := xinI_at hx
  have kb := I.kIn
  have hN : s.heap.Ns N (s.heap.nsMap N) := .of_isNs (PySem.W.isNs_of_in kb ok)
  have hi : s.heap.nsMap N "__init__" = some (.ref fI) := ns_some kb hN ni
  obtain ⟨oI, f1, f2⟩ := fn_at kb fn
  obtain ⟨hp, g, d, tks, os⟩ := s
  refine call_I PySem.F.excBase_ValueError (PySem.W.tail_of_in kb tl) (kb _ _ lk) hN hi f1 f2 hl fun h' ea m => ?_
  have yg := I.young m.new
  have I1 : Inv X pins σ H ⟨h', g, d, tks, os⟩ := I.kept (t' := tks) m.keeps
  obtain ⟨tt, m1, _, _⟩ := m.there
  have nf := I1.nofields m1 rfl
  have hn := I.hok.free m.new
  have I2 : Inv X pins σ (upd H ea (XN ea (.ref C) none)) ⟨h', g, d, tks, os⟩ := I1.trackG hn yg nf.1 nf.2 ⟨⟨_, _, m1, by simp, rfl⟩, ⟨_, m1⟩, fun h1 h2 ⟨a, b, z1, z2⟩ kk => ⟨a, b, kk _ z1, z2⟩⟩
  have r2 : Vals (V.ref ea :: (vs ++ dvs)) (Value.ref ea :: (us ++ ds)) := .cons rfl (r.append hd)
  have hlen : (Value.ref ea :: us ++ ds).length = ps.length := by
    have e' := r2.length
    rw [F.len _ _ _ _ (h ea hn)] at e'
    exact e'.symm
  refine wpAny_call (codeAny_mono (F.run _ X.stack _ _ ⟨Value.ref ea :: us, []⟩ (Value.ref ea :: (us ++ ds)) _ _ (ES σ) (hr.make C us []) (I2.env0.make C us []) (hb _ (Value.ref ea :: us) I2.kIn hlen) r2 (h ea hn)) fun r s' hq => ?_)
  cases r with
  | error e => exact tk.passes pins σ _ _ e s' I2 hq
  | ok fl =>
    cases fl with
    | ret u =>
      obtain ⟨v, H', I3, rv, ev, q3⟩ := I2.after hq
      subst ev
      exact ⟨rv, fin ea H' s' I3 yg q3⟩
    | next => exact False.elim hq
    | brk => exact False.elim hq
    | cont => exact False.elim hq
def tMakeI (C : Addr) (sp : Sp) (dvs : List V) (ES : St → XK) (t : TA) : TE := fun σ H Q => t σ H fun vs H1 => vs.length ≤ sizeLine ∧ ∀ ea, H1 ea = none → sp (.ref ea :: (vs ++ dvs)) (upd H1 ea (XN ea (.ref C) none)) (fun v H2 => v = .non ∧ Q (.ref ea) H2) (ES σ)
theorem pe_makeI (tk : Takes X ES) (hx : xinI X.K C fI = true) (F : FnOk X.prog X.w X.K X.mg X.base (CXe X.prog X.w) k fI fd ps sp) (hr : Room (k + 1) X.A) (hg : Gl X x) (hm : X.mg x = some (.ref C)) (hk : PySem.W.keepIn X.K (.ref C) = true) (hb : Binds X.K fd ps ds) (hd : Vals dvs ds)
    (ha : PA X (e :: es) t) (hdb : (x == ("__debug__" : Str)) = false := by decide) (he : starEach (e :: es) X.env = (false, eval e X.env) :: starEach es X.env := by rfl) (hpl : (backTo cpos (starEach es X.env)).any (·.1) = false := by rfl) :
    PE X (.Call (.Name x np) (e :: es) [] cpos) (tMakeI C sp dvs ES t) := by
  intro pins s σ H Q I h
  refine wpAny_Call_Name_kw (ld_glob I hg hm ?_ hdb)
  refine PySem.W.callWith_K (h₀ := X.base) I.ok.mod.kin hk (thn (ha cpos pins s σ H _ I h) fun us s1 ⟨vs, H1, I1, r, hz, q⟩ => ⟨I1.kIn, ?_⟩) he hpl
  exact run_makeI (Q := fun ea H2 => Q (.ref ea) H2) hx F hr hb hd tk I1 r (by show us.length ≤ sizeLine; rw [← r.length]; exact hz) q fun ea H2 s' I' _ q' => ⟨.ref ea, H2, I', rfl, q'⟩
def tRaiseI (C : Addr) (sp : Sp) (dvs : List V) (ES : St → XK) (t : TA) : TS := fun _ σ H => t σ H fun vs H1 => vs.length ≤ sizeLine ∧
  ∀ ea, H1 ea = none → sp (.ref ea :: (vs ++ dvs)) (upd H1 ea (XN ea (.ref C) none)) (fun v H2 => v = .non ∧ ∃ od, H2 ea = some (XN ea (.ref C) od) ∧ ES σ (.ref C) od (del H2 ea)) (ES σ)
theorem ps_raiseI (tk : Takes X ES) (hc : X.calm = true) (hx : xinI X.K C fI = true) (F : FnOk X.prog X.w X.K X.mg X.base (CXe X.prog X.w) k fI fd ps sp) (hr : Room (k + 1) X.A) (hg : Gl X x) (hm : X.mg x = some (.ref C)) (hk : PySem.W.keepIn X.K (.ref C) = true) (hb : Binds X.K fd ps ds) (hd : Vals dvs ds)
    (ha : PA X (e :: es) t) (hdb : (x == ("__debug__" : Str)) = false := by decide) (he : starEach (e :: es) X.env = (false, eval e X.env) :: starEach es X.env := by rfl) (hpl : (backTo cpos (starEach es X.env)).any (·.1) = false := by rfl) :
    PS X (.Raise (some (.Call (.Name x np) (e :: es) [] cpos)) none pos) (tRaiseI C sp dvs ES t) := by
  intro pins s σ H D I hq
  obtain ⟨bm, N, nm, qn, bs, hdc, sn, sub, ab, col, dd, k0, k1, k2, k3, k5, lk, tl, ok, ni, fn⟩ := xinI_at hx
  rw [arm_exec_Raise]
  refine wpAny_bind (wpAny_standAt (raise_obj (C := C) (nm := nm) (q := qn) (N := N) (bs := bs) (bm := bm) (hdct := hdc) (sn := sn) (sub := sub) (ab := ab) (col := col) (dd := dd) (k0 := k0) (k1 := k1) (k2 := k2) (k3 := k3) (k5 := k5) (newId := "ValueError.__new__")
    ((PySem.W.tail_of_in I.mod.kin tl).hasType (by decide)) (I.ok.hd hc) ?_))
  refine wpAny_bind (wpAny_Call_Name_kw (ld_glob I hg hm ?_ hdb))
  refine PySem.W.callWith_K (h₀ := X.base) I.ok.mod.kin hk (thn (ha cpos pins s σ H _ I hq) fun us s1 ⟨vs, H1, I1, r, hz, q⟩ => ⟨I1.kIn, ?_⟩) he hpl
  refine run_makeI (Q := fun ea H2 => ∃ od, H2 ea = some (XN ea (.ref C) od) ∧ ES σ (.ref C) od (del H2 ea)) hx F hr hb hd tk I1 r (by show us.length ≤ sizeLine; rw [← r.length]; exact hz) q fun ea H2 s' I' yg q' => ?_
  obtain ⟨od, hX, hE⟩ := q'
  obtain ⟨ws, sl, z1, z2, z3⟩ := (I'.hok ea _ hX).1
  refine wpAny_bind (wpAny_standAt (wpAny_pure ⟨ea, od, ws, sl, rfl, I'.kIn _ _ lk, z1, z3, ?_⟩))
  refine tk pins σ (del H2 ea) s' ea none (.ref C) od (I'.drop hX) ⟨ws, ⟨_, z1, rfl, rfl, rfl, z2⟩, z3⟩ (fun b hb => ?_) hE
  rw [List.mem_singleton.mp hb]
  exact ⟨yg.1, del_same, yg.2⟩
end
end L2

namespace L2
open PySem PySem.Spec PyProof.Rows
def onlyVE : List Value → Bool
  | .ref _ :: r => onlyVE r
  | l => l == bmVE
theorem refuse_ve (self : Value) : ∀ {l : List Value}, onlyVE l = true → refuseLoop self "__setattr__" l = pure ()
  | .ref c :: r, e => by rw [refuseLoop_ref]; exact refuse_ve self (l := r) e
  | [], e => by cases e
  | .type n :: r, e => by
    have z : (Value.type n :: r) = bmVE := beq_iff_eq.mp e
    rw [z]
    exact PySem.F.store_ValueError.passes self
  | .none :: r, e => by cases (beq_iff_eq.mp (show (Value.none :: r == bmVE) = true from e))
  | .bool b :: r, e => by cases (beq_iff_eq.mp (show (Value.bool b :: r == bmVE) = true from e))
  | .int b t :: r, e => by cases (beq_iff_eq.mp (show (Value.int b t :: r == bmVE) = true from e))
  | .float b t :: r, e => by cases (beq_iff_eq.mp (show (Value.float b t :: r == bmVE) = true from e))
  | .str b t :: r, e => by cases (beq_iff_eq.mp (show (Value.str b t :: r == bmVE) = true from e))
  | .bytes b t :: r, e => by cases (beq_iff_eq.mp (show (Value.bytes b t :: r == bmVE) = true from e))
  | .builtin b :: r, e => by cases (beq_iff_eq.mp (show (Value.builtin b :: r == bmVE) = true from e))
  | .ellipsis :: r, e => by cases (beq_iff_eq.mp (show (Value.ellipsis :: r == bmVE) = true from e))
  | .notImplemented :: r, e => by cases (beq_iff_eq.mp (show (Value.notImplemented :: r == bmVE) = true from e))
theorem has_ve : ∀ {l : List Value}, onlyVE l = true → l.contains (.type "object") = true
  | .ref c :: r, e => by rw [List.contains_cons, has_ve (l := r) e, Bool.or_true]
  | [], e => by cases e
  | .type n :: r, e => by
    have z : (Value.type n :: r) = bmVE := beq_iff_eq.mp e
    rw [z]
    decide
  | .none :: r, e => by cases (beq_iff_eq.mp (show (Value.none :: r == bmVE) = true from e))
  | .bool b :: r, e => by cases (beq_iff_eq.mp (show (Value.bool b :: r == bmVE) = true from e))
  | .int b t :: r, e => by cases (beq_iff_eq.mp (show (Value.int b t :: r == bmVE) = true from e))
  | .float b t :: r, e => by cases (beq_iff_eq.mp (show (Value.float b t :: r == bmVE) = true from e))
  | .str b t :: r, e => by cases (beq_iff_eq.mp (show (Value.str b t :: r == bmVE) = true from e))
  | .bytes b t :: r, e => by cases (beq_iff_eq.mp (show (Value.bytes b t :: r == bmVE) = true from e))
  | .builtin b :: r, e => by cases (beq_iff_eq.mp (show (Value.builtin b :: r == bmVE) = true from e))
  | .ellipsis :: r, e => by cases (beq_iff_eq.mp (show (Value.ellipsis :: r == bmVE) = true from e))
  | .notImplemented :: r, e => by cases (beq_iff_eq.mp (show (Value.notImplemented :: r == bmVE) = true from e))
def veIn (K : PySem.W.Frag) (C : Addr) : Bool := (PySem.W.clsIn K C).any (fun cd => onlyVE cd.mro)
structure XAt (K : PySem.W.Frag) (C : Addr) : Prop where
  hd : PySem.W.hasDictIn K C = true
  sa : PySem.W.findIn K (.ref C) "__setattr__" = some (some (.builtin "object.__setattr__"))
  mro : veIn K C = true
structure XRd (K : PySem.W.Frag) (C : Addr) : Prop where
  ga : PySem.W.findIn K (.ref C) "__getattribute__" = some (some (.builtin "BaseException.__getattribute__"))
  gn : PySem.W.findIn K (.ref C) "__getattr__" = some none
  mb : PySem.W.mroIn K C (.type "BaseException") = some true
  hd : PySem.W.hasDictIn K C = true
  cls : PySem.W.findIn K (.ref C) "__class__" = some (some (.builtin "object.__class__"))
  cget : PySem.W.specialIn K (.builtin "object.__class__") "__get__" = some (some (.builtin "getset_descriptor.__get__"))
  ctk : PySem.W.takesIn K (.builtin "object.__class__") = some true
  mo : PySem.W.mroIn K C (.type "object") = some true
def XAny (H : Hp) (ea : Addr) (C : Value) (od : Option Addr) : Prop := H ea = some (XO ea C od) ∨ H ea = some (XN ea C od)
section
variable {X : Cx} {pins : List (Addr × Obj)} {σ : St} {H : Hp} {s : Shared} {ea C : Addr} {od : Option Addr}
theorem XAny.at {C : Value} (x : XAny H ea C od) (I : Inv X pins σ H s) : ∃ o vs, s.heap.get? ea = some o ∧ o.cls = C ∧ o.dict = od ∧ o.data = .fields vs := by
  rcases x with e | e
  · exact (I.hok ea _ e).1
  · obtain ⟨vs, sl, z, _⟩ := (I.hok ea _ e).1
    exact ⟨_, vs, z, rfl, rfl, rfl⟩
theorem getx_by {A : Around} {E : Value → Shared → Prop} {K : PySem.W.Frag} {prog : Program} {w : World} {s : Shared} {x : Addr} {ox : Obj} {od : Option Obj} {name : Str} {tk : Tok} {fill b : Bool} {Q : Value → Shared → Prop} (X : K.In s.heap) (J : PySem.W.InstAt s.heap x ox C od) (c : XRd K C)
    (h : ∀ A', wpAny (model prog w) A' (Builtin.«object.__getattribute__» ⟨[.ref x, .str name tk], []⟩) (fun fin s' => ∃ v, fin = .done (.ret v) ∧ PySem.W.handedIn v = true ∧ Q v s') (fun _ _ => False) s) : wpAny (model prog w) A (getAttrBy (.ref x) (.str name tk) fill b) Q E s := by
  obtain ⟨hh, g, d, t, os⟩ := s
  have L0 := J.type (M := model prog w)
  have L1 := PySem.W.looks_findIn (M := model prog w) X c.ga
  have L2 := PySem.W.looks_findIn (M := model prog w) X c.gn
  have SF := PySem.F.excAttr_ValueError.ga
  unfold getAttrBy
  refine wpAny_holding (wpAny_bind (L0.at (wpAny_bind (L1.at ?_))))
  show wpAny _ _ (getAttrByItsOwn (.ref x) (.str name tk) (.ref C) (.builtin "BaseException.__getattribute__") fill b) _ _ _
  unfold getAttrByItsOwn
  refine wpAny_bind ?_
  show wpAny _ _ (typeLookup (.ref C) "__getattr__") _ _ _
  refine L2.at ?_
  refine wpAny_bind (wpAny_attempt (wpAny_holding ?_))
  have e1 : callGetattribute (.ref x) (.str name tk) (.builtin "BaseException.__getattribute__") b = boundAndCalled (.builtin "BaseException.__getattribute__") (.ref x) (.str name tk) := by
    unfold callGetattribute
    rw [if_neg (by cases b <;> exact Bool.noConfusion)]
  rw [e1]
  unfold boundAndCalled
  rw [SF.bind (.ref x)]
  refine wpAny_bind (wpAny_pure ?_)
  refine wpAny_call (codeAny_call_builtin SF.plain PySem.F.entry_bexc_ga ?_)
  have su : PySem.W.Looks (model prog w) hh (isInstance (.ref x) (.type "BaseException")) true := J.type.andThen (PySem.W.looks_mroIn X c.mb)
  have hk : builtinKind "BaseException.__getattribute__" = some .slot := by decide +kernel
  have hs : splitId "BaseException.__getattribute__" = some ("BaseException", "__getattribute__") := by decide +kernel
  refine @PySem.W.check_slot (model prog w) _ _ ⟨hh, g, d, t, os⟩ "BaseException.__getattribute__" "BaseException" "__getattribute__" (.ref x) [.str name tk] [] _ hk hs su (PySem.F.args_bexc_ga (.ref x) (.str name tk)) ?_
  refine wpAny_mono (h _) (fun fin s' z => ?_) (fun _ _ z => z.elim)
  obtain ⟨v, rfl, z1, z2⟩ := z
  exact PySem.W.handed_on z1 z2
theorem getx_ok {A : Around} {E : Value → Shared → Prop} {b : Bool} {dx : Addr} {fs : List (Str × V)} {f : Str} {v : V} {Q : Value → Shared → Prop} (I : Inv X pins σ H s) (x : XAny H ea (.ref C) (some dx)) (d : H dx = some (.xd fs)) (l : fs.lookup f = some v) (c : XRd X.K C) (n : NoAttr X.K C f)
    (q : ∀ u s', Inv X pins σ H s' → RelV v u → Q u s') : wpAny (model X.prog X.w) A (getAttr (.ref ea) f b) Q E s := by
  obtain ⟨o, vs, e1, e2, e3, e4⟩ := x.at I
  obtain ⟨mA, n1, rl⟩ := I.hok dx _ d
  obtain ⟨oD, g1, g2⟩ := lookIn_ns n1
  have r := rl f
  rw [l] at r
  obtain ⟨u, eu, ru⟩ := r.some_of
  have J : PySem.W.InstAt s.heap ea o C (some oD) := ⟨e1, e2, by rw [PySem.W.notCls, e4], by rw [e3]; exact g1⟩
  unfold getAttr
  refine wpAny_bind (wpAny_mkText (getx_by (s := { s with toks := s.toks + 1 }) I.kIn J c fun A' => ?_))
  have hf : PySem.W.findObj X.K C (some oD) f = some (.value u) := PySem.W.findObj_own c.hd n rfl (by rw [g2, eu])
  have L0 := J.type (M := model X.prog X.w)
  have L1 := PySem.W.looks_find (M := model X.prog X.w) I.kIn J hf
  obtain ⟨hh, g, d', t, os⟩ := s
  refine wpAny_bind (wpAny_pure (wpAny_bind (wpAny_pure (wpAny_bind (L0.at (wpAny_bind (L1.at ?_)))))))
  exact wpAny_pure ⟨u, rfl, handed_of ru, q u _ (I.tok _) ru⟩
theorem osx_open {prog : Program} {w : World} {A : Around} {R : Result → Shared → Prop} {K : PySem.W.Frag} {s : Shared} {x : Addr} {ox : Obj} {od : Option Obj} {name : Str} {tk : Tok} {v : Value} (X : K.In s.heap) (J : PySem.W.InstAt s.heap x ox C od)
    (hp : (PySem.W.clsIn K C).any (fun cd => onlyVE cd.mro) = true) (hn : NoAttr K C name)
    (h : wpAny (model prog w) A.in1 (Builtin.ObjectAttr.storeInOwnDict (.ref x) (.ref C) (.str name tk) name v false)
      (fun fin s' => match fin with | .done f => R (.ok f) s' | .again c' => c'.quiet = true ∧ codeAny (model prog w) A c' R s') (fun e s' => R (.error e) s') s) :
    codeAny (model prog w) A (.call (.builtin "object.__setattr__") ⟨[.ref x, .str name tk, v], []⟩) R s := by
  have SF := PySem.F.store_object
  obtain ⟨cd, hc, ho⟩ := PySem.W.any_some hp
  have ne : cd.mro.isEmpty = false := by
    cases q : cd.mro with
    | nil => rw [q] at ho; cases ho
    | cons _ _ => rfl
  have su : PySem.W.Looks (model prog w) s.heap (isInstance (.ref x) (.type "object")) true :=
    J.type.andThen (PySem.W.looks_mroIn X (by unfold PySem.W.mroIn; rw [hc, Option.bind_some, if_neg (by rw [ne]; decide), has_ve ho]))
  have hm : PySem.W.Looks (model prog w) s.heap (mroOf (.ref C)) cd.mro := (PySem.W.looks_clsIn X hc).andThen .now
  refine codeAny_call_builtin SF.slot.plain SF.entry (@PySem.W.check_slot (model prog w) _ _ s "object.__setattr__" "object" "__setattr__" (.ref x) [.str name tk, v] [] _ SF.kind SF.split su (SF.args (.ref x) (.str name tk) v) ?_)
  rw [PySem.W.osa_eq, refuse_eq]
  refine wpAny_bind (wpAny_bind (J.type.here (wpAny_bind (hm.here ?_))))
  rw [refuse_ve _ ho]
  refine wpAny_pure (wpAny_bind (J.type.here (wpAny_bind ((PySem.W.looks_findIn X hn).here (wpAny_bind (wpAny_pure ?_))))))
  exact h
theorem setx_ok {A : Around} {E : Value → Shared → Prop} {f : Str} {y : V} {u : Value} {Q : Unit → Shared → Prop} (I : Inv X pins σ H s) (x : H ea = some (XN ea (.ref C) none)) (c : XAt X.K C) (n : NoAttr X.K C f) (ry : RelV y u)
    (q : ∀ dx s', H dx = none → dx ≠ ea → Inv X pins σ (upd (upd H ea (XN ea (.ref C) (some dx))) dx (.xd [(f, y)])) s' → Q () s') : wpAny (model X.prog X.w) A (setAttr (.ref ea) f u) Q E s := by
  obtain ⟨vs, sl, e1, e2, e3⟩ := (I.hok ea _ x).1
  have J : PySem.W.InstAt s.heap ea ⟨.ref C, none, .fields vs, sl⟩ C none := ⟨e1, rfl, rfl, True.intro⟩
  refine PySem.W.set_plain I.kIn J c.sa (osx_open (s := { s with toks := s.toks + 1 }) I.kIn J c.mro n ?_)
  obtain ⟨cd, hc, hd⟩ := PySem.W.any_some c.hd
  refine wpAny_bind (wpAny_pure (wpAny_bind (wpAny_bind (wpAny_loadPart e1 (wpAny_bind (PySem.W.Looks.here (s := { s with toks := s.toks + 1 }) (PySem.W.looks_clsIn I.kIn hc) ?_))))))
  rw [hd]
  rw [if_neg (by decide)]
  dsimp only
  rw [if_neg (by simp [typeHasDict])]
  have hlt : ea < s.heap.objs.size := Heap.lt_size e1
  have a1 : (s.heap.push { cls := .type "dict", data := .dict #[] }).get? ea = some ⟨.ref C, none, .fields vs, sl⟩ := Heap.get?_push_of_some _ e1
  refine wpAny_bind (wpAny_alloc' (wpAny_bind (wpAny_update' a1 (wpAny_pure ?_))))
  have a2 : ((s.heap.push { cls := .type "dict", data := .dict #[] }).update ea fun o => { cls := o.cls, dict := some s.heap.objs.size, data := o.data, slots := o.slots }).get? s.heap.objs.size = some { cls := .type "dict", data := .dict #[] } :=
    (Heap.get?_update_ne _ _ _ _ (Nat.ne_of_gt hlt)).trans (Heap.get?_push_at rfl rfl)
  have a3 : ((s.heap.push { cls := .type "dict", data := .dict #[] }).update ea fun o => { cls := o.cls, dict := some s.heap.objs.size, data := o.data, slots := o.slots }).get? ea = some ⟨.ref C, some s.heap.objs.size, .fields vs, sl⟩ :=
    Heap.get?_update_self _ a1 rfl
  have em : ((s.heap.push { cls := .type "dict", data := .dict #[] }).update ea fun o => { cls := o.cls, dict := some s.heap.objs.size, data := o.data, slots := o.slots }).Ns s.heap.objs.size (fun _ => none) := ⟨_, #[], _, a2, rfl, fun e he => absurd he (by simp), fun _ => rfl⟩
  show wpAny _ _ (Builtin.ObjectAttr.storeInDict s.heap.objs.size (.str f s.toks) f u) _ _ _
  unfold Builtin.ObjectAttr.storeInDict Builtin.ObjectAttr.newKeyGuard
  refine wpAny_bind (wpAny_pure (wpAny_bind (wpAny_nsSet1 (Heap.Ns1.of_empty em) fun h' hn' hs => ?_)))
  obtain ⟨oD, esD, epD, z1, z2, z3⟩ := hn'.count (Within.cons f u Within.nil)
  refine wpAny_bind (wpAny_lookBehind z1 (by rw [z2]; exact pastItsLine_dict (Nat.le_trans z3 (by rw [List.length_cons, List.length_nil, sizeLine_eq]; omega))) ?_)
  refine wpAny_pure ?_
  have fr := I.fresh
  have ne : s.heap.objs.size ≠ ea := Nat.ne_of_gt hlt
  have k : ∀ b o, b ≠ ea → s.heap.get? b = some o → h'.get? b = some o := fun b o w z =>
    (hs.2 b (Nat.ne_of_lt (Heap.lt_size z))).trans ((Heap.get?_update_ne _ _ _ _ w).trans (Heap.get?_push_of_some _ z))
  have b3 : h'.get? ea = some ⟨.ref C, some s.heap.objs.size, .fields vs, sl⟩ := (hs.2 ea (Ne.symm ne)).trans a3
  have I1 := I.write (t' := s.toks + 1 + 1) (x := ea) (e := ea) (o := XN ea (.ref C) (some s.heap.objs.size)) (h' := h') (by rw [x]; exact True.intro) (.inl rfl) k ⟨_, b3⟩
    ⟨⟨vs, sl, b3, e2, e3⟩, ⟨_, b3⟩, fun h1 h2 ⟨a, b, w1, w2⟩ kk => ⟨a, b, kk _ w1, w2⟩⟩
  have yg := I.young (a := s.heap.objs.size) (Heap.get?_none_of_le (Nat.le_refl _))
  have I2 := I1.trackG (a := s.heap.objs.size) (o := .xd [(f, y)]) (by rw [upd_ne ne]; exact fr) yg (Nat.ne_of_gt I.lt) (fun x' c' w q' => by
    obtain ⟨v, o', ho, _⟩ := I.cell x' c' w
    exact absurd (Heap.lt_size ho) (by rw [q']; exact Nat.lt_irrefl _)) ⟨_, hn', fun g => ?_⟩
  · exact q s.heap.objs.size _ fr ne I2
  · show RelO (List.lookup g [(f, y)]) (if g = f then some u else none)
    by_cases w : g = f
    · subst w
      rw [if_pos rfl, List.lookup_cons, beq_self_eq_true]
      exact ry
    · rw [if_neg w, List.lookup_cons, beq_false_of_ne w]
      exact True.intro
end
end L2

namespace L2
open PySem PySem.Spec PyProof.Rows
def tFldX (K : PySem.W.Frag) (ta : TE) (f : Str) : TE := fun σ H Q => ta σ H fun x H1 => ∃ ea C dx fs v, x = .ref ea ∧ XAny H1 ea (.ref C) (some dx) ∧ H1 dx = some (.xd fs) ∧ XRd K C ∧ NoAttr K C f ∧ fs.lookup f = some v ∧ Q v H1
def sFldX (K : PySem.W.Frag) (ta tv : TE) (f : Str) : TS := fun D σ H => tv σ H fun y H1 => ta σ H1 fun x H2 => ∃ ea C, x = .ref ea ∧ H2 ea = some (XN ea (.ref C) none) ∧ XAt K C ∧ NoAttr K C f ∧
  ∀ dx, H2 dx = none → dx ≠ ea → D.nx σ (upd (upd H2 ea (XN ea (.ref C) (some dx))) dx (.xd [(f, y)]))
section
variable {X : Cx} {o e value : Expr} {f : Str} {pos pos' apos p : Pos} {ta tv : TE}
theorem pe_fldX (he : PE X e ta) (hb : attributeBase e f X.env (eval e X.env) = eval e X.env) : PE X (.Attribute e f pos) (tFldX X.K ta f) := by
  intro pins s σ H Q I h
  refine attr_of hb (thn (he pins s σ H _ I h) fun u s1 ⟨x, H1, I1, rx, ea, C, dx, fs, v, ex, hx, hd, c, n, l, q⟩ => ?_)
  subst ex
  obtain rfl : u = Value.ref ea := rx
  exact getx_ok I1 hx hd l c n fun w s2 I2 rw' => ⟨v, H1, I2, rw', q⟩
theorem ps_fldX (ha : PE X o ta) (hv : PE X value tv) (hs : swapsWith value (some (.Attribute o f pos')) pos.line X.env = pure false) : PS X (.Assign [.Attribute o f pos'] value pos) (sFldX X.K ta tv f) := by
  intro pins s σ H D I h
  refine plainObj_wpAny_Assign_Attribute (thn (hv pins s σ H _ I h) fun u s1 ⟨y, H1, I1, ry, h1⟩ => thn (ha pins s1 σ H1 _ I1 h1) fun ov s2 ⟨x, H2, I2, rx, ea, C, ex, hx, c, n, q⟩ => ?_) hs
  subst ex
  obtain rfl : ov = Value.ref ea := rx
  exact setx_ok I2 hx c n ry fun dx s3 g1 g2 I3 => ⟨σ, _, I3, q dx g1 g2⟩
end
def clsV : V → Option Value
  | .ref a => some (.ref a)
  | .ty n => some (.type n)
  | _ => none
theorem clsV_rel {c : V} {cv u : Value} (h : clsV c = some cv) (r : RelV c u) : u = cv := by
  cases c <;> first | (cases h; exact r) | cases h
def KndT (K : PySem.W.Frag) (H : Hp) (x : V) (t : Value) : Prop := TyOf K H x t ∨ ∃ ea C od, x = .ref ea ∧ t = .ref C ∧ XAny H ea (.ref C) od ∧ XRd K C ∧ (od = none ∨ ∃ dx fs, od = some dx ∧ H dx = some (.xd fs))
theorem kitx_x {K : PySem.W.Frag} {x D : Addr} {ox : Obj} {od : Option Obj} (c : XRd K D) : PySem.W.KitX K (.ref x) (.ref D) (fun h => PySem.W.InstAt h x ox D od) where
  ty := fun _ _ _ I => I.type
  it := fun _ _ X _ => by
    obtain ⟨cd, hc, _⟩ := PySem.W.any_some c.hd
    unfold PySem.W.clsIn at hc
    split at hc
    · rename_i ho
      intro A' Q' E' s' k q
      unfold isType loadHead
      exact wpAny_bind (wpAny_loadPart (k _ _ (X _ _ ho)) (wpAny_pure q))
    · cases hc
  ne := fun h tp dd its n sl X htp => by
    obtain ⟨cd, hc, _⟩ := PySem.W.any_some c.hd
    refine Bool.eq_false_iff.mpr fun q => ?_
    have e : D = tp := Value.ref.inj (beq_iff_eq.mp q)
    subst e
    unfold PySem.W.clsIn at hc
    split at hc
    · rename_i ho
      have z := (X _ _ ho).symm.trans htp
      cases z
    · cases hc
  ca := fun {prog w _ _ _ s} X I k => by
    have hf : PySem.W.findObj K D od "__class__" = some (.bind (.builtin "getset_descriptor.__get__") (.builtin "object.__class__")) := by
      obtain ⟨cd, hc, _⟩ := PySem.W.any_some c.hd
      unfold PySem.W.findObj
      rw [hc, Option.bind_some, c.cls, Option.bind_some]
      dsimp only
      rw [c.cget, Option.bind_some]
      dsimp only
      rw [c.ctk, Option.bind_some]
    unfold getAttr? getAttrBy?
    refine wpAny_bind (wpAny_mkText (wpAny_bind (wpAny_attempt (getx_by (s := { s with toks := s.toks + 1 }) X I c fun A' => ?_))))
    have L0 := I.type (M := model prog w)
    have L1 := PySem.W.looks_find (M := model prog w) X I hf
    obtain ⟨hh, gg, d, t, os⟩ := s
    refine wpAny_bind (wpAny_pure (wpAny_bind (wpAny_pure (wpAny_bind (L0.at (wpAny_bind (L1.at ?_)))))))
    show wpAny _ _ (holding [.builtin "object.__class__"] (call (.builtin "getset_descriptor.__get__") [.builtin "object.__class__", .ref x, .ref D]) >>= ret) _ _ _
    exact wpAny_bind (wpAny_holding (wpAny_call (PySem.W.class_get (s := ⟨hh, gg, d, t + 1, os⟩) (ox := ox) (od := od) X I c.mo (wpAny_pure ⟨_, rfl, rfl, wpAny_pure k⟩))))
theorem call_isinstC {X : Cx} : CallR X (.builtin "isinstance") (fun xs H Q => ∃ x c cv t b, xs = [x, c] ∧ clsV c = some cv ∧ KndT X.K H x t ∧ PySem.W.kitOne X.K t cv = some b ∧ Q (.bl b) H) := by
  intro pins s σ H xs us Q I r h
  obtain ⟨x, c, cv, t, b, rfl, hc, ty, e, q⟩ := h
  obtain ⟨u, w', rfl, ru, rw'⟩ := vals2 r
  cases clsV_rel hc rw'
  rcases ty with ty | ⟨ea, C, od, rfl, rfl, hx, ca, hd⟩
  · exact isinst_ok I ru ty e fun tk => ⟨.bl b, H, I.tok tk, rfl, q⟩
  · obtain rfl : u = Value.ref ea := ru
    obtain ⟨o, vs, e1, e2, e3, e4⟩ := hx.at I
    have hno : PySem.W.notCls o = true := by rw [PySem.W.notCls, e4]
    have J : ∃ oD, PySem.W.InstAt s.heap ea o C oD := by
      rcases hd with rfl | ⟨dx, fs, rfl, hdx⟩
      · exact ⟨none, e1, e2, hno, by rw [e3]; exact True.intro⟩
      · obtain ⟨mA, n1, rl⟩ := I.hok dx _ hdx
        obtain ⟨oD, g1, g2⟩ := lookIn_ns n1
        exact ⟨some oD, e1, e2, hno, by rw [e3]; exact g1⟩
    obtain ⟨oD, J⟩ := J
    exact PySem.W.kia_one (kitx_x ca) I.kIn J e (fun z => nomatch z) fun tk => ⟨.bl b, H, I.tok tk, rfl, q⟩
abbrev TJ := St → Hp → Str → VK → Prop
def PJ (X : Cx) (es : List Expr) (t : TJ) : Prop := ∀ (pins : List (Addr × Obj)) (s : Shared) (σ : St) (H : Hp) (out : Str) (Q : VK), Inv X pins σ H s → t σ H out Q → wpAny (model X.prog X.w) X.A (joinParts out (evalEach es X.env)) (EP X pins σ Q) X.xe s
def jNil : TJ := fun _ H out Q => out.length ≤ sizeLine ∧ Q (.str out) H
def jStr (te : TE) (t : TJ) : TJ := fun σ H out Q => te σ H fun x H1 => ∃ y, x = .str y ∧ (out ++ y).length ≤ sizeLine ∧ t σ H1 (out ++ y) Q
def jInt (te : TE) (t : TJ) : TJ := fun σ H out Q => te σ H fun x H1 => ∃ i, x = .int i ∧ i.natAbs.log2 < 1920 ∧ (out ++ Str.ofString (toString i)).length ≤ sizeLine ∧ t σ H1 (out ++ Str.ofString (toString i)) Q
section
variable {X : Cx} {e : Expr} {es : List Expr} {te : TE} {t : TJ} {pos : Pos}
theorem pj_nil : PJ X [] jNil := fun pins s σ H out Q I ⟨h, q⟩ => joinParts_nil ⟨.str out, H, I.tok _, ⟨_, rfl⟩, q⟩ h
theorem pj_str (he : PE X e te) (hr : PJ X es t) : PJ X (e :: es) (jStr te t) := by
  intro pins s σ H out Q I h
  refine joinParts_cons (thn (he pins s σ H _ I h) fun u s1 ⟨x, H1, I1, r, y, ex, hz, q⟩ => ?_)
  subst ex
  obtain ⟨tk, rfl⟩ := r
  exact ⟨hz, hr pins s1 σ H1 _ Q I1 q⟩
theorem pj_int (he : PE X e te) (hr : PJ X es t) : PJ X (.FormattedValue e (-1) none pos :: es) (jInt te t) := by
  intro pins s σ H out Q I h
  refine joinParts_cons (FormattedValue_plain (thn (he pins s σ H _ I h) fun u s1 ⟨x, H1, I1, r, i, ex, hl, hz, q⟩ => ?_))
  subst ex
  obtain ⟨tk, rfl⟩ := r
  exact formatField_int_small hl ⟨hz, hr pins _ σ H1 _ Q (I1.tok _) q⟩
def tFs (t : TJ) : TE := fun σ H Q => t σ H Str.empty Q
theorem pe_fs {e2 : Expr} {rest : List Expr} (h : PJ X (e :: e2 :: rest) t) : PE X (.JoinedStr (e :: e2 :: rest) pos) (tFs t) := fun pins s σ H Q I hq => JoinedStr_many (h pins s σ H Str.empty Q I hq)
end
structure BIni (K : PySem.W.Frag) (W : Addr) : Prop where
  rd : PySem.W.readsIn K W (.type "type") = true
  fd : PySem.W.findCls K (.ref W) (.type "type") "__init__" = some (.val (.builtin "ValueError.__init__"))
  ga : PySem.W.specialIn K (.ref W) "__getattribute__" = some (some (.builtin "type.__getattribute__"))
def tBIni (K : PySem.W.Frag) (t : TA) : TE := fun σ H Q => t σ H fun vs H1 => ∃ ea C od y fI, vs = [.ref ea, .str y] ∧ H1 ea = some (XN ea (.ref C) od) ∧ xinI K C fI = true ∧ Q .non H1
section
variable {X : Cx} {x : Str} {p pos apos : Pos} {e : Expr} {es : List Expr} {t : TA} {W : Addr}
theorem binit_run {pins : List (Addr × Obj)} {σ : St} {H : Hp} {s : Shared} {ea C fI : Addr} {od : Option Addr} {y : Str} {tk : Tok} {Q : VK} (I : Inv X pins σ H s) (hx : H ea = some (XN ea (.ref C) od)) (hc : xinI X.K C fI = true) (q : Q .non H) :
    wpAny (model X.prog X.w) X.A (call (.builtin "ValueError.__init__") [.ref ea, .str y tk]) (EP X pins σ Q) X.xe s := by
  obtain ⟨bm, N, nm, qn, bs, hdc, sn, sub, ab, col, dd, k0, k1, k2, k3, k5, lk, tl, ok, ni, fn⟩ := xinI_at hc
  obtain ⟨vs, sl, e1, e2, e3⟩ := (I.hok ea _ hx).1
  have kb := I.kIn
  have F := PySem.F.excBase_ValueError
  have mk : ∀ h' tk', (∀ b o, b ≠ ea → s.heap.get? b = some o → h'.get? b = some o) → (∃ ws, h'.get? ea = some ⟨.ref C, od, .fields ws, sl⟩ ∧ 1 < ws.size ∧ ws[1]? = some .none) → Inv X pins σ H { s with heap := h', toks := tk' } := fun h' tk' k ⟨ws, w1, w2, w3⟩ => by
    have J := I.write (t' := tk') (x := ea) (e := ea) (o := XN ea (.ref C) od) (h' := h') (by rw [hx]; exact True.intro) (.inl rfl) k ⟨_, w1⟩ ⟨⟨ws, sl, w1, w2, w3⟩, ⟨_, w1⟩, fun h1 h2 ⟨a, b, z1, z2⟩ kk => ⟨a, b, kk _ z1, z2⟩⟩
    have e : upd H ea (XN ea (.ref C) od) = H := by
      funext b
      by_cases w : b = ea
      · subst w; rw [upd_same, hx]
      · rw [upd_ne w]
    rw [e] at J
    exact J
  obtain ⟨hp, g, d, tks, os⟩ := s
  refine wpAny_call (codeAny_call_builtin F.init.plain F.initEntry (wpAny_check_init_subT F (PySem.W.tail_of_in kb tl) (kb _ _ lk) e1 rfl ?_))
  wp_walk
  obtain ⟨x0, h0⟩ : ∃ x0, vs[0]? = some x0 := ⟨vs[0]'(by omega), Array.getElem?_eq_getElem (by omega)⟩
  rw [h0]
  refine wpAny_pure ?_
  have e1' := Heap.get?_push_of_some { cls := Value.type "tuple", data := Data.seq #[Value.str y tk] } e1
  refine wpAny_bind (wpAny_setField e1' rfl (by omega) ?_)
  have fin : ∀ A' : Around, wpAny (model X.prog X.w) A' (match x0 with | Value.ref a_1 => letGo [x0] | x => pure ()) (fun _ s' => s' = _) (fun _ _ => False) { heap := Heap.update (Heap.push hp { cls := Value.type "tuple", data := Data.seq #[Value.str y tk] }) ea (Obj.mapFields fun x => x.setIfInBounds 0 (Value.ref hp.objs.size)), gens := g, drawn := d, toks := tks, os := os } := fun A' => by
    cases x0 <;> first | exact wpAny_letGo rfl | exact wpAny_pure rfl
  refine wpAny_mono (fin _) (fun _ s' es => ?_) fun _ _ z => z.elim
  subst es
  refine wpAny_pure ⟨.non, H, mk _ tks (fun b o w z => ?_) ⟨vs.setIfInBounds 0 (Value.ref hp.objs.size), ?_, by simpa using e2, ?_⟩, rfl, q⟩
  · exact (Heap.get?_update_ne _ _ _ _ w).trans (Heap.get?_push_of_some _ z)
  · exact Heap.get?_update_self _ e1' rfl
  · rw [Array.getElem?_setIfInBounds_ne (by decide)]
    exact e3
theorem pe_binit (b : BIni X.K W) (hg : Gl X x) (hm : X.mg x = some (.ref W)) (ha : PA X (e :: es) t) (hdb : (x == ("__debug__" : Str)) = false := by decide)
    (he : starEach (e :: es) X.env = (false, eval e X.env) :: starEach es X.env := by rfl) (hpl : (backTo pos (starEach es X.env)).any (·.1) = false := by rfl) {pl : Sem Bool}
    (ht : eval (.Call (.Attribute (.Name x p) "__init__" apos) (e :: es) [] pos) X.env = (do
      let ov ← eval (.Name x p) X.env
      standAt apos.atName
      let (f, first) ← holding [ov] (getMethod ov "__init__" pl)
      callWith pos f first (backTo pos (starEach (e :: es) X.env)) (backToKw pos (keywordEach [] X.env))) := by rfl) :
    PE X (.Call (.Attribute (.Name x p) "__init__" apos) (e :: es) [] pos) (tBIni X.K t) := by
  intro pins s σ H Q I h
  refine PySem.W.methodCall_KW (pl := pl) (ld_glob I hg hm ?_ hdb) ht
  refine PySem.W.method_cls I.kIn b.ga (PySem.W.cls_value I.kIn b.rd b.fd rfl ?_)
  refine PyProof.Rows.callWith_builtin1 (thn (ha pos pins _ σ H _ (I.tok _) h) fun us s1 ⟨vs, H1, I1, r, ea, C, od, y, fI, e1, hx, hc, q⟩ => ?_) he hpl
  subst e1
  obtain ⟨u, w', rfl, ru, rw'⟩ := vals2 r
  obtain rfl : u = Value.ref ea := ru
  obtain ⟨tk, rfl⟩ := rw'
  exact binit_run I1 hx hc q
end
end L2

namespace L2
open PySem
structure Keep (F : List Addr) (H H' : Hp) : Prop where
  k : ∀ b o, b ∉ F → H b = some o → H' b = some o
  tp : ∀ b xs, H b = some (.tup xs) → H' b = some (.tup xs)
theorem Keep.refl {F : List Addr} {H : Hp} : Keep F H H := ⟨fun _ _ _ e => e, fun _ _ e => e⟩
theorem Keep.trans {F : List Addr} {H H1 H2 : Hp} (a : Keep F H H1) (b : Keep F H1 H2) : Keep F H H2 := ⟨fun x o n e => b.k x o n (a.k x o n e), fun x xs e => b.tp x xs (a.tp x xs e)⟩
theorem Keep.mono {F F' : List Addr} {H H' : Hp} (a : Keep F H H') (s : ∀ b ∈ F, b ∈ F') : Keep F' H H' := ⟨fun x o n e => a.k x o (fun m => n (s x m)) e, a.tp⟩
theorem Keep.upd {F : List Addr} {H : Hp} {p : Addr} {o u : HO} (h : H p = some u) (nt : ∀ xs, u ≠ .tup xs) (m : p ∈ F) : Keep F H (upd H p o) := by
  refine ⟨fun b x n e => ?_, fun b xs e => ?_⟩
  · rw [upd_ne (fun (z : b = p) => n (z ▸ m))]; exact e
  · rw [upd_ne (ne_of e h (fun z => nt xs z.symm))]; exact e
theorem Keep.new {F : List Addr} {H : Hp} {p : Addr} {o : HO} (h : H p = none) : Keep F H (L2.upd H p o) := by
  refine ⟨fun b x n e => ?_, fun b xs e => ?_⟩
  · rw [upd_ne (ne_of_none e h)]; exact e
  · rw [upd_ne (ne_of_none e h)]; exact e
theorem Keep.same {F : List Addr} {H H' : Hp} (s : Same H H') : Keep F H H' := ⟨fun b o _ e => s b o e, fun b xs e => s b _ e⟩
theorem Keep.none {F : List Addr} {H H' : Hp} (a : Keep F H H') {b : Addr} (n : b ∉ F) (e : H' b = Option.none) : H b = Option.none := by
  cases q : H b with
  | none => rfl
  | some o => rw [a.k b o n q] at e; cases e
structure CM where
  bl : Int
  pg : Int
  mo : Int
  lim : List (Key × V)
  bo : List V
  cl : List Int
  dc : List Int
  br : List Bool
  lf : Option Int
  rc : List (Str × Int × Bool)
structure CA where
  dx : Addr
  li : Addr
  bo : Addr
  cl : Addr
  dc : Addr
  br : Addr
  rc : Addr
def lfV : Option Int → V
  | .none => .non
  | .some i => .int i
def chF (a : CA) (m : CM) : List (Str × V) := [("blocks", .int m.bl), ("pages", .int m.pg), ("most", .int m.mo), ("limits", .ref a.li), ("borne", .ref a.bo), ("clearings", .ref a.cl), ("deed_counts", .ref a.dc), ("broken", .ref a.br), ("deeds_left", lfV m.lf), ("record", .ref a.rc)]
def trip (H : Hp) (v : V) (d : Str × Int × Bool) : Prop := ∃ p, v = .ref p ∧ H p = some (.tup [.str d.1, .int d.2.1, .bl d.2.2])
abbrev Recd (H : Hp) : List V → List (Str × Int × Bool) → Prop := Paired (trip H)
theorem Recd.keep {F : List Addr} {H H' : Hp} (k : Keep F H H') {rs : List V} {ds : List (Str × Int × Bool)} (r : Recd H rs ds) : Recd H' rs ds := Paired.mapP r fun v d ⟨p, e, h⟩ => ⟨p, e, k.tp _ _ h⟩
theorem _root_.PySem.Paired.len {α β : Type} {F : α → β → Prop} : ∀ {l₁ : List α} {l₂ : List β}, Paired F l₁ l₂ → l₁.length = l₂.length
  | _, _, .nil => rfl
  | _, _, .cons _ t => congrArg (· + 1) t.len
theorem Paired.snoc {α β : Type} {F : α → β → Prop} : ∀ {l₁ : List α} {l₂ : List β} {a : α} {b : β}, Paired F l₁ l₂ → F a b → Paired F (l₁ ++ [a]) (l₂ ++ [b])
  | _, _, _, _, .nil, h => .cons h .nil
  | _, _, _, _, .cons r t, h => .cons r (Paired.snoc t h)
def foot (c : Addr) (a : CA) : List Addr := [c, a.bo, a.cl, a.dc, a.br, a.rc]
structure ChipAt (C : Addr) (H : Hp) (c : Addr) (a : CA) (m : CM) : Prop where
  ins : H c = some (.ins C a.dx (chF a m))
  li : H a.li = some (.dK m.lim)
  bo : H a.bo = some (.lst m.bo)
  cl : H a.cl = some (.lst (m.cl.map V.int))
  dc : H a.dc = some (.lst (m.dc.map V.int))
  br : H a.br = some (.lst (m.br.map V.bl))
  rc : ∃ rs, H a.rc = some (.lst rs) ∧ Recd H rs m.rc
  nd : [a.bo, a.cl, a.dc, a.br, a.rc].Nodup
structure CM.Ok (m : CM) : Prop where
  bl1 : 2 ≤ m.bl
  bl2 : m.bl ≤ 16
  pg1 : 1 ≤ m.pg
  pg2 : m.pg ≤ 16
  nbo : (m.bo.length : Int) = m.bl * m.pg
  ncl : (m.cl.length : Int) = m.bl
  ndc : (m.dc.length : Int) = m.bl
  nbr : (m.br.length : Int) = m.bl
  lim : ∀ b v, valV m.lim (Sum.inl b) = some v → ∃ n, v = .int n
  nrc : m.rc.length ≤ 1000000
section
variable {C c : Addr} {a : CA} {m : CM} {H H' : Hp}
theorem ChipAt.ne (h : ChipAt C H c a m) : c ≠ a.bo ∧ c ≠ a.cl ∧ c ≠ a.dc ∧ c ≠ a.br ∧ c ≠ a.rc := by
  obtain ⟨rs, e, _⟩ := h.rc
  exact ⟨ne_of h.ins h.bo (by intro z; cases z), ne_of h.ins h.cl (by intro z; cases z), ne_of h.ins h.dc (by intro z; cases z), ne_of h.ins h.br (by intro z; cases z), ne_of h.ins e (by intro z; cases z)⟩
theorem ChipAt.nel (h : ChipAt C H c a m) : a.li ≠ c ∧ a.li ≠ a.bo ∧ a.li ≠ a.cl ∧ a.li ≠ a.dc ∧ a.li ≠ a.br ∧ a.li ≠ a.rc := by
  obtain ⟨rs, e, _⟩ := h.rc
  exact ⟨ne_of h.li h.ins (by intro z; cases z), ne_of h.li h.bo (by intro z; cases z), ne_of h.li h.cl (by intro z; cases z), ne_of h.li h.dc (by intro z; cases z), ne_of h.li h.br (by intro z; cases z), ne_of h.li e (by intro z; cases z)⟩
theorem ChipAt.dst (h : ChipAt C H c a m) : (a.bo ≠ a.cl ∧ a.bo ≠ a.dc ∧ a.bo ≠ a.br ∧ a.bo ≠ a.rc) ∧ (a.cl ≠ a.dc ∧ a.cl ≠ a.br ∧ a.cl ≠ a.rc) ∧ (a.dc ≠ a.br ∧ a.dc ≠ a.rc) ∧ a.br ≠ a.rc := by
  have := h.nd
  simp only [List.nodup_cons, List.mem_cons, List.not_mem_nil, not_or, or_false] at this
  obtain ⟨⟨a1, a2, a3, a4⟩, ⟨b1, b2, b3⟩, ⟨c1, c2⟩, d1, _⟩ := this
  exact ⟨⟨a1, a2, a3, a4⟩, ⟨b1, b2, b3⟩, ⟨c1, c2⟩, d1⟩
theorem ChipAt.keep {F : List Addr} (h : ChipAt C H c a m) (k : Keep F H H') (n : ∀ b ∈ a.li :: foot c a, b ∉ F) : ChipAt C H' c a m := by
  obtain ⟨rs, e, r⟩ := h.rc
  exact ⟨k.k _ _ (n _ (by simp [foot])) h.ins, k.k _ _ (n _ (by simp)) h.li, k.k _ _ (n _ (by simp [foot])) h.bo, k.k _ _ (n _ (by simp [foot])) h.cl, k.k _ _ (n _ (by simp [foot])) h.dc, k.k _ _ (n _ (by simp [foot])) h.br,
    ⟨rs, k.k _ _ (n _ (by simp [foot])) e, r.keep k⟩, h.nd⟩
theorem ChipAt.same (h : ChipAt C H c a m) (s : Same H H') : ChipAt C H' c a m := h.keep (F := []) (Keep.same s) (by simp)
theorem ChipAt.setLf (h : ChipAt C H c a m) (v : Option Int) : ChipAt C (upd H c (.ins C a.dx (chF a { m with lf := v }))) c a { m with lf := v } := by
  obtain ⟨n1, n2, n3, n4, n5⟩ := h.ne
  obtain ⟨l1, _⟩ := h.nel
  obtain ⟨rs, e, r⟩ := h.rc
  have k : Keep [c] H (upd H c (.ins C a.dx (chF a { m with lf := v }))) := Keep.upd h.ins (fun _ z => by cases z) (by simp)
  exact ⟨upd_same, by rw [upd_ne l1]; exact h.li, by rw [upd_ne n1.symm]; exact h.bo, by rw [upd_ne n2.symm]; exact h.cl, by rw [upd_ne n3.symm]; exact h.dc, by rw [upd_ne n4.symm]; exact h.br, ⟨rs, by rw [upd_ne n5.symm]; exact e, r.keep k⟩, h.nd⟩
theorem ChipAt.setBo (h : ChipAt C H c a m) (v : List V) : ChipAt C (upd H a.bo (.lst v)) c a { m with bo := v } := by
  obtain ⟨n1, n2, n3, n4, n5⟩ := h.ne
  obtain ⟨l0, l1, l2, l3, l4, l5⟩ := h.nel
  obtain ⟨⟨a1, a2, a3, a4⟩, ⟨b1, b2, b3⟩, ⟨c1, c2⟩, d1⟩ := h.dst
  obtain ⟨rs, e, r⟩ := h.rc
  have k : Keep [a.bo] H (upd H a.bo (.lst v)) := Keep.upd h.bo (fun _ z => by cases z) (by simp)
  exact ⟨by rw [upd_ne n1]; exact h.ins, by rw [upd_ne l1]; exact h.li, upd_same, by rw [upd_ne a1.symm]; exact h.cl, by rw [upd_ne a2.symm]; exact h.dc, by rw [upd_ne a3.symm]; exact h.br, ⟨rs, by rw [upd_ne a4.symm]; exact e, r.keep k⟩, h.nd⟩
theorem ChipAt.setCl (h : ChipAt C H c a m) (v : List Int) : ChipAt C (upd H a.cl (.lst (v.map V.int))) c a { m with cl := v } := by
  obtain ⟨n1, n2, n3, n4, n5⟩ := h.ne
  obtain ⟨l0, l1, l2, l3, l4, l5⟩ := h.nel
  obtain ⟨⟨a1, a2, a3, a4⟩, ⟨b1, b2, b3⟩, ⟨c1, c2⟩, d1⟩ := h.dst
  obtain ⟨rs, e, r⟩ := h.rc
  have k : Keep [a.cl] H (upd H a.cl (.lst (v.map V.int))) := Keep.upd h.cl (fun _ z => by cases z) (by simp)
  exact ⟨by rw [upd_ne n2]; exact h.ins, by rw [upd_ne l2]; exact h.li, by rw [upd_ne a1]; exact h.bo, upd_same, by rw [upd_ne b1.symm]; exact h.dc, by rw [upd_ne b2.symm]; exact h.br, ⟨rs, by rw [upd_ne b3.symm]; exact e, r.keep k⟩, h.nd⟩
theorem ChipAt.setDc (h : ChipAt C H c a m) (v : List Int) : ChipAt C (upd H a.dc (.lst (v.map V.int))) c a { m with dc := v } := by
  obtain ⟨n1, n2, n3, n4, n5⟩ := h.ne
  obtain ⟨l0, l1, l2, l3, l4, l5⟩ := h.nel
  obtain ⟨⟨a1, a2, a3, a4⟩, ⟨b1, b2, b3⟩, ⟨c1, c2⟩, d1⟩ := h.dst
  obtain ⟨rs, e, r⟩ := h.rc
  have k : Keep [a.dc] H (upd H a.dc (.lst (v.map V.int))) := Keep.upd h.dc (fun _ z => by cases z) (by simp)
  exact ⟨by rw [upd_ne n3]; exact h.ins, by rw [upd_ne l3]; exact h.li, by rw [upd_ne a2]; exact h.bo, by rw [upd_ne b1]; exact h.cl, upd_same, by rw [upd_ne c1.symm]; exact h.br, ⟨rs, by rw [upd_ne c2.symm]; exact e, r.keep k⟩, h.nd⟩
theorem ChipAt.setBr (h : ChipAt C H c a m) (v : List Bool) : ChipAt C (upd H a.br (.lst (v.map V.bl))) c a { m with br := v } := by
  obtain ⟨n1, n2, n3, n4, n5⟩ := h.ne
  obtain ⟨l0, l1, l2, l3, l4, l5⟩ := h.nel
  obtain ⟨⟨a1, a2, a3, a4⟩, ⟨b1, b2, b3⟩, ⟨c1, c2⟩, d1⟩ := h.dst
  obtain ⟨rs, e, r⟩ := h.rc
  have k : Keep [a.br] H (upd H a.br (.lst (v.map V.bl))) := Keep.upd h.br (fun _ z => by cases z) (by simp)
  exact ⟨by rw [upd_ne n4]; exact h.ins, by rw [upd_ne l4]; exact h.li, by rw [upd_ne a3]; exact h.bo, by rw [upd_ne b2]; exact h.cl, by rw [upd_ne c1]; exact h.dc, upd_same, ⟨rs, by rw [upd_ne d1.symm]; exact e, r.keep k⟩, h.nd⟩
theorem ChipAt.addRc {p : Addr} {rs : List V} {d : Str × Int × Bool} (h : ChipAt C H c a m) (e : H a.rc = some (.lst rs)) (hp : H p = some (.tup [.str d.1, .int d.2.1, .bl d.2.2])) : ChipAt C (upd H a.rc (.lst (rs ++ [.ref p]))) c a { m with rc := m.rc ++ [d] } := by
  obtain ⟨n1, n2, n3, n4, n5⟩ := h.ne
  obtain ⟨l0, l1, l2, l3, l4, l5⟩ := h.nel
  obtain ⟨⟨a1, a2, a3, a4⟩, ⟨b1, b2, b3⟩, ⟨c1, c2⟩, d1⟩ := h.dst
  obtain ⟨rs', e', r⟩ := h.rc
  rw [e] at e'
  cases e'
  have k : Keep [a.rc] H (upd H a.rc (.lst (rs ++ [.ref p]))) := Keep.upd e (fun _ z => by cases z) (by simp)
  exact ⟨by rw [upd_ne n5]; exact h.ins, by rw [upd_ne l5]; exact h.li, by rw [upd_ne a4]; exact h.bo, by rw [upd_ne b3]; exact h.cl, by rw [upd_ne c2]; exact h.dc, by rw [upd_ne d1]; exact h.br, ⟨_, upd_same, Paired.snoc (r.keep k) ⟨p, rfl, k.tp _ _ hp⟩⟩, h.nd⟩
end
def CM.spent (m : CM) (b : Int) : Bool := match valV m.lim (Sum.inl b) with
  | some (.int n) => decide (n ≤ m.dc.getD b.toNat 0)
  | _ => false
def CM.deed (m : CM) (w : Str) (pl b : Int) (f : Bool) : CM := { m with lf := m.lf.map (· - 1), dc := m.dc.set b.toNat (m.dc.getD b.toNat 0 + 1), rc := m.rc ++ [(w, pl, !f)], br := if f then m.br.set b.toNat true else m.br }
inductive Out where
  | done | noPlace | dark
  | failed (b : Int)
  | written (p : Int)
def CM.put (m : CM) (x st : V) : CM × Out := match x with
  | .int p => if 0 ≤ p ∧ p ≤ m.bl * m.pg - 1 then
      (if m.lf = some 0 then (m, .dark) else if m.br.getD (p / m.pg).toNat false then (m, .failed (p / m.pg)) else if m.bo.getD p.toNat .non ≠ .non then (m, .written p) else
        (if m.spent (p / m.pg) then (m.deed "put" p (p / m.pg) true, .failed (p / m.pg)) else ({ m.deed "put" p (p / m.pg) false with bo := m.bo.set p.toNat st }, .done))) else (m, .noPlace)
  | _ => (m, .noPlace)
def clr (xs : List V) (i n : Nat) : List V := match n with
  | 0 => xs
  | n + 1 => (clr xs i n).set (i + n) .non
def CM.wipe (m : CM) (x : V) : CM × Out := match x with
  | .int b => if 0 ≤ b ∧ b ≤ m.bl - 1 then
      (if m.lf = some 0 then (m, .dark) else if m.br.getD b.toNat false then (m, .failed b) else
        (if m.spent b || decide (m.mo ≤ m.cl.getD b.toNat 0) then (m.deed "wipe" b b true, .failed b) else
          ({ m.deed "wipe" b b false with bo := clr m.bo (b * m.pg).toNat m.pg.toNat, cl := m.cl.set b.toNat (m.cl.getD b.toNat 0 + 1) }, .done))) else (m, .noPlace)
  | _ => (m, .noPlace)
def CM.new (bl pg mo : Int) (lim : List (Key × V)) : CM := ⟨bl, pg, mo, lim, List.replicate (bl * pg).toNat .non, List.replicate bl.toNat 0, List.replicate bl.toNat 0, List.replicate bl.toNat false, none, []⟩
theorem inB_int {x : V} {lo hi : Int} (h : inB x lo hi = true) : ∃ p, x = .int p ∧ lo ≤ p ∧ p ≤ hi := by
  cases x with
  | int p =>
    have h : (decide (lo ≤ p) && decide (p ≤ hi)) = true := h
    rw [Bool.and_eq_true] at h
    exact ⟨p, rfl, of_decide_eq_true h.1, of_decide_eq_true h.2⟩
  | _ => cases h
theorem inB_no {p lo hi : Int} (h : ¬ inB (.int p) lo hi = true) : ¬ (lo ≤ p ∧ p ≤ hi) := fun z => h (by show (decide (lo ≤ p) && decide (p ≤ hi)) = true; rw [decide_eq_true z.1, decide_eq_true z.2]; rfl)
theorem put_no {m : CM} {x st : V} (h : ¬ inB x 0 (m.bl * m.pg - 1) = true) : m.put x st = (m, .noPlace) := by
  cases x with
  | int p => exact if_neg (inB_no h)
  | _ => rfl
theorem wipe_no {m : CM} {x : V} (h : ¬ inB x 0 (m.bl - 1) = true) : m.wipe x = (m, .noPlace) := by
  cases x with
  | int p => exact if_neg (inB_no h)
  | _ => rfl
theorem blk_in {m : CM} {p : Int} (ok : m.Ok) (p0 : 0 ≤ p) (p1 : p ≤ m.bl * m.pg - 1) : 0 ≤ p / m.pg ∧ p / m.pg < m.bl := by
  have := ok.pg1
  exact ⟨Int.ediv_nonneg p0 (by omega), Int.ediv_lt_of_lt_mul (by omega) (by omega)⟩
theorem lf0 {m : CM} : decide (lfV m.lf = V.int 0) = decide (m.lf = some 0) := by
  cases e : m.lf with
  | none => rfl
  | some i =>
    show decide (V.int i = V.int 0) = _
    by_cases z : i = 0
    · subst z; rfl
    · rw [decide_eq_false (fun q => z (by injection q)), decide_eq_false (fun q => z (by injection q))]
theorem lf_scal {m : CM} : scal (lfV m.lf) (.int 0) = true := by
  cases m.lf <;> rfl
theorem getB {m : CM} {b : Int} (h0 : 0 ≤ b) (h : b < (m.br.length : Int)) : atI (m.br.map V.bl) b = some (.bl (m.br.getD b.toNat false)) := by
  obtain ⟨j, rfl⟩ := Int.eq_ofNat_of_zero_le h0
  refine atI_nat ?_
  have hj : j < m.br.length := by omega
  simp [hj]
theorem getI {xs : List Int} {b : Int} (h0 : 0 ≤ b) (h : b < (xs.length : Int)) : atI (xs.map V.int) b = some (.int (xs.getD b.toNat 0)) := by
  obtain ⟨j, rfl⟩ := Int.eq_ofNat_of_zero_le h0
  refine atI_nat ?_
  have hj : j < xs.length := by omega
  simp [hj]
theorem getV {xs : List V} {b : Int} (h0 : 0 ≤ b) (h : b < (xs.length : Int)) : atI xs b = some (xs.getD b.toNat .non) := by
  obtain ⟨j, rfl⟩ := Int.eq_ofNat_of_zero_le h0
  refine atI_nat ?_
  have hj : j < xs.length := by omega
  simp [hj]
theorem ixOk {n : Nat} {b : Int} (h0 : 0 ≤ b) (h : b < (n : Int)) : ixN n b = some b.toNat := by
  unfold ixN
  rw [if_pos h0, if_pos h]
theorem raise_bf {C : Addr} {H : Hp} {f : Str} {b : Int} {E : XK} {ea : Addr} (hea : H ea = none) (q : ∀ dx H', Same H H' → H' dx = some (.xd [(f, .int b)]) → E (.ref C) (some dx) H') (dx : Addr) (h1 : (upd H ea (XN ea (.ref C) none)) dx = none) (h2 : dx ≠ ea) :
    ∃ od, (upd (upd (upd H ea (XN ea (.ref C) none)) ea (XN ea (.ref C) (some dx))) dx (.xd [(f, .int b)])) ea = some (XN ea (.ref C) od) ∧ E (.ref C) od (del (upd (upd (upd H ea (XN ea (.ref C) none)) ea (XN ea (.ref C) (some dx))) dx (.xd [(f, .int b)])) ea) := by
  refine ⟨some dx, by rw [upd_ne h2.symm, upd_same], q dx _ (fun b' o e => ?_) (by rw [del_ne h2, upd_same])⟩
  have n1 : b' ≠ ea := ne_of_none e hea
  have n2 : b' ≠ dx := fun z => by
    rw [upd_ne h2] at h1
    rw [z, h1] at e
    cases e
  rw [del_ne n1, upd_ne n2, upd_ne n1, upd_ne n1]
  exact e
theorem CM.Ok.deed {m : CM} (ok : m.Ok) {w : Str} {pl b : Int} {f : Bool} (h : m.rc.length < 1000000) : (m.deed w pl b f).Ok := by
  refine ⟨ok.bl1, ok.bl2, ok.pg1, ok.pg2, ok.nbo, ok.ncl, ?_, ?_, ok.lim, ?_⟩
  · show ((m.dc.set _ _).length : Int) = m.bl
    rw [List.length_set]
    exact ok.ndc
  · show (((if f then m.br.set b.toNat true else m.br)).length : Int) = m.bl
    cases f with
    | true =>
      rw [if_pos rfl, List.length_set]
      exact ok.nbr
    | false =>
      exact ok.nbr
  · show (m.rc ++ [_]).length ≤ 1000000
    rw [List.length_append, List.length_singleton]
    omega
def CM.rd (m : CM) (x : V) : V × Out := match x with
  | .int p => if 0 ≤ p ∧ p ≤ m.bl * m.pg - 1 then (if m.lf = some 0 then (.non, .dark) else (m.bo.getD p.toNat .non, .done)) else (.non, .noPlace)
  | _ => (.non, .noPlace)
theorem rd_no {m : CM} {x : V} (h : ¬ inB x 0 (m.bl * m.pg - 1) = true) : m.rd x = (.non, .noPlace) := by
  cases x with
  | int p => exact if_neg (inB_no h)
  | _ => rfl
theorem log20 {n : Int} (h : n.natAbs < 10 ^ 20) : n.natAbs.log2 < 1920 := by
  by_cases z : n.natAbs = 0
  · rw [z]
    decide
  · exact (Nat.log2_lt z).mpr (Nat.lt_of_lt_of_le h (by decide +kernel))
theorem len_fs {x y : Str} {i : Int} (hx : x.length ≤ 100) (hy : y.length ≤ 100) (h : i.natAbs < 10 ^ 20) : (Str.empty ++ x).length ≤ sizeLine ∧ (Str.empty ++ x ++ Str.ofString (toString i)).length ≤ sizeLine ∧ (Str.empty ++ x ++ Str.ofString (toString i) ++ y).length ≤ sizeLine := by
  have h1 : (Str.ofString (toString i)).length ≤ 21 := by
    have := int_text_length_le10 (a := i) (k := 20) (by decide) h
    rw [ofString_length]
    exact this
  have h0 : Str.empty.length = 0 := rfl
  rw [sizeLine_eq]
  simp only [strLen_append]
  omega
def spBF (K : PySem.W.Frag) (C fI : Addr) (f : Str) : Sp := fun vs H Q _ => ∃ ea b, vs = [.ref ea, .int b] ∧ xinI K C fI = true ∧ XAt K C ∧ NoAttr K C f ∧ b.natAbs < 10 ^ 20 ∧ H ea = some (XN ea (.ref C) none) ∧ ∀ dx, H dx = none → dx ≠ ea → Q .non (upd (upd H ea (XN ea (.ref C) (some dx))) dx (.xd [(f, .int b)]))
def spShape : Sp := fun vs H Q _ => ∃ x y, vs = [x, y] ∧ Knd H x ∧ Knd H y ∧ Q (.bl (inB x 2 16 && inB y 1 16)) H
def limM (bl : Int) : List (V × V) → List (Key × V) → Option (List (Key × V))
  | [], acc => some acc
  | (b, d) :: r, acc => match b with
    | .int i => if 0 ≤ i ∧ i ≤ bl - 1 then (if (valV acc (Sum.inl i)).isSome = true then none else if inB d 0 1000000 = true then limM bl r (putK acc (Sum.inl i) d) else none) else none
    | _ => none
def pairAt (H : Hp) (v : V) (d : V × V) : Prop := ∃ p, v = .ref p ∧ H p = some (.tup [d.1, d.2]) ∧ Knd H d.1 ∧ Knd H d.2
theorem pairAt.same {H H' : Hp} (s : Same H H') {v : V} {d : V × V} (h : pairAt H v d) : pairAt H' v d := let ⟨p, e, h1, k1, k2⟩ := h; ⟨p, e, s _ _ h1, k1.same s, k2.same s⟩
def iSeq (K : PySem.W.Frag) (tl : TE) : TI := fun σ H R => iList K tl σ H R ∨ iTup K tl σ H R
theorem pi_seq {X : Cx} {tg l : Expr} {tl : TE} (hl : PE X l tl) : PI X tg l (iSeq X.K tl) := fun pins s σ H R I h => h.elim (pi_list hl pins s σ H R I) (pi_tup hl pins s σ H R I)
theorem Paired.at {α β : Type} {F : α → β → Prop} : ∀ {l₁ : List α} {l₂ : List β} {i : Nat} {a : α}, Paired F l₁ l₂ → l₁[i]? = some a → ∃ b, l₂[i]? = some b ∧ F a b
  | _, _, 0, _, .cons r _, e => by simp at e; subst e; exact ⟨_, rfl, r⟩
  | _, _, i + 1, _, .cons _ t, e => by
    have e2 := List.getElem?_cons_succ.symm.trans e
    obtain ⟨b, h1, h2⟩ := Paired.at t e2
    exact ⟨b, List.getElem?_cons_succ.trans h1, h2⟩
  | _, _, _, _, .nil, e => by simp at e
theorem limM_drop {bl : Int} {its : List (V × V)} {i : Nat} {acc : List (Key × V)} {bd : V × V} (h : its[i]? = some bd) : limM bl (its.drop i) acc = limM bl (bd :: its.drop (i + 1)) acc := by
  rw [List.drop_eq_getElem_cons (List.getElem?_eq_some_iff.mp h).1, (List.getElem?_eq_some_iff.mp h).2]
theorem clr_len (xs : List V) (i : Nat) : ∀ n, (clr xs i n).length = xs.length
  | 0 => rfl
  | n + 1 => by
    show ((clr xs i n).set (i + n) .non).length = xs.length
    rw [List.length_set, clr_len xs i n]
theorem new_ok {bl pg mo : Int} {lim : List (Key × V)} (b1 : 2 ≤ bl) (b2 : bl ≤ 16) (p1 : 1 ≤ pg) (p2 : pg ≤ 16) (hl : ∀ b v, valV lim (Sum.inl b) = some v → ∃ n, v = V.int n) : (CM.new bl pg mo lim).Ok := by
  have h : 0 ≤ bl * pg := Int.mul_nonneg (by omega) (by omega)
  refine ⟨b1, b2, p1, p2, ?_, ?_, ?_, ?_, hl, by show 0 ≤ 1000000; decide⟩
  · show ((List.replicate (bl * pg).toNat V.non).length : Int) = bl * pg
    rw [List.length_replicate]
    omega
  · show ((List.replicate bl.toNat (0 : Int)).length : Int) = bl
    rw [List.length_replicate]
    omega
  · show ((List.replicate bl.toNat (0 : Int)).length : Int) = bl
    rw [List.length_replicate]
    omega
  · show ((List.replicate bl.toNat false).length : Int) = bl
    rw [List.length_replicate]
    omega
theorem Same.seqT {K : PySem.W.Frag} {H H' : Hp} {a : Addr} {xs : List V} (e : Same H H') (h : SqT K H a xs) : SqT K H' a xs := by
  rcases h with (h | ⟨o, h⟩) | h
  · exact .inl (.inl (e _ _ h))
  · exact .inl (.inr ⟨o, e _ _ h⟩)
  · exact .inr h
theorem limM_bad {bl : Int} {bd : V × V} {r : List (V × V)} {acc : List (Key × V)} (h : ¬ inB bd.1 0 (bl - 1) = true) : limM bl (bd :: r) acc = none := by
  obtain ⟨b, d⟩ := bd
  cases b with
  | int i => exact if_neg (inB_no h)
  | _ => rfl
theorem limM_twice {bl : Int} {i : Int} {d : V} {r : List (V × V)} {acc : List (Key × V)} (h : 0 ≤ i ∧ i ≤ bl - 1) (h2 : (valV acc (Sum.inl i)).isSome = true) : limM bl ((.int i, d) :: r) acc = none := (if_pos h).trans (if_pos h2)
theorem limM_deeds {bl : Int} {i : Int} {d : V} {r : List (V × V)} {acc : List (Key × V)} (h : 0 ≤ i ∧ i ≤ bl - 1) (h2 : ¬ (valV acc (Sum.inl i)).isSome = true) (h3 : ¬ inB d 0 1000000 = true) : limM bl ((.int i, d) :: r) acc = none := (if_pos h).trans ((if_neg h2).trans (if_neg h3))
theorem limM_next {bl : Int} {i : Int} {d : V} {r : List (V × V)} {acc : List (Key × V)} (h : 0 ≤ i ∧ i ≤ bl - 1) (h2 : ¬ (valV acc (Sum.inl i)).isSome = true) (h3 : inB d 0 1000000 = true) : limM bl ((.int i, d) :: r) acc = limM bl r (putK acc (Sum.inl i) d) := (if_pos h).trans ((if_neg h2).trans (if_pos h3))
def Up (x : Addr) (H H' : Hp) : Prop := ∀ b o, b ≠ x → H b = some o → H' b = some o
section
variable {x C dx : Addr} {fs : List (Str × V)} {H H' : Hp}
theorem Up.knd (u : Up x H H') (hx : H x = some (.ins C dx fs)) {v : V} (k : Knd H v) : Knd H' v := by
  cases k with
  | non => exact .non
  | bl b => exact .bl b
  | int i => exact .int i
  | str x => exact .str x
  | lst e => exact .lst (u _ _ (ne_of e hx (by intro z; cases z)) e)
  | tup e => exact .tup (u _ _ (ne_of e hx (by intro z; cases z)) e)
theorem Up.pair (u : Up x H H') (hx : H x = some (.ins C dx fs)) {v : V} {d : V × V} (h : pairAt H v d) : pairAt H' v d :=
  let ⟨p, e, h1, k1, k2⟩ := h; ⟨p, e, u _ _ (ne_of h1 hx (by intro z; cases z)) h1, u.knd hx k1, u.knd hx k2⟩
theorem Up.seq (u : Up x H H') (hx : H x = some (.ins C dx fs)) {K : PySem.W.Frag} {a : Addr} {xs : List V} (h : SqL K H a xs) : SqL K H' a xs := by
  rcases h with (h | ⟨o, h⟩) | h
  · exact .inl (.inl (u _ _ (ne_of h hx (by intro z; cases z)) h))
  · exact .inl (.inr ⟨o, u _ _ (ne_of h hx (by intro z; cases z)) h⟩)
  · exact .inr h
theorem Up.seqT (u : Up x H H') (hx : H x = some (.ins C dx fs)) {K : PySem.W.Frag} {a : Addr} {xs : List V} (h : SqT K H a xs) : SqT K H' a xs := by
  rcases h with (h | ⟨o, h⟩) | h
  · exact .inl (.inl (u _ _ (ne_of h hx (by intro z; cases z)) h))
  · exact .inl (.inr ⟨o, u _ _ (ne_of h hx (by intro z; cases z)) h⟩)
  · exact .inr h
theorem Up.of {o : HO} (s : Same H H') : Up x H (upd H' x o) := fun b u n e => by rw [upd_ne n]; exact s b u e
theorem Up.trans {H2 : Hp} (a : Up x H H') (b : Up x H' H2) : Up x H H2 := fun c o n e => b c o n (a c o n e)
theorem Up.free (u : Up x H H') {b : Addr} (n : b ≠ x) (e : H' b = none) : H b = none := by
  cases q : H b with
  | none => rfl
  | some o => rw [u b o n q] at e; cases e
end
def CM.made (bl pg mo : V) (its : List (V × V)) : Option CM := if inB bl 2 16 = true ∧ inB pg 1 16 = true then (if inB mo 0 1000000 = true then (match bl, pg, mo with
  | .int b, .int p, .int m => (limM b its []).map fun l => CM.new b p m l
  | _, _, _ => none) else none) else none
end L2

namespace L2
open PySem PySem.Spec PyProof.Rows
def tMid (t u : TS) : TS := fun D σ H => ∃ M : St → Hp → Prop, t { D with nx := M } σ H ∧ ∀ σ' H', M σ' H' → u D σ' H'
section
variable {X : Cx} {st : Stmt} {rest : List Stmt} {t u : TS} {e : Expr} {te : TE} {tt : TT}
theorem pss_mid (h1 : PS X st t) (h2 : PSs X rest u) : PSs X (st :: rest) (tMid t u) := by
  intro pins s σ H D I ⟨M, a, b⟩
  refine wpAny_bind (thn (h1 pins s σ H _ I a) fun f s1 z => ?_)
  cases f with
  | next => obtain ⟨σ', H', I', q⟩ := z; exact h2 pins s1 σ' H' D I' (b σ' H' q)
  | brk => exact wpAny_pure z
  | cont => exact wpAny_pure z
  | ret v => exact wpAny_pure z
end
theorem dec_ii {a b : Int} : decide (V.int a = V.int b) = decide (a = b) := by
  by_cases e : a = b
  · subst e; simp
  · rw [decide_eq_false e, decide_eq_false (fun z => e (by injection z))]
theorem made_int {bl pg mo : Int} {its : List (V × V)} (b1 : 2 ≤ bl) (b2 : bl ≤ 16) (p1 : 1 ≤ pg) (p2 : pg ≤ 16) (m1 : 0 ≤ mo) (m2 : mo ≤ 1000000) : CM.made (.int bl) (.int pg) (.int mo) its = (limM bl its []).map fun l => CM.new bl pg mo l := by
  have h1 : inB (.int bl) 2 16 = true := by show (decide (2 ≤ bl) && decide (bl ≤ 16)) = true; simp [b1, b2]
  have h2 : inB (.int pg) 1 16 = true := by show (decide (1 ≤ pg) && decide (pg ≤ 16)) = true; simp [p1, p2]
  have h3 : inB (.int mo) 0 1000000 = true := by show (decide (0 ≤ mo) && decide (mo ≤ 1000000)) = true; simp [m1, m2]
  unfold CM.made
  rw [if_pos ⟨h1, h2⟩, if_pos h3]
theorem ChipAt.some {C : Addr} {H : Hp} {c : Addr} {a : CA} {m : CM} (h : ChipAt C H c a m) {b : Addr} (hb : b ∈ a.li :: foot c a) : ∃ o, H b = some o := by
  have hb : b = a.li ∨ b = c ∨ b = a.bo ∨ b = a.cl ∨ b = a.dc ∨ b = a.br ∨ b = a.rc := by simpa [foot] using hb
  obtain ⟨rs, e, _⟩ := h.rc
  rcases hb with rfl | rfl | rfl | rfl | rfl | rfl | rfl
  · exact ⟨_, h.li⟩
  · exact ⟨_, h.ins⟩
  · exact ⟨_, h.bo⟩
  · exact ⟨_, h.cl⟩
  · exact ⟨_, h.dc⟩
  · exact ⟨_, h.br⟩
  · exact ⟨_, e⟩
theorem SqL.through {K : PySem.W.Frag} {H0 : Hp} {sa : Addr} {xs : List V} {F : List Addr} (h : SqL K H0 sa xs) (f : ∀ b ∈ F, H0 b = none) {H' : Hp} (k : Keep F H0 H') : SqL K H' sa xs := by
  rcases h with (h | ⟨o, h⟩) | h
  · exact .inl (.inl (k.k _ _ (fun z => by rw [f _ z] at h; cases h) h))
  · exact .inl (.inr ⟨o, k.k _ _ (fun z => by rw [f _ z] at h; cases h) h⟩)
  · exact .inr h
theorem mod_in (x n : Int) (h : 0 < n) : 0 ≤ x % n ∧ x % n < n := ⟨Int.emod_nonneg _ (by omega), Int.emod_lt_of_pos _ h⟩
theorem put_ok {m : CM} {p : Int} {st : V} (p0 : 0 ≤ p) (p1 : p ≤ m.bl * m.pg - 1) (hl : m.lf ≠ some 0) (hb : m.br.getD (p / m.pg).toNat false = false) (hw : m.bo.getD p.toNat .non = .non) (hs : m.spent (p / m.pg) = false) :
    m.put (.int p) st = ({ m.deed "put" p (p / m.pg) false with bo := m.bo.set p.toNat st }, .done) := by
  show (if 0 ≤ p ∧ p ≤ m.bl * m.pg - 1 then _ else _) = _
  rw [if_pos ⟨p0, p1⟩, if_neg hl, hb, if_neg (by decide), if_neg (fun z => z hw), hs, if_neg (by decide)]
theorem getD_set {α : Type} (xs : List α) (i j : Nat) (v d : α) : (xs.set i v).getD j d = if i = j ∧ i < xs.length then v else xs.getD j d := by
  rw [List.getD_eq_getElem?_getD, List.getD_eq_getElem?_getD, List.getElem?_set]
  by_cases h : i = j
  · subst h
    by_cases h2 : i < xs.length
    · simp [h2]
    · simp [h2]
  · simp [h]
end L2

namespace L2
open PySem PySem.Spec PyProof.Rows
section
variable {X : Cx} {pins : List (Addr × Obj)} {σ : St} {H : Hp} {s : Shared} {h' : Heap}
end
section
variable {X : Cx}
end
end L2
namespace L2
open PySem
end L2
namespace L2
open PySem
theorem star_tup {es rest : List Expr} {x1} {p : Pos} {env : Env} : starEach (.Tuple es x1 p :: rest) env = (false, eval (.Tuple es x1 p) env) :: starEach rest env := rfl
theorem star_lst {es rest : List Expr} {p : Pos} {env : Env} : starEach (.List es p :: rest) env = (false, eval (.List es p) env) :: starEach rest env := rfl
end L2

namespace L2
open PySem PySem.Spec PyProof.Rows
inductive Eqv (K : PySem.W.Frag) (H : Hp) : Nat → V → V → Prop where
  | flat {n : Nat} {x : V} (f : flatV x = true) : Eqv K H n x x
  | lst {n : Nat} {a b : Addr} {xs ys : List V} (ha : SqL K H a xs) (hb : SqL K H b ys) (hl : xs.length = ys.length) (hi : ∀ (i : Nat) x y, xs[i]? = some x → ys[i]? = some y → Eqv K H n x y) : Eqv K H (n + 1) (.ref a) (.ref b)
  | tup {n : Nat} {a b : Addr} {xs ys : List V} (ha : SqT K H a xs) (hb : SqT K H b ys) (hl : xs.length = ys.length) (hi : ∀ (i : Nat) x y, xs[i]? = some x → ys[i]? = some y → Eqv K H n x y) : Eqv K H (n + 1) (.ref a) (.ref b)
theorem eqV_self {x : V} (f : flatV x = true) : eqV x x = true := by
  cases x with
  | non => rfl
  | bl b => cases b <;> rfl
  | int i => show (i == i) = true; exact beq_self_eq_true i
  | str z => show (z == z) = true; exact beq_self_eq_true z
  | _ => exact absurd (show false = true from f) Bool.false_ne_true
theorem all_true {n : Nat} : (List.range n).all (fun _ => true) = true := by simp
section
variable {X : Cx} {pins : List (Addr × Obj)} {σ : St} {H : Hp} {s : Shared}
theorem Vals.atN {xs : List V} {us : List Value} (r : Vals xs us) {j : Nat} (h : j < us.length) : ∃ x, xs[j]? = some x ∧ RelV x us[j] := by
  have e : xs[j]? = some (xs[j]'(by rw [r.length]; exact h)) := List.getElem?_eq_getElem _
  obtain ⟨u, hu, ru⟩ := r.get e
  rw [List.getElem?_eq_getElem h] at hu
  cases hu
  exact ⟨_, e, ru⟩
theorem Eqv.at (I : Inv X pins σ H s) {n : Nat} {y x : V} (h : Eqv X.K H n y x) : ∀ {A : Around} {u v : Value}, RelV y u → RelV x v → A.units + n < cLine → SeqAt.EqAt A s u v true := by
  induction h with
  | flat f =>
    intro A u v ru rv _
    have e := eqAt_V (A := A) (s := s) ru rv f f
    rw [eqV_self f] at e
    exact e
  | @lst n a b xs ys ha hb hl hi ih =>
    intro A u v ru rv hu
    cases ru
    cases rv
    by_cases hab : a = b
    · subst hab
      exact SeqAt.EqAt.same _
    · obtain ⟨i1, r1, p1, _⟩ := I.list ha
      obtain ⟨i2, r2, p2, _⟩ := I.list hb
      have l1 := r1.length
      have l2 := r2.length
      refine SeqAt.EqAt.of_refs hab ?_
      have e := SeqAt.RcAt.lists (A := A) (e := fun _ => true) p1.isList p2.isList (by simp; omega) (by omega) (fun j h1 h2 => ?_)
      · rw [all_true] at e
        exact e
      · obtain ⟨x1, e1, q1⟩ := r1.atN (j := j) (by simpa using h1)
        obtain ⟨x2, e2, q2⟩ := r2.atN (j := j) (by simpa using h2)
        exact ih j x1 x2 e1 e2 (by simpa using q1) (by simpa using q2) (by show A.units + 1 + n < cLine; omega)
  | @tup n a b xs ys ha hb hl hi ih =>
    intro A u v ru rv hu
    cases ru
    cases rv
    by_cases hab : a = b
    · subst hab
      exact SeqAt.EqAt.same _
    · obtain ⟨i1, r1, p1, _⟩ := I.tuple ha
      obtain ⟨i2, r2, p2, _⟩ := I.tuple hb
      have l1 := r1.length
      have l2 := r2.length
      refine SeqAt.EqAt.of_refs hab ?_
      have e := SeqAt.RcAt.tuples (A := A) (e := fun _ => true) (show s.heap.IsTuple a i1.toArray from p1) (show s.heap.IsTuple b i2.toArray from p2) (by omega) (fun j h1 h2 => ?_)
      · rw [all_true, Bool.true_and, show (i1.toArray.size == i2.toArray.size) = true by simp; omega] at e
        exact e
      · obtain ⟨x1, e1, q1⟩ := r1.atN (j := j) (by simpa using h1)
        obtain ⟨x2, e2, q2⟩ := r2.atN (j := j) (by simpa using h2)
        exact ih j x1 x2 e1 e2 (by simpa using q1) (by simpa using q2) (by show A.units + 1 + n < cLine; omega)
theorem scal_self {x : V} (f : flatV x = true) : scal x x = true := by
  cases x with
  | non => rfl
  | bl b => rfl
  | int i => rfl
  | str z => rfl
  | _ => exact absurd (show false = true from f) Bool.false_ne_true
def rSame (K : PySem.W.Frag) (r : Bool) : R2 := fun x y H Q => Eqv K H 6 x y ∧ Q (.bl r) H
theorem op_eqS (hu : X.A.units + 64 < cLine) : OpR X (compareOp .Eq) (rSame X.K true) := by
  intro pins s σ H x y v u Q I rx ry ⟨h, q⟩
  cases h with
  | flat f => exact op_eq pins s σ H x x v u Q I rx ry ⟨scal_self f, by rw [decide_eq_true rfl]; exact q⟩
  | @lst _ a b xs ys ha hb hl hi =>
    cases rx
    cases ry
    obtain ⟨i1, r1, p1, _⟩ := I.list ha
    obtain ⟨i2, r2, p2, _⟩ := I.list hb
    have l1 := r1.length
    have l2 := r2.length
    refine SeqAt.eq_listAt (e := fun _ => true) p1.isList p2.isList (by simp; omega) (by omega) (fun j h1 h2 => ?_) ⟨.bl true, H, I, by rw [all_true]; rfl, q⟩
    obtain ⟨x1, e1, q1⟩ := r1.atN (j := j) (by simpa using h1)
    obtain ⟨x2, e2, q2⟩ := r2.atN (j := j) (by simpa using h2)
    exact (hi j x1 x2 e1 e2).at I (by simpa using q1) (by simpa using q2) (by show X.A.units + 1 + 5 < cLine; omega)
  | @tup _ a b xs ys ha hb hl hi =>
    cases rx
    cases ry
    obtain ⟨i1, r1, p1, _⟩ := I.tuple ha
    obtain ⟨i2, r2, p2, _⟩ := I.tuple hb
    have l1 := r1.length
    have l2 := r2.length
    refine SeqAt.eq_tupleAt (e := fun _ => true) (show s.heap.IsTuple a i1.toArray from p1) (show s.heap.IsTuple b i2.toArray from p2) (by omega) (fun j h1 h2 => ?_) ⟨.bl true, H, I, by rw [all_true, Bool.true_and, show (i1.toArray.size == i2.toArray.size) = true by simp; omega]; rfl, q⟩
    obtain ⟨x1, e1, q1⟩ := r1.atN (j := j) (by simpa using h1)
    obtain ⟨x2, e2, q2⟩ := r2.atN (j := j) (by simpa using h2)
    exact (hi j x1 x2 e1 e2).at I (by simpa using q1) (by simpa using q2) (by show X.A.units + 1 + 5 < cLine; omega)
theorem op_neS (hu : X.A.units + 64 < cLine) : OpR X (compareOp .NotEq) (rSame X.K false) := by
  intro pins s σ H x y v u Q I rx ry ⟨h, q⟩
  cases h with
  | flat f => exact op_ne pins s σ H x x v u Q I rx ry ⟨scal_self f, by rw [decide_eq_true rfl]; exact q⟩
  | @lst _ a b xs ys ha hb hl hi =>
    cases rx
    cases ry
    obtain ⟨i1, r1, p1, _⟩ := I.list ha
    obtain ⟨i2, r2, p2, _⟩ := I.list hb
    have l1 := r1.length
    have l2 := r2.length
    refine SeqAt.RcNeAt.lists (e := fun _ => true) p1.isList p2.isList (by simp; omega) (by omega) (fun j h1 h2 => ?_) _ _ _ _ ⟨.bl false, H, I, by rw [all_true]; rfl, q⟩
    obtain ⟨x1, e1, q1⟩ := r1.atN (j := j) (by simpa using h1)
    obtain ⟨x2, e2, q2⟩ := r2.atN (j := j) (by simpa using h2)
    exact (hi j x1 x2 e1 e2).at I (by simpa using q1) (by simpa using q2) (by show X.A.units + 1 + 5 < cLine; omega)
  | @tup _ a b xs ys ha hb hl hi =>
    cases rx
    cases ry
    obtain ⟨i1, r1, p1, _⟩ := I.tuple ha
    obtain ⟨i2, r2, p2, _⟩ := I.tuple hb
    have l1 := r1.length
    have l2 := r2.length
    refine SeqAt.RcNeAt.tuples (e := fun _ => true) (show s.heap.IsTuple a i1.toArray from p1) (show s.heap.IsTuple b i2.toArray from p2) (by omega) (fun j h1 h2 => ?_) _ _ _ _ ⟨.bl false, H, I, by rw [all_true, Bool.true_and, show (i1.toArray.size == i2.toArray.size) = true by simp; omega]; rfl, q⟩
    obtain ⟨x1, e1, q1⟩ := r1.atN (j := j) (by simpa using h1)
    obtain ⟨x2, e2, q2⟩ := r2.atN (j := j) (by simpa using h2)
    exact (hi j x1 x2 e1 e2).at I (by simpa using q1) (by simpa using q2) (by show X.A.units + 1 + 5 < cLine; omega)
end
end L2


namespace L2
open PySem
theorem eqv_flatT {K : PySem.W.Frag} {H : Hp} {n : Nat} {a b : Addr} {xs : List V} (ha : SqT K H a xs) (hb : SqT K H b xs) (f : ∀ x ∈ xs, flatV x = true) : Eqv K H (n + 1) (.ref a) (.ref b) :=
  .tup ha hb rfl fun i x y hx hy => by
    have e := Option.some.inj (hx.symm.trans hy)
    subst e
    exact .flat (f x (List.mem_of_getElem? hx))
theorem eqv_log {K : PySem.W.Frag} {H : Hp} {a b : Addr} {rs rs' : List V} {ds : List (Str × Int × Bool)} (ha : H a = some (.lst rs)) (hb : H b = some (.lst rs')) (r : Recd H rs ds) (r' : Recd H rs' ds) : Eqv K H 6 (.ref a) (.ref b) :=
  .lst (SqL.of ha) (SqL.of hb) (r.len.trans r'.len.symm) fun i x y hx hy => by
    obtain ⟨d, hd, p, rfl, hp⟩ := Paired.at r hx
    obtain ⟨d', hd', p', rfl, hp'⟩ := Paired.at r' hy
    have e := Option.some.inj (hd.symm.trans hd')
    subst e
    exact eqv_flatT (SqT.of hp) (SqT.of hp') (by simp [flatV])
theorem getD_rep {α : Type} (n i : Nat) (v d : α) : (List.replicate n v).getD i d = if i < n then v else d := by
  rw [List.getD_eq_getElem?_getD, List.getElem?_replicate]
  split <;> rfl
end L2

namespace L2
open PySem PySem.Spec PyProof.Rows
def clOf (env : Env) : List (Str × NameKind) → List (Str × Addr) → List (Str × Addr)
  | [], cs => cs
  | (n, k) :: r, cs => clOf env r (if (k == NameKind.free) = true then (match env.cells.lookup n with | some a => (n, a) :: cs | none => cs) else cs)
theorem closure_of {scope : Scope} {env : Env} (h : ∀ y ∈ scope.names, y.2 = .free → ∃ c, env.cells.lookup y.1 = some c) : closureFor scope env = pure (clOf env scope.names []) := by
  unfold closureFor
  have go : ∀ (l : List (Str × NameKind)) (cs : List (Str × Addr)), (∀ y ∈ l, y.2 = .free → ∃ c, env.cells.lookup y.1 = some c) →
      (forIn l cs fun x r => (match x with | (name, kind) => if (kind == NameKind.free) = true then do let a ← cellOf env name; pure (ForInStep.yield ((name, a) :: r)) else pure (ForInStep.yield r) : Sem (ForInStep (List (Str × Addr))))) = pure (clOf env l cs) := by
    intro l
    induction l with
    | nil => intro cs _; rfl
    | cons y r ih =>
      intro cs hl
      obtain ⟨n, k⟩ := y
      rw [List.forIn_cons]
      by_cases hk : (k == NameKind.free) = true
      · obtain ⟨c, e⟩ := hl (n, k) List.mem_cons_self (by simpa using hk)
        have e2 : cellOf env n = pure c := by unfold cellOf; rw [e]
        show (bind (if (k == NameKind.free) = true then _ else _) _ : Sem _) = _
        rw [if_pos hk, e2]
        show (forIn r ((n, c) :: cs) _ : Sem _) = pure (clOf env r (if (k == NameKind.free) = true then (match env.cells.lookup n with | some a => (n, a) :: cs | none => cs) else cs))
        rw [if_pos hk, e]
        exact ih _ fun y hy => hl y (List.mem_cons_of_mem _ hy)
      · show (bind (if (k == NameKind.free) = true then _ else _) _ : Sem _) = _
        rw [if_neg hk]
        show (forIn r cs _ : Sem _) = pure (clOf env r (if (k == NameKind.free) = true then (match env.cells.lookup n with | some a => (n, a) :: cs | none => cs) else cs))
        rw [if_neg hk]
        exact ih _ fun y hy => hl y (List.mem_cons_of_mem _ hy)
  exact (congrArg (fun z : Sem (List (Str × Addr)) => z >>= fun s => pure s) (go scope.names [] h)).trans rfl
theorem clOf_sub {env : Env} {x : Str} {c : Addr} : ∀ (l : List (Str × NameKind)) (cs : List (Str × Addr)), (cs.lookup x = some c → env.cells.lookup x = some c) → (clOf env l cs).lookup x = some c → env.cells.lookup x = some c
  | [], cs, hcs, h => hcs h
  | (n, k) :: r, cs, hcs, h => by
    refine clOf_sub r _ ?_ h
    intro q
    split at q
    · cases e : env.cells.lookup n with
      | none => rw [e] at q; exact hcs q
      | some a =>
        rw [e] at q
        have q : List.lookup x ((n, a) :: cs) = some c := q
        rw [List.lookup_cons] at q
        cases z : x == n with
        | true =>
          rw [z] at q
          have z' : x = n := by simpa using z
          rw [z', e, ← q]
        | false =>
          rw [z] at q
          exact hcs q
    · exact hcs q
theorem clOf_has {env : Env} {x : Str} {c : Addr} (e : env.cells.lookup x = some c) : ∀ (l : List (Str × NameKind)) (cs : List (Str × Addr)), ((x, NameKind.free) ∈ l ∨ cs.lookup x = some c) → (clOf env l cs).lookup x = some c
  | [], cs, h => h.resolve_left (by simp)
  | (n, k) :: r, cs, h => by
    refine clOf_has e r _ ?_
    by_cases hn : (x == n) = true
    · have z' : x = n := by simpa using hn
      by_cases hk : (k == NameKind.free) = true
      · refine .inr ?_
        rw [if_pos hk, ← z', e]
        show List.lookup x ((x, c) :: cs) = some c
        simp
      · rcases h with h | h
        · rcases List.mem_cons.mp h with q | q
          · cases q
            exact absurd (by simp) hk
          · exact .inl q
        · rw [if_neg hk]; exact .inr h
    · have nx : x ≠ n := fun z => hn (by simp [z])
      rcases h with h | h
      · rcases List.mem_cons.mp h with q | q
        · cases q
          exact absurd rfl nx
        · exact .inl q
      · refine .inr ?_
        split
        · cases en : env.cells.lookup n with
          | none => exact h
          | some a =>
            show List.lookup x ((n, a) :: cs) = some c
            have hn : (x == n) = false := by simpa using nx
            rw [List.lookup_cons, hn]
            exact h
        · exact h
theorem rel_free {env : Env} {x : Str} : ∀ {names : List (Str × NameKind)}, (∀ y ∈ names, y.2 ≠ .cell) →
    ((names.map fun (n, k) => if (k == NameKind.free && env.scope.kind == .function && env.kindOf n == some .cell) then (n, NameKind.cell) else (n, k)).lookup x = some .cell ∨
     (names.map fun (n, k) => if (k == NameKind.free && env.scope.kind == .function && env.kindOf n == some .cell) then (n, NameKind.cell) else (n, k)).lookup x = some .free) → (x, NameKind.free) ∈ names
  | [], _, h => by simp at h
  | (n, k) :: r, hc, h => by
    have ih := @rel_free env x r fun y hy => hc y (List.mem_cons_of_mem _ hy)
    rw [List.map_cons] at h
    by_cases hq : (k == NameKind.free && env.scope.kind == .function && env.kindOf n == some .cell) = true
    · have hk : k = .free := by
        rw [Bool.and_eq_true, Bool.and_eq_true] at hq
        simpa using hq.1.1
      simp only [if_pos hq, List.lookup_cons] at h
      cases hx : x == n with
      | true =>
        have e : x = n := by simpa using hx
        rw [e, hk]
        exact List.mem_cons_self
      | false =>
        simp only [hx] at h
        exact List.mem_cons_of_mem _ (ih h)
    · simp only [if_neg hq, List.lookup_cons] at h
      cases hx : x == n with
      | true =>
        simp only [hx] at h
        have e : x = n := by simpa using hx
        rcases h with h | h
        · cases h
          exact absurd rfl (hc _ List.mem_cons_self)
        · cases h
          rw [e]
          exact List.mem_cons_self
      | false =>
        simp only [hx] at h
        exact List.mem_cons_of_mem _ (ih h)
theorem rel_cell {env : Env} {x : Str} (hk : env.scope.kind = .function) (he : env.kindOf x = some .cell) : ∀ {names : List (Str × NameKind)}, names.lookup x = some .free →
    (names.map fun (n, k) => if (k == NameKind.free && env.scope.kind == .function && env.kindOf n == some .cell) then (n, NameKind.cell) else (n, k)).lookup x = some .cell
  | [], h => by simp at h
  | (n, k) :: r, h => by
    have ih := @rel_cell env x hk he r
    rw [List.map_cons]
    rw [List.lookup_cons] at h
    cases hx : x == n with
    | true =>
      simp only [hx] at h
      have e : x = n := by simpa using hx
      cases h
      subst e
      show List.lookup x ((if (NameKind.free == NameKind.free && env.scope.kind == ScopeKind.function && env.kindOf x == some NameKind.cell) = true then (x, NameKind.cell) else (x, NameKind.free)) :: _) = _
      rw [if_pos (by rw [hk, he]; rfl), List.lookup_cons]
      simp
    | false =>
      simp only [hx] at h
      show List.lookup x ((if (k == NameKind.free && env.scope.kind == ScopeKind.function && env.kindOf n == some NameKind.cell) = true then (n, NameKind.cell) else (n, k)) :: _) = _
      by_cases hq : (k == NameKind.free && env.scope.kind == .function && env.kindOf n == some .cell) = true
      · rw [if_pos hq, List.lookup_cons]
        simp only [hx]
        exact ih h
      · rw [if_neg hq, List.lookup_cons]
        simp only [hx]
        exact ih h
abbrev cxBlk (X : Cx) (N : List Str) (scope : Scope) (C : Addr) (fp : List Addr) (s : Shared) (H : Hp) (xe : Value → Shared → Prop) : Cx :=
  { X with N := N, s₀ := s, H₀ := H, env := compEnvC scope (clOf X.env scope.names []) C X.env, outer := X.stack, ex := fp, fn := fun _ => false, pn := [], xe := xe }
def pick (ix : List Nat) (σ : St) : St := ix.map fun i => σ.getD i none
def capOk (XN : List Str) (kd : Str → Option NameKind) (names : List (Str × NameKind)) (N : List Str) (ix : List Nat) : Bool :=
  (List.range ix.length).all fun j => match N[j]?, ix[j]? with
    | some x, some i => decide (XN[i]? = some x) && decide (names.lookup x = some .free) && decide (kd x = some .cell)
    | _, _ => false
theorem capOk_at {XN : List Str} {kd : Str → Option NameKind} {names : List (Str × NameKind)} {N : List Str} {ix : List Nat} (h : capOk XN kd names N ix = true) {j : Nat} (hj : j < ix.length) {x : Str} (hx : N[j]? = some x) :
    ∃ i, ix[j]? = some i ∧ XN[i]? = some x ∧ names.lookup x = some .free ∧ kd x = some .cell := by
  unfold capOk at h
  rw [List.all_eq_true] at h
  have q := h j (List.mem_range.mpr hj)
  rw [hx, List.getElem?_eq_getElem hj] at q
  simp only [Bool.and_eq_true, decide_eq_true_eq] at q
  exact ⟨_, List.getElem?_eq_getElem hj, q.1.1, q.1.2, q.2⟩
theorem inv_blk {X : Cx} {pins : List (Addr × Obj)} {σ : St} {H : Hp} {s : Shared} (I : Inv X pins σ H s) {N : List Str} {ix : List Nat} {scope : Scope} {fp : List Addr} {xe : Value → Shared → Prop} (hf : ∀ b ∈ fp, FpOk X pins H b) (ho : ∀ b ∈ fp, ∃ o, s.heap.get? b = some o)
    (hk : scope.kind = .function) (hc : ∀ y ∈ scope.names, y.2 ≠ .cell) (hfr : ∀ y ∈ scope.names, y.2 = .free → X.env.kindOf y.1 = some .cell) (hcap : capOk X.N X.env.kindOf scope.names N ix = true) (hN : ix.length ≤ N.length) {h₁ : Heap} {tk n : Nat} {m : Str → Option Value}
    (hn : h₁.Ns (s.heap.objs.size + 1) m) (hkp : ∀ b u, s.heap.get? b = some u → h₁.get? b = some u) (hD : h₁.get? s.heap.objs.size = some { cls := .type "list", data := .seq ([] : List Value).toArray n }) :
    Inv (cxBlk X N scope (s.heap.objs.size + 1) fp s H xe) [] (pick ix σ ++ List.replicate (N.length - ix.length) none) (upd H s.heap.objs.size (.lst [])) { s with heap := h₁, toks := tk } := by
  have fresh : H s.heap.objs.size = none := I.hok.fresh (Nat.le_refl _)
  have fresh1 : H (s.heap.objs.size + 1) = none := I.hok.fresh (Nat.le_succ _)
  have cel : ∀ x c, (clOf X.env scope.names []).lookup x = some c → X.env.cells.lookup x = some c := fun x c e => clOf_sub _ _ (by intro q; simp at q) e
  have clt : ∀ x c, (clOf X.env scope.names []).lookup x = some c → c < s.heap.objs.size := fun x c e => by
    obtain ⟨v, q⟩ := I.cell x c (cel x c e)
    exact q.lt
  refine ⟨⟨I.ok.mod, hk, I.ok.glob, I.ok.blt, Nat.le_succ _, fun x y c h1 h2 => I.ok.inj x y c (cel x c h1) (cel y c h2), fun x hx => ?_, fun x c h => absurd h Bool.false_ne_true, I.ok.hd, I.ok.frames, .inl rfl, fun b hb => ⟨?_, fun x c e => ?_⟩, I.bs, Nat.le_trans I.ok.bsz I.sz, fun b o e hb => ?_, fun b hb z => ?_, I.stack, I.stkFree⟩,
    rfl, I.bare, Un.laid hkp (Nat.le_refl _) fresh, ⟨m, hn, fun i x v e1 e2 e3 => ?_⟩, fun x c e => ?_, ?_, fun x c e => ?_, fun p hp => ?_, I.hok.laid hkp (Nat.le_refl _) ⟨by simp, [], n, .nil, hD⟩, ?_⟩
  · have hx : (x, NameKind.free) ∈ scope.names := rel_free hc hx
    obtain ⟨c, e⟩ := I.ok.has x (.inl (hfr _ hx rfl))
    exact ⟨c, clOf_has e _ _ (.inl hx)⟩
  · obtain ⟨o, e⟩ := ho b hb
    exact Nat.ne_of_lt (Nat.lt_succ_of_lt (Heap.lt_size e))
  · exact (hf b hb).2.2.2.2.1 x c (cel x c e)
  · rcases (hf b hb).2.2.2.1 with z | z
    · exact I.ok.noex b o e z
    · exact absurd (Nat.lt_of_lt_of_le (Heap.lt_size e) (Nat.le_trans I.ok.bsz z)) (Nat.lt_irrefl _)
  · rcases List.mem_cons.mp (I.stkSub b z) with z | z
    · exact (hf b hb).2.1 z
    · exact (hf b hb).2.2.1 z
  · have hi : i < ix.length := by
      by_cases hi : i < ix.length
      · exact hi
      · rw [List.getElem?_append_right (by simpa [pick] using hi), List.getElem?_replicate] at e2
        split at e2 <;> cases e2
    obtain ⟨i0, q1, q2, q3, q4⟩ := capOk_at hcap hi e1
    rw [List.getElem?_append_left (by simpa [pick] using hi)] at e2
    have e2 : σ[i0]? = some (some v) := by
      unfold pick at e2
      rw [List.getElem?_map, q1] at e2
      have e2 : σ.getD i0 none = some v := Option.some.inj e2
      rw [List.getD_eq_getElem?_getD] at e2
      cases z : σ[i0]? with
      | none => rw [z] at e2; cases e2
      | some y => rw [z] at e2; exact congrArg some e2
    obtain ⟨mX, _, lX⟩ := I.loc
    obtain ⟨u, r, l⟩ := lX i0 x v q2 e2 (.inr (.inl q4))
    refine ⟨u, r, .inr ⟨.inl (rel_cell I.ok.kind q4 q3), ?_⟩⟩
    rcases l with ⟨l, _⟩ | ⟨_, c, e, z⟩
    · rw [q4] at l; cases l
    · obtain ⟨o, e', d⟩ := z
      exact ⟨c, clOf_has e _ _ (.inl (PySem.mem_of_lookup q3)), o, hkp _ _ e', d⟩
  · obtain ⟨v, o, e', d⟩ := I.cell x c (cel x c e)
    exact ⟨v, o, hkp _ _ e', d⟩
  · show upd H s.heap.objs.size (.lst []) (s.heap.objs.size + 1) = none
    rw [upd_ne (Nat.ne_of_gt (Nat.lt_succ_self _))]
    exact fresh1
  · rw [upd_ne (Nat.ne_of_lt (clt x c e))]
    exact I.freeC x c (cel x c e)
  · exact absurd (show p ∈ ([] : List (Addr × Obj)) from hp) (by simp)
  · show _ = N.length
    rw [List.length_append, List.length_replicate]
    simp only [pick, List.length_map]
    omega
def PIf (X : Cx) (ifs : List Expr) (t : TT) : Prop :=
  ∀ (pins : List (Addr × Obj)) (s : Shared) (σ : St) (H : Hp) (Q : Bool → Hp → Prop), Inv X pins σ H s → t σ H Q →
    wpAny (model X.prog X.w) X.A (forIn ifs true fun c r => if r = true then do let ok ← isTrue c X.env (eval c X.env); pure (ForInStep.yield ok) else pure (ForInStep.yield r)) (TP X pins σ Q) X.xe s
def tNoIf : TT := fun _ H Q => Q true H
theorem tNoIf_at {A B : Hp → Prop} {σ : St} {H : Hp} (h : A H) : tNoIf σ H (fun b H6 => if b = true then A H6 else B H6) := by
  show if true = true then A H else B H
  rw [if_pos rfl]
  exact h
theorem pif_nil {X : Cx} : PIf X [] tNoIf := fun pins s σ H Q I h => wpAny_pure ⟨H, I, h⟩
theorem pif_one {X : Cx} {c : Expr} {t : TT} (hc : PT X c t) : PIf X [c] t := fun pins s σ H Q I h => by
  rw [List.forIn_cons]
  show wpAny _ _ (bind (if true = true then _ else _) _) _ _ _
  rw [if_pos rfl]
  refine wpAny_bind (wpAny_bind (thn (hc pins s σ H Q I h) fun b s1 q => ?_))
  exact wpAny_pure (wpAny_pure q)
def tLC (wi : TI) (g : TG) (tc : TT) (te : TE) (ix : List Nat) (k : Nat) : TE := fun σ H Q => wi σ H fun J H1 => ∀ D H2, H1 D = none → Same H1 H2 → H2 D = some (.lst []) →
  ∃ W : Nat → Nat → Hp → Prop, (∃ m, W 0 m H2) ∧ ∀ i m H3, W i m H3 → (J.stop i H3 ∧ Q (.ref D) H3) ∨
    (J.go i H3 ∧ ∃ N : Hp → Prop, (∀ H', N H' → ∃ m', m' < m ∧ W (i + 1) m' H') ∧ ∀ x H4, J.yld i H3 x H4 → g x (pick ix σ ++ List.replicate k none) H4 fun σ5 H5 => tc σ5 H5 fun b H6 =>
      if b = true then te σ5 H6 (fun v H7 => ∃ vs, H7 D = some (.lst vs) ∧ vs.length < sizeLine ∧ N (upd H7 D (.lst (vs ++ [v])))) else N H6)
def Own (g : TG) (k : Nat) : Prop := ∀ x σ H Q, g x σ H Q → g x σ H fun σ' H' => Q σ' H' ∧ σ'.length = σ.length ∧ ∀ j, j < k → σ'[j]? = σ[j]?
theorem own_name {i k : Nat} (h : k ≤ i) : Own (gName i) k := fun x σ H Q q => ⟨q, List.length_set, fun j hj => by rw [List.getElem?_set_ne (by omega)]⟩
theorem lc_loop {P : Program} {w : World} {A : Around} {R : Result → Shared → Prop} {s : Shared} {elt tg iter : Expr} {ifs : List Expr} {sc : Scope} {pos : Pos} {it acc : Value} {env : Env} (J : Nat → Shared → Prop)
    (turn : ∀ n s1, J n s1 → wpAny (model P w) A (pyNext it) (fun r s2 => match r with
      | none => R (.ok .next) s2
      | some v => wpAny (model P w) A (letOwnedTupleGo tg it v) (fun _ s3 => wpAny (model P w) A (assign tg env v) (fun _ s4 =>
          wpAny (model P w) A (forIn ifs true fun c r => if r = true then do let ok ← isTrue c env (eval c env); pure (ForInStep.yield ok) else pure (ForInStep.yield r)) (fun ok s5 =>
            if ok = true then wpAny (model P w) A (eval elt env) (fun x s6 => wpAny (model P w) A (call (.builtin "list.append") [acc, x]) (fun _ s7 => ∃ m, m < n ∧ J m s7) (notedBy (model P w) A env fun e s' => R (.error e) s') s6) (notedBy (model P w) A env fun e s' => R (.error e) s') s5
            else ∃ m, m < n ∧ J m s5) (notedBy (model P w) A env fun e s' => R (.error e) s') s4) (notedBy (model P w) A env fun e s' => R (.error e) s') s3) (notedBy (model P w) A env fun e s' => R (.error e) s') s2) (notedBy (model P w) A env fun e s' => R (.error e) s') s1)
    (n : Nat) (h : J n s) : codeAny (model P w) A (.compLoop (.ListComp elt [⟨tg, iter, ifs, 0⟩] sc pos) 0 it acc env) R s := by
  refine codeAny_loop rfl J (fun m s1 hJ => ?_) n h
  show wpAny _ A ((compTurn _ 0 it acc env).onRaise (fun x => do noteFrame x env; theTreesLotGoes x)) _ _ s1
  refine wpAny_noted ?_
  rw [compTurn_list]
  refine wpAny_bind (wpAny_standAt (wpAny_bind (thn (turn m s1 hJ) fun r s2 h2 => ?_)))
  cases r with
  | none => exact wpAny_pure h2
  | some v =>
    refine wpAny_bind (thn h2 fun _ s3 h3 => wpAny_bind (thn h3 fun _ s4 h4 => wpAny_bind (thn h4 fun ok s5 h5 => ?_)))
    cases ok with
    | false => exact wpAny_pure ⟨rfl, h5⟩
    | true => exact wpAny_bind (wpAny_bind (thn h5 fun x s6 h6 => wpAny_bind (thn h6 fun _ s7 h7 => wpAny_pure (wpAny_pure ⟨rfl, h7⟩))))
theorem pe_lc {X : Cx} {elt iter tg : Expr} {ifs : List Expr} {scope : Scope} {pos : Pos} {wi : TI} {g : TG} {tc : TT} {te : TE} (N : List Str) (ix : List Nat) (hcalm : X.calm = true) (hi : PI X tg iter wi)
    (hg : ∀ C fp s H xe, PG (cxBlk X N scope C fp s H xe) tg g) (hif : ∀ C fp s H xe, PIf (cxBlk X N scope C fp s H xe) ifs tc) (he : ∀ C fp s H xe, PE (cxBlk X N scope C fp s H xe) elt te)
    (hk : scope.kind = .function) (hc : ∀ y ∈ scope.names, y.2 ≠ .cell) (hfr : ∀ y ∈ scope.names, y.2 = .free → X.env.kindOf y.1 = some .cell) (hcap : capOk X.N X.env.kindOf scope.names N ix = true) (hN : ix.length ≤ N.length)
    (hnames : ∀ x ∈ scope.names, x.2 = .local → scope.names.lookup x.1 = some .local) (hown : Own g ix.length) (hs : ∀ x, foldedSetIterable iter X.env x = pure x := by intro _; rfl) :
    PE X (.ListComp elt [⟨tg, iter, ifs, 0⟩] scope pos) (tLC wi g tc te ix (N.length - ix.length)) := by
  intro pins s σ H Q I h
  rw [eval_ListComp]
  refine wpAny_comprehension_free (use := none) (cl := clOf X.env scope.names []) rfl hs (closure_of fun y hy hyf => I.ok.has _ (.inl (hfr y hy hyf))) hk hnames (thn (hi pins s σ H _ I h) fun v s1 h1 => thn h1 fun itv s2 h2 => ?_)
  obtain ⟨it, fp, tn, J, H2, e, I2, T, st2, f2, q2⟩ := h2
  subst e
  refine wpAny_newObj_type (wpAny_newFunctionEnv hc (by intro y hy; simp at hy) (fun h₁ hns₁ hsb₁ => ?_) hk)
  dsimp only at hns₁ hsb₁ ⊢
  rw [Heap.size_push] at hns₁ hsb₁ ⊢
  have old : ∀ b o, s2.heap.get? b = some o → h₁.get? b = some o := fun b o e => hsb₁.extBut b o (Nat.ne_of_lt (Nat.lt_succ_of_lt (Heap.lt_size e))) (Heap.get?_push_of_some _ (Heap.get?_push_of_some _ e))
  have hacc : h₁.get? s2.heap.objs.size = some { cls := .type "list", data := .seq ([] : List Value).toArray } := hsb₁.extBut _ _ (Nat.ne_of_lt (Nat.lt_succ_self _)) (Heap.get?_push_of_some _ (Heap.get?_push_size _ rfl))
  have fob : ∀ b ∈ fp, ∃ o, s2.heap.get? b = some o := fun b hb => let ⟨o, e, _⟩ := T.obj _ _ st2 b hb; ⟨o, e⟩
  have fresh : H2 s2.heap.objs.size = none := I2.hok.fresh (Nat.le_refl _)
  obtain ⟨W, ⟨m0, w0⟩, turn⟩ := q2 s2.heap.objs.size (upd H2 s2.heap.objs.size (.lst [])) fresh (Same.upd fresh) upd_same
  have fin : ∀ {pY σ' H' s'}, Inv (cxBlk X N scope (s2.heap.objs.size + 1) fp s2 H2 (notedBy (model X.prog X.w) X.A (compEnvC scope (clOf X.env scope.names []) (s2.heap.objs.size + 1) X.env) fun e s' => compPost (model X.prog X.w) X.A X.xe none (EP X pins σ Q) (.ref s2.heap.objs.size) (s2.heap.objs.size + 1) (.error e) s')) pY σ' H' s' → Q (.ref s2.heap.objs.size) H' →
      compPost (model X.prog X.w) X.A X.xe none (EP X pins σ Q) (.ref s2.heap.objs.size) (s2.heap.objs.size + 1) (.ok .next) s' := fun {pY σ' H' s'} J q => by
    obtain ⟨m, hm, _⟩ := id J.loc
    refine ⟨m, hm, fun h' sb => ⟨.ref s2.heap.objs.size, H', ?_, rfl, q⟩⟩
    have eb : ∀ b o, b ≠ s2.heap.objs.size + 1 → s'.heap.get? b = some o → h'.get? b = some o := fun b o nb e => sb.extBut b o nb e
    have low : ∀ b o, s2.heap.get? b = some o → b ≠ s2.heap.objs.size + 1 := fun b o e => Nat.ne_of_lt (Nat.lt_succ_of_lt (Heap.lt_size e))
    have u := J.base
    have nC : H' (s2.heap.objs.size + 1) = none := J.free
    refine I2.call' (ch := fp) (s' := { s' with heap := h' }) J.os ⟨fun b o e n1 n2 n3 => eb b o (low b o e) (u.keep b o e n1 n2 n3), fun b o e n1 n2 n3 => ?_, u.free, fun b o e n1 => ?_, u.tups, u.frzs, u.tbls⟩ (fun b o e => ?_) J.bare fun b hb => ⟨(f2 b hb).2.2.2.1, (f2 b hb).2.1, (f2 b hb).2.2.2.2.1, (f2 b hb).2.2.2.2.2⟩
    · obtain ⟨sl, q1⟩ := u.slot b o e n1 n2 n3
      exact ⟨sl, eb b _ (low b o e) q1⟩
    · obtain ⟨o', q1⟩ := u.there b o e n1
      exact ⟨o', eb b _ (low b o e) q1⟩
    · refine (J.hok b o e).stay (fun c v hc q1 => eb c v ?_ q1) (fun _ q1 => q1) fun _ _ q1 => q1
      rcases hc with rfl | z
      · exact ne_of_none e nC
      · exact ne_of_none z nC
  have IY : Inv (cxBlk X N scope (s2.heap.objs.size + 1) fp s2 H2 (notedBy (model X.prog X.w) X.A (compEnvC scope (clOf X.env scope.names []) (s2.heap.objs.size + 1) X.env) fun e s' => compPost (model X.prog X.w) X.A X.xe none (EP X pins σ Q) (.ref s2.heap.objs.size) (s2.heap.objs.size + 1) (.error e) s')) [] (pick ix σ ++ List.replicate (N.length - ix.length) none) (upd H2 s2.heap.objs.size (.lst [])) { s2 with heap := h₁, toks := s2.toks + ([] : List (Str × Value)).length } :=
    inv_blk I2 f2 fob hk hc hfr hcap hN hns₁ old hacc
  generalize hY : cxBlk X N scope (s2.heap.objs.size + 1) fp s2 H2 (notedBy (model X.prog X.w) X.A (compEnvC scope (clOf X.env scope.names []) (s2.heap.objs.size + 1) X.env) fun e s' => compPost (model X.prog X.w) X.A X.xe none (EP X pins σ Q) (.ref s2.heap.objs.size) (s2.heap.objs.size + 1) (.error e) s') = Y at IY fin
  have hgY : PG Y tg g := hY ▸ hg _ _ _ _ _
  have hifY : PIf Y ifs tc := hY ▸ hif _ _ _ _ _
  have heY : PE Y elt te := hY ▸ he _ _ _ _ _
  have hP : Y.prog = X.prog := by rw [← hY]
  have hw : Y.w = X.w := by rw [← hY]
  have hK : Y.K = X.K := by rw [← hY]
  have hcl : Y.calm = true := by rw [← hY]; exact hcalm
  have stat : ∀ {H' : Hp}, (∀ b ∈ fp, H' b = none) → ∀ b ∈ fp, FpOk Y [] H' b := fun {H'} hn b hb => by
    rw [← hY]
    refine ⟨hn b hb, ?_, fun z => ?_, .inl hb, fun x c e => ?_, fun p hp => absurd (show p ∈ ([] : List (Addr × Obj)) from hp) (by simp)⟩
    · obtain ⟨o, e⟩ := fob b hb
      exact Nat.ne_of_lt (Nat.lt_succ_of_lt (Heap.lt_size e))
    · rcases List.mem_cons.mp (I2.stkSub b z) with z | z
      · exact (f2 b hb).2.1 z
      · exact (f2 b hb).2.2.1 z
    · exact (f2 b hb).2.2.2.2.1 x c (clOf_sub _ _ (by intro q; simp at q) e)
  have loop : codeAny (model X.prog X.w) X.A (.compLoop (.ListComp elt [⟨tg, iter, ifs, 0⟩] scope pos) 0 (.ref it) (.ref s2.heap.objs.size) (compEnvC scope (clOf X.env scope.names []) (s2.heap.objs.size + 1) X.env))
      (compPost (model X.prog X.w) X.A X.xe none (EP X pins σ Q) (.ref s2.heap.objs.size) (s2.heap.objs.size + 1)) { s2 with heap := h₁, toks := s2.toks + ([] : List (Str × Value)).length } := by
    refine lc_loop (fun n s' => ∃ i H', Inv Y [] (pick ix σ ++ List.replicate (N.length - ix.length) none) H' s' ∧ tn i s'.heap ∧ (∀ b ∈ fp, H' b = none) ∧ W i n H') ?_ m0
      ⟨0, _, IY, T.keep _ _ _ st2 (fun b hb o e => old b o e), fun b hb => by obtain ⟨o, e⟩ := fob b hb; rw [upd_ne (Nat.ne_of_lt (Heap.lt_size e))]; exact (f2 b hb).1, w0⟩
    rintro n s3 ⟨i, H3, I3, st3, fr3, w3⟩
    rcases turn i n H3 w3 with ⟨stop, qn⟩ | ⟨go, NN, hNN, step⟩
    · have d := T.done Y hP hw hK hcl i [] s3 _ H3 Y.xe I3 (stat fr3) st3 stop
      subst hY
      refine thn d fun r s4 ⟨hr, I4⟩ => ?_
      subst hr
      exact fin I4 qn
    · have d := T.item Y hP hw hK hcl i [] s3 _ H3 Y.xe I3 (stat fr3) st3 go
      have again : ∀ {p5 : List (Addr × Obj)} {s5 s8 : Shared} {σ6 : St} {H8 : Hp}, p5 = pinsAt fp s5.heap → tn (i + 1) s5.heap → σ6.length = (pick ix σ ++ List.replicate (N.length - ix.length) none).length → (∀ j, j < ix.length → σ6[j]? = (pick ix σ ++ List.replicate (N.length - ix.length) none)[j]?) → Inv Y ([] ++ p5) σ6 H8 s8 → NN H8 →
          ∃ m', m' < n ∧ ∃ i H', Inv Y [] (pick ix σ ++ List.replicate (N.length - ix.length) none) H' s8 ∧ tn i s8.heap ∧ (∀ b ∈ fp, H' b = none) ∧ W i m' H' := fun {p5 s5 s8 σ6 H8} e5 st5 l6 k6 I8 q8 => by
        subst e5
        obtain ⟨m', hm, w8⟩ := hNN _ q8
        refine ⟨m', hm, i + 1, H8, I8.unpinned.weak l6.symm (fun j v e => ?_), T.keep _ _ _ st5 fun b hb o e => (I8.pin (b, o) (List.mem_append_right _ (List.mem_append_right _ (mem_pinsAt hb e)))).1, fun b hb => ?_, w8⟩
        · by_cases hj : j < ix.length
          · rw [k6 j hj]; exact e
          · rw [List.getElem?_append_right (by simpa [pick] using hj), List.getElem?_replicate] at e
            split at e <;> cases e
        · obtain ⟨o, e, _⟩ := T.obj _ _ st5 b hb
          exact (I8.pin (b, o) (List.mem_append_right _ (List.mem_append_right _ (mem_pinsAt hb e)))).2.1
      have tail : ∀ (r : Option Value) (s4 : Shared), (∃ u, r = some u ∧ wpAny (model Y.prog Y.w) Y.A (letOwnedTupleGo tg (.ref it) u) (fun _ s2 => ∃ x H', Inv Y [] (pick ix σ ++ List.replicate (N.length - ix.length) none) H' s2 ∧ RelV x u ∧ J.yld i H3 x H' ∧ tn (i + 1) s2.heap ∧ ∀ b ∈ fp, H' b = none) Y.xe s4) →
          (match r with
          | none => compPost (model X.prog X.w) X.A X.xe none (EP X pins σ Q) (.ref s2.heap.objs.size) (s2.heap.objs.size + 1) (.ok .next) s4
          | some v => wpAny (model Y.prog Y.w) Y.A (letOwnedTupleGo tg (.ref it) v) (fun _ s₁ => wpAny (model Y.prog Y.w) Y.A (assign tg Y.env v) (fun _ s₂ =>
              wpAny (model Y.prog Y.w) Y.A (forIn ifs true fun c r => if r = true then do let ok ← isTrue c Y.env (eval c Y.env); pure (ForInStep.yield ok) else pure (ForInStep.yield r)) (fun ok s₃ =>
                if ok = true then wpAny (model Y.prog Y.w) Y.A (eval elt Y.env) (fun x s₄ =>
                  wpAny (model Y.prog Y.w) Y.A (call (.builtin "list.append") [.ref s2.heap.objs.size, x]) (fun _ s₅ => ∃ m, m < n ∧ ∃ i H', Inv Y [] (pick ix σ ++ List.replicate (N.length - ix.length) none) H' s₅ ∧ tn i s₅.heap ∧ (∀ b ∈ fp, H' b = none) ∧ W i m H') Y.xe s₄) Y.xe s₃
                else ∃ m, m < n ∧ ∃ i H', Inv Y [] (pick ix σ ++ List.replicate (N.length - ix.length) none) H' s₃ ∧ tn i s₃.heap ∧ (∀ b ∈ fp, H' b = none) ∧ W i m H') Y.xe s₂) Y.xe s₁) Y.xe s4) := by
        rintro r s4 ⟨u, rfl, h4⟩
        dsimp only
        refine thn h4 fun _ s5 ⟨x, H5, I5, r5, y5, st5, fr5⟩ => ?_
        have I5' := I5.pinned (stat fr5) (T.obj _ _ st5)
        refine thn (hgY _ s5 _ H5 x u _ I5' r5 (hown _ _ _ _ (step x H5 y5))) fun _ s6 ⟨σ6, H6, I6, q6, l6, k6⟩ => ?_
        refine thn (hifY _ s6 σ6 H6 _ I6 q6) fun b s7 ⟨H7, I7, q7⟩ => ?_
        cases b with
        | false =>
          rw [if_neg (by decide)] at q7 ⊢
          exact again rfl st5 l6 k6 I7 q7
        | true =>
          rw [if_pos rfl] at q7 ⊢
          refine thn (heY _ s7 σ6 H7 _ I7 q7) fun y s8 ⟨v, H8, I8, r8, vs, e8, hz, q8⟩ => ?_
          refine thn (mt_append (X := Y) _ s8 σ6 H8 (.ref s2.heap.objs.size) [v] (.ref s2.heap.objs.size) [y] (fun _ H9 => NN H9) I8 rfl (.cons r8 .nil) ⟨s2.heap.objs.size, vs, v, rfl, rfl, e8, hz, q8⟩) fun _ s9 ⟨_, H9, I9, _, q9⟩ => ?_
          exact again rfl st5 l6 k6 I9 q9
      subst hY
      exact thn d tail
  exact codeAny_compStart_list loop (T.self X.A 0 _ _ _ (T.keep _ _ _ st2 fun b hb o e => old b o e) loop)
def blkOk (XN : List Str) (kd : Str → Option NameKind) (sc : Scope) (N : List Str) (ix : List Nat) : Bool :=
  decide (sc.kind = .function) && sc.names.all (fun y => decide (y.2 ≠ .cell) && (decide (y.2 ≠ .free) || decide (kd y.1 = some .cell)) && (decide (y.2 ≠ .local) || decide (sc.names.lookup y.1 = some .local))) && capOk XN kd sc.names N ix && decide (ix.length ≤ N.length)
theorem pe_comp {X : Cx} {elt iter tg : Expr} {ifs : List Expr} {scope : Scope} {pos : Pos} {wi : TI} {g : TG} {tc : TT} {te : TE} (N : List Str) (ix : List Nat) (hcalm : X.calm = true) (hi : PI X tg iter wi)
    (hg : ∀ C fp s H xe, PG (cxBlk X N scope C fp s H xe) tg g) (hif : ∀ C fp s H xe, PIf (cxBlk X N scope C fp s H xe) ifs tc) (he : ∀ C fp s H xe, PE (cxBlk X N scope C fp s H xe) elt te)
    (ok : blkOk X.N X.env.kindOf scope N ix = true) (hown : Own g ix.length) (hs : ∀ x, foldedSetIterable iter X.env x = pure x := by intro _; rfl) :
    PE X (.ListComp elt [⟨tg, iter, ifs, 0⟩] scope pos) (tLC wi g tc te ix (N.length - ix.length)) := by
  unfold blkOk at ok
  rw [Bool.and_eq_true, Bool.and_eq_true, Bool.and_eq_true, List.all_eq_true] at ok
  obtain ⟨⟨⟨h1, h2⟩, h3⟩, h4⟩ := ok
  have h2' : ∀ y ∈ scope.names, y.2 ≠ .cell ∧ (y.2 ≠ .free ∨ X.env.kindOf y.1 = some .cell) ∧ (y.2 ≠ .local ∨ scope.names.lookup y.1 = some .local) := fun y hy => by
    have q := h2 y hy
    rw [Bool.and_eq_true, Bool.and_eq_true, Bool.or_eq_true, Bool.or_eq_true, decide_eq_true_eq, decide_eq_true_eq, decide_eq_true_eq, decide_eq_true_eq, decide_eq_true_eq] at q
    exact ⟨q.1.1, q.1.2, q.2⟩
  exact pe_lc N ix hcalm hi hg hif he (of_decide_eq_true h1) (fun y hy => (h2' y hy).1) (fun y hy e => (h2' y hy).2.1.resolve_left (fun z => z e)) h3 (of_decide_eq_true h4) (fun y hy e => (h2' y hy).2.2.resolve_left (fun z => z e)) hown hs
theorem lc_range {lo : Int} {n : Nat} {D : Addr} {H2 : Hp} {g : TG} {tc : TT} {te : TE} {σ0 : St} {Q : VK} (Pv : Nat → Hp → Prop) (h0 : Pv 0 H2)
    (hs : ∀ (i : Nat) H, i < n → Pv i H → g (.int (lo + i)) σ0 H fun σ5 H5 => tc σ5 H5 fun b H6 => if b = true then te σ5 H6 (fun v H7 => ∃ vs, H7 D = some (.lst vs) ∧ vs.length < sizeLine ∧ Pv (i + 1) (upd H7 D (.lst (vs ++ [v])))) else Pv (i + 1) H6) (hd : ∀ H, Pv n H → Q (.ref D) H) :
    ∃ W : Nat → Nat → Hp → Prop, (∃ m, W 0 m H2) ∧ ∀ i m H3, W i m H3 → ((Itr lo n).stop i H3 ∧ Q (.ref D) H3) ∨
      ((Itr lo n).go i H3 ∧ ∃ N : Hp → Prop, (∀ H', N H' → ∃ m', m' < m ∧ W (i + 1) m' H') ∧ ∀ x H4, (Itr lo n).yld i H3 x H4 → g x σ0 H4 fun σ5 H5 => tc σ5 H5 fun b H6 =>
        if b = true then te σ5 H6 (fun v H7 => ∃ vs, H7 D = some (.lst vs) ∧ vs.length < sizeLine ∧ N (upd H7 D (.lst (vs ++ [v])))) else N H6) := by
  refine ⟨fun i m H => m = n - i ∧ i ≤ n ∧ Pv i H, ⟨n, by simp, Nat.zero_le _, h0⟩, ?_⟩
  rintro i m H ⟨rfl, hi, p⟩
  by_cases hlt : i < n
  · refine .inr ⟨hlt, Pv (i + 1), fun H' z => ⟨n - (i + 1), by omega, rfl, by omega, z⟩, ?_⟩
    rintro x H4 ⟨rfl, rfl⟩
    exact hs i _ hlt p
  · obtain rfl : i = n := by omega
    exact .inl ⟨Nat.le_refl _, hd _ p⟩
theorem lc_list {K : PySem.W.Frag} {a : Addr} {xs : List V} {D : Addr} {H2 : Hp} {g : TG} {tc : TT} {te : TE} {σ0 : St} {Q : VK} (Pv : Nat → Hp → Prop) (h0 : Pv 0 H2) (hl : ∀ i H, Pv i H → SqL K H a xs)
    (hs : ∀ (i : Nat) x H, xs[i]? = some x → Pv i H → g x σ0 H fun σ5 H5 => tc σ5 H5 fun b H6 => if b = true then te σ5 H6 (fun v H7 => ∃ vs, H7 D = some (.lst vs) ∧ vs.length < sizeLine ∧ Pv (i + 1) (upd H7 D (.lst (vs ++ [v])))) else Pv (i + 1) H6) (hd : ∀ H, Pv xs.length H → Q (.ref D) H) :
    ∃ W : Nat → Nat → Hp → Prop, (∃ m, W 0 m H2) ∧ ∀ i m H3, W i m H3 → ((Itl K a).stop i H3 ∧ Q (.ref D) H3) ∨
      ((Itl K a).go i H3 ∧ ∃ N : Hp → Prop, (∀ H', N H' → ∃ m', m' < m ∧ W (i + 1) m' H') ∧ ∀ x H4, (Itl K a).yld i H3 x H4 → g x σ0 H4 fun σ5 H5 => tc σ5 H5 fun b H6 =>
        if b = true then te σ5 H6 (fun v H7 => ∃ vs, H7 D = some (.lst vs) ∧ vs.length < sizeLine ∧ N (upd H7 D (.lst (vs ++ [v])))) else N H6) := by
  refine ⟨fun i m H => m = xs.length - i ∧ i ≤ xs.length ∧ Pv i H, ⟨xs.length, by simp, Nat.zero_le _, h0⟩, ?_⟩
  rintro i m H ⟨rfl, hi, p⟩
  have hq := hl i H p
  by_cases hlt : i < xs.length
  · have e1 : xs[i]? = some xs[i] := List.getElem?_eq_getElem hlt
    refine .inr ⟨⟨xs, _, hq, e1⟩, Pv (i + 1), fun H' z => ⟨xs.length - (i + 1), by omega, rfl, by omega, z⟩, ?_⟩
    rintro x H4 ⟨rfl, hx⟩
    exact hs i x _ (hx xs hq) p
  · obtain rfl : i = xs.length := by omega
    exact .inl ⟨⟨xs, hq, Nat.le_refl _⟩, hd _ p⟩
theorem lc_rangeN {lo : Int} {n k : Nat} {D : Addr} {H2 : Hp} {te : TE} {σ0 : St} {Q : VK} (Pv : Nat → Hp → Prop) (h0 : Pv 0 H2)
    (hs : ∀ (i : Nat) H, i < n → Pv i H → te (σ0.set k (some (.int (lo + i)))) H (fun v H7 => ∃ vs, H7 D = some (.lst vs) ∧ vs.length < sizeLine ∧ Pv (i + 1) (upd H7 D (.lst (vs ++ [v]))))) (hd : ∀ H, Pv n H → Q (.ref D) H) :
    ∃ W : Nat → Nat → Hp → Prop, (∃ m, W 0 m H2) ∧ ∀ i m H3, W i m H3 → ((Itr lo n).stop i H3 ∧ Q (.ref D) H3) ∨
      ((Itr lo n).go i H3 ∧ ∃ N : Hp → Prop, (∀ H', N H' → ∃ m', m' < m ∧ W (i + 1) m' H') ∧ ∀ x H4, (Itr lo n).yld i H3 x H4 → gName k x σ0 H4 fun σ5 H5 => tNoIf σ5 H5 fun b H6 =>
        if b = true then te σ5 H6 (fun v H7 => ∃ vs, H7 D = some (.lst vs) ∧ vs.length < sizeLine ∧ N (upd H7 D (.lst (vs ++ [v])))) else N H6) :=
  lc_range (g := gName k) (tc := tNoIf) Pv h0 (fun i H hi p => tNoIf_at (σ := σ0.set k (some (.int (lo + i)))) (A := fun H6 => te (σ0.set k (some (.int (lo + i)))) H6 _) (B := fun H6 => Pv (i + 1) H6) (hs i H hi p)) hd
end L2

namespace L2
open PySem PySem.Spec PyProof.Rows
end L2

namespace L2
open PySem PySem.Spec PyProof.Rows
end L2
namespace L2
open PySem PySem.Spec PyProof.Rows
theorem lc_rangeR {lo : Int} {n k : Nat} {D : Addr} {H2 : Hp} {te : TE} {σ0 : St} {R : Hp → Prop} (Pv : Nat → Hp → Prop) (h0 : Pv 0 H2)
    (hs : ∀ (i : Nat) H, i < n → Pv i H → te (σ0.set k (some (.int (lo + i)))) H (fun v H7 => ∃ vs, H7 D = some (.lst vs) ∧ vs.length < sizeLine ∧ Pv (i + 1) (upd H7 D (.lst (vs ++ [v]))))) (hd : ∀ H, Pv n H → R H) :
    ∃ W : Nat → Nat → Hp → Prop, (∃ m, W 0 m H2) ∧ ∀ i m H3, W i m H3 → ((Itr lo n).stop i H3 ∧ R H3) ∨
      ((Itr lo n).go i H3 ∧ ∃ N : Hp → Prop, (∀ H', N H' → ∃ m', m' < m ∧ W (i + 1) m' H') ∧ ∀ x H4, (Itr lo n).yld i H3 x H4 → gName k x σ0 H4 fun σ5 H5 => tNoIf σ5 H5 fun b H6 =>
        if b = true then te σ5 H6 (fun v H7 => ∃ vs, H7 D = some (.lst vs) ∧ vs.length < sizeLine ∧ N (upd H7 D (.lst (vs ++ [v])))) else N H6) :=
  lc_rangeN (Q := fun _ H => R H) Pv h0 hs hd
theorem lc_listX {K : PySem.W.Frag} {a : Addr} {xs : List V} {D : Addr} {H2 : Hp} {g : TG} {tc : TT} {te : TE} {σ0 : St} {R : Hp → Prop} (Pv : Nat → Hp → Prop) (h0 : Pv 0 H2) (hl : ∀ i H, Pv i H → SqL K H a xs)
    (hs : ∀ (i : Nat) x H, xs[i]? = some x → Pv i H → g x σ0 H fun σ5 H5 => tc σ5 H5 fun b H6 => if b = true then te σ5 H6 (fun v H7 => ∃ vs, H7 D = some (.lst vs) ∧ vs.length < sizeLine ∧ Pv (i + 1) (upd H7 D (.lst (vs ++ [v])))) else Pv (i + 1) H6) (hd : ∀ H, Pv xs.length H → R H) :
    ∃ W : Nat → Nat → Hp → Prop, (∃ m, W 0 m H2) ∧ ∀ i m H3, W i m H3 → ((Itl K a).stop i H3 ∧ R H3) ∨
      ((Itl K a).go i H3 ∧ ∃ N : Hp → Prop, (∀ H', N H' → ∃ m', m' < m ∧ W (i + 1) m' H') ∧ ∀ x H4, (Itl K a).yld i H3 x H4 → g x σ0 H4 fun σ5 H5 => tc σ5 H5 fun b H6 =>
        if b = true then te σ5 H6 (fun v H7 => ∃ vs, H7 D = some (.lst vs) ∧ vs.length < sizeLine ∧ N (upd H7 D (.lst (vs ++ [v])))) else N H6) :=
  lc_list (Q := fun _ H => R H) Pv h0 hl hs hd
end L2

namespace L2
open PySem PySem.Spec PyProof.Rows
def tMakeX (C : Addr) (t : TA) : TE := fun σ H Q => t σ H fun vs H1 => vs.length ≤ sizeLine ∧ ∀ ea H', H1 ea = none → Same H1 H' → H' ea = some (XN ea (.ref C) none) → Q (.ref ea) H'
section
variable {X : Cx} {C : Addr} {x : Str} {np cpos pos : Pos} {e : Expr} {es : List Expr} {t : TA}
theorem pe_makeX (hx : XCls X.K C) (hg : Gl X x) (hm : X.mg x = some (.ref C)) (hk : PySem.W.keepIn X.K (.ref C) = true)
    (ha : PA X (e :: es) t) (hdb : (x == ("__debug__" : Str)) = false := by decide) (he : starEach (e :: es) X.env = (false, eval e X.env) :: starEach es X.env := by rfl) (hpl : (backTo cpos (starEach es X.env)).any (·.1) = false := by rfl) :
    PE X (.Call (.Name x np) (e :: es) [] cpos) (tMakeX C t) := by
  intro pins s σ H Q I h
  refine wpAny_Call_Name_kw (ld_glob I hg hm ?_ hdb)
  refine PySem.W.callWith_K (h₀ := X.base) I.ok.mod.kin hk (thn (ha cpos pins s σ H _ I h) fun us s1 ⟨vs, H1, I1, r, hz, q⟩ => ⟨I1.kIn, ?_⟩) he hpl
  obtain ⟨bm, N, nm, qn, bs, hd, sn, sub, ab, col, dd, k0, k1, k2, k3, k5, lk, tl, ok, ni⟩ := xcls_at hx
  have kb := I1.kIn
  have hN : s1.heap.Ns N (s1.heap.nsMap N) := .of_isNs (PySem.W.isNs_of_in kb ok)
  have hni := PySem.W.nsMap_none_of_in kb ok ni
  obtain ⟨hp, g, d, tks, os⟩ := s1
  refine wpAny_call_exc_subU PySem.F.excBase_ValueError (by decide) PySem.F.excBase_ValueError (PySem.W.tail_of_in kb tl) (kb _ _ lk) hN hni (fun h' ea m => ?_) (by show us.length ≤ sizeLine; rw [← r.length]; exact hz)
  have yg := I1.young m.new
  have I2 : Inv X pins σ H1 ⟨h', g, d, tks, os⟩ := I1.kept (t' := tks) m.keeps
  obtain ⟨tt, m1, _, _⟩ := m.there
  have nf := I2.nofields m1 rfl
  have hn := I1.hok.free m.new
  exact ⟨.ref ea, upd H1 ea (XN ea (.ref C) none), I2.trackG hn yg nf.1 nf.2 ⟨⟨_, _, m1, by simp, rfl⟩, ⟨_, m1⟩, fun h1 h2 ⟨a, b, z1, z2⟩ kk => ⟨a, b, kk _ z1, z2⟩⟩, rfl, q ea _ hn (Same.upd hn) upd_same⟩
def rIndex : V → List V → Hp → VK → Prop := fun x vs H Q => ∃ l xs y j, x = .ref l ∧ vs = [y] ∧ H l = some (.lst xs) ∧ flatV y = true ∧ xs.all flatV = true ∧ (∃ v, xs[j]? = some v ∧ eqV v y = true) ∧ (∀ (m : Nat) v, m < j → xs[m]? = some v → eqV v y = false) ∧ Q (.int j) H
theorem mt_index : MtM X "list.index" rIndex := by
  intro pins s σ H x vs v us Q I rx rv h
  obtain ⟨l, xs, y, j, rfl, rfl, hH, fy, fs, ⟨vj, e1, e2⟩, hno, q⟩ := h
  cases rx
  obtain ⟨u, rfl, ru⟩ := rv.one
  obtain ⟨z, its, n, r, hl, e⟩ := I.lstM hH
  have hj : j < its.length := by
    rw [← r.length]
    exact (List.getElem?_eq_some_iff.mp e1).1
  rw [sizeLine_eq] at z
  have one : ∀ (m : Nat) (hm : m < its.length), ∃ w, xs[m]? = some w ∧ eqU y its[m] = eqV w y := fun m hm => by
    obtain ⟨w, w1, w2⟩ := r.atN hm
    exact ⟨w, w1, eqU_of w2 (List.all_eq_true.mp fs _ (List.mem_of_getElem? w1))⟩
  refine call_meets F.slot_list_index ⟨_, e, rfl⟩ F.entry_list_index (F.args_list_index_2 _ _) (SeqAt.list_indexAt l its.toArray n none #[] u (eqU y) j (by simpa using hj) (by omega) ?_ ?_) ⟨e, fun w hw => mem_eqAt ru fy r fs w (by simpa using hw), ⟨.int j, H, I.tok _, ⟨_, rfl⟩, q⟩⟩
  · obtain ⟨w, w1, w2⟩ := one j hj
    rw [e1] at w1
    cases w1
    exact w2.trans e2
  · intro m hm hlt
    have hm' : m < its.length := by simpa using hm
    obtain ⟨w, w1, w2⟩ := one m hm'
    exact w2.trans (hno m w hlt w1)
end
def Gv (H0 : Hp) (σ : St) (te : TE) (F : V → Hp → Prop) : Prop := ∀ H Q, Same H0 H → (∀ v H', Same H H' → F v H' → Q v H') → te σ H Q
def GvL {α : Type} (H0 : Hp) (σ : St) (ta : TA) (F : Hp → V → α → Prop) (ds : List α) : Prop := ∀ H Q, Same H0 H → (∀ vs H', Same H H' → Paired (F H') vs ds → Q vs H') → ta σ H Q
def Stay {α : Type} (F : Hp → V → α → Prop) : Prop := ∀ H H' v d, Same H H' → F H v d → F H' v d
section
variable {H0 : Hp} {σ : St}
theorem Gv.mono {te : TE} {F G : V → Hp → Prop} (h : Gv H0 σ te F) (g : ∀ v H, F v H → G v H) : Gv H0 σ te G := fun H Q z q => h H Q z fun v H' s f => q v H' s (g v H' f)
theorem GvL.nil {α : Type} {F : Hp → V → α → Prop} : GvL H0 σ tNil F [] := fun H Q _ q => q [] H (Same.refl H) .nil
theorem GvL.cons {α : Type} {te : TE} {ta : TA} {F : Hp → V → α → Prop} {d : α} {ds : List α} (st : Stay F) (h : Gv H0 σ te (fun v H => F H v d)) (g : GvL H0 σ ta F ds) : GvL H0 σ (tCons te ta) F (d :: ds) :=
  fun H Q z q => h H _ z fun v H1 s1 f => g H1 _ (z.trans s1) fun vs H2 s2 p => q (v :: vs) H2 (s1.trans s2) (.cons (st H1 H2 v d s2 f) p)
def IsV : Hp → V → V → Prop := fun _ v d => v = d
theorem isV_stay : Stay IsV := fun _ _ _ _ _ h => h
theorem isV_all : ∀ {vs ds : List V} {H : Hp}, Paired (IsV H) vs ds → vs = ds
  | _, _, _, .nil => rfl
  | _, _, _, .cons (e : _ = _) r => by rw [e, isV_all r]
theorem gv_c {v : V} : Gv H0 σ (tC v) (fun x H => IsV H x v) := fun H Q _ q => q v H (Same.refl H) rfl
theorem gv_neg {i : Int} : Gv H0 σ (tUn (rU fun i => .int (-i)) (tC (.int i))) (fun x H => IsV H x (.int (-i))) := fun H Q _ q => ⟨i, rfl, q _ H (Same.refl H) rfl⟩
theorem gv_v {i : Nat} {v : V} (h : σ[i]? = some (some v)) : Gv H0 σ (tVar i) (fun x H => IsV H x v) := fun H Q _ q => ⟨v, h, q _ H (Same.refl H) rfl⟩
theorem gv_op {g : Int → Int → V} {ta tb : TE} {i j : Int} (ha : Gv H0 σ ta (fun x H => IsV H x (.int i))) (hb : Gv H0 σ tb (fun x H => IsV H x (.int j))) : Gv H0 σ (tOp (rI0 g) ta tb) (fun x H => IsV H x (g i j)) :=
  fun H Q z q => ha H _ z fun v H1 s1 e1 => hb H1 _ (z.trans s1) fun v2 H2 s2 e2 => ⟨i, j, e1, e2, q _ H2 (s1.trans s2) rfl⟩
theorem gv_lst {α : Type} {ta : TA} {F : Hp → V → α → Prop} {ds : List α} (g : GvL H0 σ ta F ds) (st : Stay F) (hl : ds.length ≤ sizeLine) : Gv H0 σ (tLstN ta) (fun v H => ∃ p vs, v = .ref p ∧ H p = some (.lst vs) ∧ Paired (F H) vs ds) :=
  fun H Q z q => g H _ z fun vs H1 s1 p => ⟨by rw [p.len]; exact hl, fun a H2 n s2 e => q _ H2 (s1.trans s2) ⟨a, vs, rfl, e, Paired.mapP p fun v d f => st _ _ _ _ s2 f⟩⟩
theorem gv_tup {α : Type} {ta : TA} {F : Hp → V → α → Prop} {ds : List α} (g : GvL H0 σ ta F ds) (st : Stay F) (hl : ds.length ≤ sizeLine) : Gv H0 σ (tTupN ta) (fun v H => ∃ p vs, v = .ref p ∧ H p = some (.tup vs) ∧ Paired (F H) vs ds) :=
  fun H Q z q => g H _ z fun vs H1 s1 p => ⟨by rw [p.len]; exact hl, fun a H2 n s2 e => q _ H2 (s1.trans s2) ⟨a, vs, rfl, e, Paired.mapP p fun v d f => st _ _ _ _ s2 f⟩⟩
theorem pair_stay : Stay pairAt := fun _ _ _ _ s h => h.same s
theorem gv_pair {te tf : TE} {a b : V} (h : Gv H0 σ te (fun v H => IsV H v a)) (g : Gv H0 σ tf (fun v H => IsV H v b)) (ka : ∀ H, Knd H a) (kb : ∀ H, Knd H b) : Gv H0 σ (tTupN (tCons te (tCons tf tNil))) (fun v H => pairAt H v (a, b)) :=
  (gv_tup (F := IsV) (ds := [a, b]) (.cons isV_stay h (.cons isV_stay g .nil)) isV_stay (show 2 ≤ sizeLine by decide)).mono fun v H ⟨p, vs, e1, e2, e3⟩ => ⟨p, e1, by rw [isV_all e3] at e2; exact e2, ka H, kb H⟩
def RowAt (H : Hp) (v : V) (r : V × V × V × List (V × V)) : Prop := ∃ p q xs, v = .ref p ∧ H p = some (.tup [r.1, r.2.1, r.2.2.1, .ref q]) ∧ (H q = some (.lst xs) ∨ H q = some (.tup xs)) ∧ Paired (pairAt H) xs r.2.2.2
theorem row_stay : Stay RowAt := fun _ _ _ _ s ⟨p, q, xs, e1, e2, e3, e4⟩ => ⟨p, q, xs, e1, s _ _ e2, e3.imp (s _ _) (s _ _), Paired.mapP e4 fun _ _ z => z.same s⟩
theorem gv_row {te tf tg th : TE} {a b c : V} {ds : List (V × V)} (h : Gv H0 σ te (fun v H => IsV H v a)) (g : Gv H0 σ tf (fun v H => IsV H v b)) (k : Gv H0 σ tg (fun v H => IsV H v c))
    (l : Gv H0 σ th (fun v H => ∃ q xs, v = .ref q ∧ (H q = some (.lst xs) ∨ H q = some (.tup xs)) ∧ Paired (pairAt H) xs ds)) : Gv H0 σ (tTupN (tCons te (tCons tf (tCons tg (tCons th tNil))))) (fun v H => RowAt H v (a, b, c, ds)) :=
  fun H Q z q => h H _ z fun v1 H1 s1 e1 => g H1 _ (z.trans s1) fun v2 H2 s2 e2 => k H2 _ ((z.trans s1).trans s2) fun v3 H3 s3 e3 => l H3 _ (((z.trans s1).trans s2).trans s3) fun v4 H4 s4 ⟨y, xs, e4, e5, e6⟩ => ⟨show 4 ≤ sizeLine by decide, fun p H5 n s5 e => q _ H5 (s1.trans (s2.trans (s3.trans (s4.trans s5)))) ⟨p, y, xs, rfl, by
    cases e1; cases e2; cases e3; cases e4; exact e, e5.imp (s5 _ _) (s5 _ _), Paired.mapP e6 fun _ _ z => z.same s5⟩⟩
theorem gv_il {ta : TA} {ds : List (V × V)} (g : GvL H0 σ ta pairAt ds) (hl : ds.length ≤ sizeLine) : Gv H0 σ (tLstN ta) (fun v H => ∃ q xs, v = .ref q ∧ (H q = some (.lst xs) ∨ H q = some (.tup xs)) ∧ Paired (pairAt H) xs ds) :=
  (gv_lst g pair_stay hl).mono fun v H ⟨p, vs, e1, e2, e3⟩ => ⟨p, vs, e1, .inl e2, e3⟩
theorem gv_it {ta : TA} {ds : List (V × V)} (g : GvL H0 σ ta pairAt ds) (hl : ds.length ≤ sizeLine) : Gv H0 σ (tTupN ta) (fun v H => ∃ q xs, v = .ref q ∧ (H q = some (.lst xs) ∨ H q = some (.tup xs)) ∧ Paired (pairAt H) xs ds) :=
  (gv_tup g pair_stay hl).mono fun v H ⟨p, vs, e1, e2, e3⟩ => ⟨p, vs, e1, .inr e2, e3⟩
def ExF (H : Hp) (v : V) (d : Addr × Option (Str × Int)) : Prop := ∃ ea od, v = .ref ea ∧ XAny H ea (.ref d.1) od ∧ (match d.2 with | none => od = none | some z => ∃ dx, od = some dx ∧ H dx = some (.xd [(z.1, .int z.2)]))
theorem XAny.same {H H' : Hp} {ea : Addr} {C : Value} {od : Option Addr} (s : Same H H') (h : XAny H ea C od) : XAny H' ea C od := h.imp (s _ _) (s _ _)
theorem ex_stay : Stay ExF := fun _ _ _ d s ⟨ea, od, e1, e2, e3⟩ => ⟨ea, od, e1, e2.same s, by
  obtain ⟨C, z⟩ := d
  cases z with
  | none => exact e3
  | some z => obtain ⟨dx, z1, z2⟩ := e3; exact ⟨dx, z1, s _ _ z2⟩⟩
theorem gv_makeX {C : Addr} {x : Str} : Gv H0 σ (tMakeX C (tCons (tC (.str x)) tNil)) (fun v H => ExF H v (C, none)) :=
  fun H Q z q => ⟨show 1 ≤ sizeLine by decide, fun ea H' n s e => q _ H' s ⟨ea, none, rfl, .inr e, rfl⟩⟩
theorem gv_makeI {K : PySem.W.Frag} {C fI : Addr} {f : Str} {i : Int} {ES : St → XK} (h1 : xinI K C fI = true) (h2 : XAt K C) (h3 : NoAttr K C f) (h4 : i.natAbs < 10 ^ 20) : Gv H0 σ (tMakeI C (spBF K C fI f) [] ES (tCons (tC (.int i)) tNil)) (fun v H => ExF H v (C, some (f, i))) :=
  fun H Q z q => ⟨show 1 ≤ sizeLine by decide, fun ea n => ⟨ea, i, rfl, h1, h2, h3, h4, upd_same, fun dx nd ne => ⟨rfl, by
    have nd' : H dx = none := by rw [upd_ne ne] at nd; exact nd
    refine q _ _ (fun b o e => ?_) ⟨ea, some dx, rfl, .inr (by rw [upd_ne (Ne.symm ne)]; exact upd_same), dx, rfl, upd_same⟩
    have b1 : b ≠ ea := ne_of_none e n
    have b2 : b ≠ dx := ne_of_none e nd'
    rw [upd_ne b2, upd_ne b1, upd_ne b1]
    exact e⟩⟩⟩
theorem cat_paired {α β : Type} {F : α → β → Prop} : ∀ {a : List α} {b : List β} {c : List α} {d : List β}, Paired F a b → Paired F c d → Paired F (a ++ c) (b ++ d)
  | _, _, _, _, .nil, h => h
  | _, _, _, _, .cons x r, h => .cons x (cat_paired r h)
theorem gv_cat {α : Type} {ta : TA} {F : Hp → V → α → Prop} {es ds : List α} {i : Nat} {l : Addr} {H : Hp} {xs : List V} {Q : VK} (st : Stay F) (g : GvL H σ ta F ds) (hv : σ[i]? = some (some (.ref l))) (hl : H l = some (.lst xs)) (hp : Paired (F H) xs es) (hs : es.length + ds.length ≤ sizeLine) (hd : ds.length ≤ sizeLine)
    (q : ∀ p H' ys, Same H H' → H' p = some (.lst ys) → Paired (F H') ys (es ++ ds) → Q (.ref p) H') : tOp rCatN (tVar i) (tLstN ta) σ H Q := by
  refine ⟨_, hv, gv_lst g st hd H _ (Same.refl H) fun v H1 s1 ⟨p, vs, e1, e2, e3⟩ => ?_⟩
  subst e1
  refine ⟨l, p, xs, vs, rfl, rfl, s1 _ _ hl, e2, by rw [hp.len, e3.len]; exact hs, fun a H2 n s2 e => q a H2 _ (s1.trans s2) e ?_⟩
  have a1 : Paired (F H2) xs es := Paired.mapP hp fun v d f => st _ _ _ _ (s1.trans s2) f
  have a2 : Paired (F H2) vs ds := Paired.mapP e3 fun v d f => st _ _ _ _ s2 f
  exact cat_paired a1 a2
end
end L2
namespace L2
open PySem
theorem swap_lst {es : List Expr} {p : Pos} {tg : Option Expr} {n : Nat} {env : Env} : swapsWith (.List es p) tg n env = pure false := rfl
theorem swap_op {a b : Expr} {o : Operator} {p : Pos} {tg : Option Expr} {n : Nat} {env : Env} : swapsWith (.BinOp a o b p) tg n env = pure false := rfl
theorem ix_tupT {X : Cx} {K : PySem.W.Frag} (e : X.K = K) : IxR X (rIxT K) := by
  subst e
  exact ix_tup
end L2
namespace L2
open PySem PySem.Spec PyProof.Rows
structure PEw (X : Cx) (e : Expr) (t : TE) : Prop where
  h : PE X e t
structure PAw (X : Cx) (es : List Expr) (t : TA) : Prop where
  h : PA X es t
structure PSw (X : Cx) (st : Stmt) (t : TS) : Prop where
  h : PS X st t
structure PBw (X : Cx) (st : List Stmt) (t : TS) : Prop where
  h : PSs X st t
section
variable {X : Cx} {st : Stmt} {rest : List Stmt} {t u : TS}
theorem fin_w {b : List Stmt} {D : Ends} {σ : St} {H : Hp} : (∃ t, PBw X b t ∧ t D σ H) → ∃ t, PSs X b t ∧ t D σ H := fun ⟨t, p, q⟩ => ⟨t, p.h, q⟩
theorem pss_consW (h1 : PSw X st t) (h2 : PBw X rest u) : PBw X (st :: rest) (tSeq t u) := ⟨pss_cons h1.h h2.h⟩
theorem ps_setW {i : Nat} {x : Str} {e : Expr} {te : TE} {pos pos' : Pos} (hN : X.N.Nodup) (hi : X.N[i]? = some x) (hx : Loc X.env.scope x) (he : PEw X e te) (hs : swapsWith e (some (.Name x pos')) pos.line X.env = pure false) (hf : X.fn x = true ∨ X.env.scope.names.lookup x = some .local := by first | exact .inl rfl | exact .inr rfl | assumption) :
    PSw X (.Assign [.Name x pos'] e pos) (tAsg te (gName i)) := ⟨ps_set hN hi hx he.h hs hf⟩
theorem pe_intW {i j pos} : PEw X (.Constant (.int i) j pos) (tC (.int i)) := ⟨pe_int⟩
theorem pe_blW {b j pos} : PEw X (.Constant (.bool b) j pos) (tC (.bl b)) := ⟨pe_bl⟩
theorem pe_nonW {j pos} : PEw X (.Constant .none j pos) (tC .non) := ⟨pe_non⟩
theorem pe_strW {x j pos} : PEw X (.Constant (.str x) j pos) (tC (.str x)) := ⟨pe_str⟩
theorem pvW (i : Nat) {x : Str} {pos : Pos} (hN : X.N[i]? = some x := by rfl) (hv : Vis X.env.scope x := by first | exact Or.inl rfl | exact Or.inr (Or.inl rfl) | exact Or.inr (Or.inr rfl)) (hd : (x == ("__debug__" : Str)) = false := by decide)
    (hcd : (x == ("__classdict__" : Str)) = false := by decide) : PEw X (.Name x pos) (tVar i) := ⟨pv i hN hv hd hcd⟩
theorem pe_opW {op : Operator} {r : R2} {a b : Expr} {ta tb : TE} {pos : Pos} (ho : OpR X (binaryOp op) r) (ha : PEw X a ta) (hb : PEw X b tb) : PEw X (.BinOp a op b pos) (tOp r ta tb) := ⟨pe_op ho ha.h hb.h⟩
theorem pe_unW {op : UnaryOp} {r : V → Hp → VK → Prop} {a : Expr} {ta : TE} {pos : Pos} (ho : UnR X (unaryOp op) r) (ha : PEw X a ta) : PEw X (.UnaryOp op a pos) (tUn r ta) := ⟨pe_un ho ha.h⟩
theorem pa_nilW : PAw X [] tNil := ⟨pa_nil⟩
theorem pa_consW {e : Expr} {es : List Expr} {te : TE} {t : TA} (ha : PEw X e te) (hr : PAw X es t) (hs : starEach (e :: es) X.env = (false, eval e X.env) :: starEach es X.env := by rfl) : PAw X (e :: es) (tCons te t) := ⟨pa_cons ha.h hr.h hs⟩
theorem pe_tupNW {es : List Expr} {t : TA} {x1} {pos : Pos} (h : PAw X es t) : PEw X (.Tuple es x1 pos) (tTupN t) := ⟨pe_tupN h.h⟩
theorem pe_lstNW {es : List Expr} {t : TA} {pos : Pos} (h : PAw X es t) : PEw X (.List es pos) (tLstN t) := ⟨pe_lstN h.h⟩
end
end L2

namespace W1
open PySem L2
def top (i : Nat) : Stmt := PySem.Challenge.pw_wornpages_k07_refusals.main.body.getD i (.Pass ⟨0, 0, 0, 0⟩)
abbrev s_BlockFailed_init : Stmt := (inClass (top 6) 0)
abbrev s_NotClear_init : Stmt := (inClass (top 7) 0)
abbrev s_is_whole : Stmt := (top 20)
abbrev s_is_within : Stmt := (top 21)
abbrev s_is_shape : Stmt := (top 22)
abbrev s_limits_of : Stmt := (top 24)
abbrev s_Chip_init : Stmt := (inClass (top 25) 0)
abbrev s_Chip_put : Stmt := (inClass (top 25) 1)
abbrev s_Chip_wipe : Stmt := (inClass (top 25) 2)
abbrev s_Chip_read : Stmt := (inClass (top 25) 3)
abbrev s_Chip_cut_after : Stmt := (inClass (top 25) 4)
abbrev s_Chip_is_dark : Stmt := (inClass (top 25) 6)
abbrev s_Chip_cleared : Stmt := (inClass (top 25) 7)
abbrev s_Chip_failed : Stmt := (inClass (top 25) 8)
abbrev s_Chip_deeds : Stmt := (inClass (top 25) 9)
abbrev s_Chip_check_page : Stmt := (inClass (top 25) 10)
abbrev s_Chip_check_block : Stmt := (inClass (top 25) 11)
abbrev s_Chip_check_power : Stmt := (inClass (top 25) 12)
abbrev s_Chip_check_deed : Stmt := (inClass (top 25) 13)
abbrev s_Chip_is_spent : Stmt := (inClass (top 25) 14)
abbrev s_Chip_do_deed : Stmt := (inClass (top 25) 15)
abbrev s_law_cell_at : Stmt := (top 27)
abbrev s_law_all : Stmt := (top 28)
abbrev s_law_of : Stmt := (top 29)
abbrev s_law_classes : Stmt := (top 30)
abbrev s_law_asked : Stmt := (top 31)
abbrev s_law_due : Stmt := (top 32)
abbrev s_law_no_chip : Stmt := (top 33)
abbrev s_law : Stmt := (top 34)
structure Adr where
  f_BlockFailed_init : Addr
  f_NotClear_init : Addr
  f_is_whole : Addr
  f_is_within : Addr
  f_is_shape : Addr
  f_limits_of : Addr
  f_Chip_init : Addr
  f_Chip_put : Addr
  f_Chip_wipe : Addr
  f_Chip_read : Addr
  f_Chip_cut_after : Addr
  f_Chip_is_dark : Addr
  f_Chip_cleared : Addr
  f_Chip_failed : Addr
  f_Chip_deeds : Addr
  f_Chip_check_page : Addr
  f_Chip_check_block : Addr
  f_Chip_check_power : Addr
  f_Chip_check_deed : Addr
  f_Chip_is_spent : Addr
  f_Chip_do_deed : Addr
  f_law_cell_at : Addr
  f_law_all : Addr
  f_law_of : Addr
  f_law_classes : Addr
  f_law_asked : Addr
  f_law_due : Addr
  f_law_no_chip : Addr
  f_law : Addr
  C_Chip : Addr
  C_WornError : Addr
  C_NoChip : Addr
  C_NoPlace : Addr
  C_PowerGone : Addr
  C_BlockFailed : Addr
  C_NotClear : Addr
  C_NoTerms : Addr
  C_NoSheet : Addr
  C_NoValue : Addr
  C_Full : Addr
  C_NoRoom : Addr
  C_WornOut : Addr
  C_NoRule : Addr
  C_NoRace : Addr
  C_NoPart : Addr
  C_NoRow : Addr
  tk_MOST_TOLD : Tok
structure Txt (K : PySem.W.Frag) (mg : Str → Option Value) (t : Adr) : Prop where
  mg_Chip : mg "Chip" = some (.ref t.C_Chip)
  cl_Chip : Cls K t.C_Chip
  kp_Chip : PySem.W.keepIn K (.ref t.C_Chip) = true
  na_Chip_blocks : NoAttr K t.C_Chip "blocks"
  na_Chip_pages : NoAttr K t.C_Chip "pages"
  na_Chip_most : NoAttr K t.C_Chip "most"
  na_Chip_limits : NoAttr K t.C_Chip "limits"
  na_Chip_borne : NoAttr K t.C_Chip "borne"
  na_Chip_clearings : NoAttr K t.C_Chip "clearings"
  na_Chip_deed_counts : NoAttr K t.C_Chip "deed_counts"
  na_Chip_broken : NoAttr K t.C_Chip "broken"
  na_Chip_deeds_left : NoAttr K t.C_Chip "deeds_left"
  na_Chip_record : NoAttr K t.C_Chip "record"
  m_Chip_init : Meth K t.C_Chip "__init__" t.f_Chip_init
  m_Chip_put : Meth K t.C_Chip "put" t.f_Chip_put
  m_Chip_wipe : Meth K t.C_Chip "wipe" t.f_Chip_wipe
  m_Chip_read : Meth K t.C_Chip "read" t.f_Chip_read
  m_Chip_cut_after : Meth K t.C_Chip "cut_after" t.f_Chip_cut_after
  m_Chip_is_dark : Meth K t.C_Chip "is_dark" t.f_Chip_is_dark
  m_Chip_cleared : Meth K t.C_Chip "cleared" t.f_Chip_cleared
  m_Chip_failed : Meth K t.C_Chip "failed" t.f_Chip_failed
  m_Chip_deeds : Meth K t.C_Chip "deeds" t.f_Chip_deeds
  m_Chip_check_page : Meth K t.C_Chip "check_page" t.f_Chip_check_page
  m_Chip_check_block : Meth K t.C_Chip "check_block" t.f_Chip_check_block
  m_Chip_check_power : Meth K t.C_Chip "check_power" t.f_Chip_check_power
  m_Chip_check_deed : Meth K t.C_Chip "check_deed" t.f_Chip_check_deed
  m_Chip_is_spent : Meth K t.C_Chip "is_spent" t.f_Chip_is_spent
  m_Chip_do_deed : Meth K t.C_Chip "do_deed" t.f_Chip_do_deed
  mk_Chip : Mk K t.C_Chip t.f_Chip_init
  mg_WornError : mg "WornError" = some (.ref t.C_WornError)
  kp_WornError : PySem.W.keepIn K (.ref t.C_WornError) = true
  xr_WornError : XRd K t.C_WornError
  x_WornError : XCls K t.C_WornError
  mg_NoChip : mg "NoChip" = some (.ref t.C_NoChip)
  kp_NoChip : PySem.W.keepIn K (.ref t.C_NoChip) = true
  xr_NoChip : XRd K t.C_NoChip
  x_NoChip : XCls K t.C_NoChip
  mg_NoPlace : mg "NoPlace" = some (.ref t.C_NoPlace)
  kp_NoPlace : PySem.W.keepIn K (.ref t.C_NoPlace) = true
  xr_NoPlace : XRd K t.C_NoPlace
  x_NoPlace : XCls K t.C_NoPlace
  mg_PowerGone : mg "PowerGone" = some (.ref t.C_PowerGone)
  kp_PowerGone : PySem.W.keepIn K (.ref t.C_PowerGone) = true
  xr_PowerGone : XRd K t.C_PowerGone
  x_PowerGone : XCls K t.C_PowerGone
  mg_BlockFailed : mg "BlockFailed" = some (.ref t.C_BlockFailed)
  kp_BlockFailed : PySem.W.keepIn K (.ref t.C_BlockFailed) = true
  xr_BlockFailed : XRd K t.C_BlockFailed
  xa_BlockFailed : XAt K t.C_BlockFailed
  xi_BlockFailed : xinI K t.C_BlockFailed t.f_BlockFailed_init = true
  na_BlockFailed_block : NoAttr K t.C_BlockFailed "block"
  mg_NotClear : mg "NotClear" = some (.ref t.C_NotClear)
  kp_NotClear : PySem.W.keepIn K (.ref t.C_NotClear) = true
  xr_NotClear : XRd K t.C_NotClear
  xa_NotClear : XAt K t.C_NotClear
  xi_NotClear : xinI K t.C_NotClear t.f_NotClear_init = true
  na_NotClear_page : NoAttr K t.C_NotClear "page"
  mg_NoTerms : mg "NoTerms" = some (.ref t.C_NoTerms)
  kp_NoTerms : PySem.W.keepIn K (.ref t.C_NoTerms) = true
  xr_NoTerms : XRd K t.C_NoTerms
  x_NoTerms : XCls K t.C_NoTerms
  mg_NoSheet : mg "NoSheet" = some (.ref t.C_NoSheet)
  kp_NoSheet : PySem.W.keepIn K (.ref t.C_NoSheet) = true
  xr_NoSheet : XRd K t.C_NoSheet
  x_NoSheet : XCls K t.C_NoSheet
  mg_NoValue : mg "NoValue" = some (.ref t.C_NoValue)
  kp_NoValue : PySem.W.keepIn K (.ref t.C_NoValue) = true
  xr_NoValue : XRd K t.C_NoValue
  x_NoValue : XCls K t.C_NoValue
  mg_Full : mg "Full" = some (.ref t.C_Full)
  kp_Full : PySem.W.keepIn K (.ref t.C_Full) = true
  xr_Full : XRd K t.C_Full
  x_Full : XCls K t.C_Full
  mg_NoRoom : mg "NoRoom" = some (.ref t.C_NoRoom)
  kp_NoRoom : PySem.W.keepIn K (.ref t.C_NoRoom) = true
  xr_NoRoom : XRd K t.C_NoRoom
  x_NoRoom : XCls K t.C_NoRoom
  mg_WornOut : mg "WornOut" = some (.ref t.C_WornOut)
  kp_WornOut : PySem.W.keepIn K (.ref t.C_WornOut) = true
  xr_WornOut : XRd K t.C_WornOut
  x_WornOut : XCls K t.C_WornOut
  mg_NoRule : mg "NoRule" = some (.ref t.C_NoRule)
  kp_NoRule : PySem.W.keepIn K (.ref t.C_NoRule) = true
  xr_NoRule : XRd K t.C_NoRule
  x_NoRule : XCls K t.C_NoRule
  mg_NoRace : mg "NoRace" = some (.ref t.C_NoRace)
  kp_NoRace : PySem.W.keepIn K (.ref t.C_NoRace) = true
  xr_NoRace : XRd K t.C_NoRace
  x_NoRace : XCls K t.C_NoRace
  mg_NoPart : mg "NoPart" = some (.ref t.C_NoPart)
  kp_NoPart : PySem.W.keepIn K (.ref t.C_NoPart) = true
  xr_NoPart : XRd K t.C_NoPart
  x_NoPart : XCls K t.C_NoPart
  mg_NoRow : mg "NoRow" = some (.ref t.C_NoRow)
  kp_NoRow : PySem.W.keepIn K (.ref t.C_NoRow) = true
  xr_NoRow : XRd K t.C_NoRow
  x_NoRow : XCls K t.C_NoRow
  bi_WornError : BIni K t.C_WornError
  xm_WornError_NoChip : PySem.W.exmOne K (.ref t.C_WornError) (.ref t.C_NoChip) = some false
  xm_WornError_WornError : PySem.W.exmOne K (.ref t.C_WornError) (.ref t.C_WornError) = some true
  xm_NoChip_NoChip : PySem.W.exmOne K (.ref t.C_NoChip) (.ref t.C_NoChip) = some true
  xm_NoChip_WornError : PySem.W.exmOne K (.ref t.C_NoChip) (.ref t.C_WornError) = some true
  xm_NoPlace_NoChip : PySem.W.exmOne K (.ref t.C_NoPlace) (.ref t.C_NoChip) = some false
  xm_NoPlace_WornError : PySem.W.exmOne K (.ref t.C_NoPlace) (.ref t.C_WornError) = some true
  xm_PowerGone_NoChip : PySem.W.exmOne K (.ref t.C_PowerGone) (.ref t.C_NoChip) = some false
  xm_PowerGone_WornError : PySem.W.exmOne K (.ref t.C_PowerGone) (.ref t.C_WornError) = some true
  xm_BlockFailed_NoChip : PySem.W.exmOne K (.ref t.C_BlockFailed) (.ref t.C_NoChip) = some false
  xm_BlockFailed_WornError : PySem.W.exmOne K (.ref t.C_BlockFailed) (.ref t.C_WornError) = some true
  xm_NotClear_NoChip : PySem.W.exmOne K (.ref t.C_NotClear) (.ref t.C_NoChip) = some false
  xm_NotClear_WornError : PySem.W.exmOne K (.ref t.C_NotClear) (.ref t.C_WornError) = some true
  xm_NoTerms_NoChip : PySem.W.exmOne K (.ref t.C_NoTerms) (.ref t.C_NoChip) = some false
  xm_NoTerms_WornError : PySem.W.exmOne K (.ref t.C_NoTerms) (.ref t.C_WornError) = some true
  xm_NoSheet_NoChip : PySem.W.exmOne K (.ref t.C_NoSheet) (.ref t.C_NoChip) = some false
  xm_NoSheet_WornError : PySem.W.exmOne K (.ref t.C_NoSheet) (.ref t.C_WornError) = some true
  xm_NoValue_NoChip : PySem.W.exmOne K (.ref t.C_NoValue) (.ref t.C_NoChip) = some false
  xm_NoValue_WornError : PySem.W.exmOne K (.ref t.C_NoValue) (.ref t.C_WornError) = some true
  xm_Full_NoChip : PySem.W.exmOne K (.ref t.C_Full) (.ref t.C_NoChip) = some false
  xm_Full_WornError : PySem.W.exmOne K (.ref t.C_Full) (.ref t.C_WornError) = some true
  xm_NoRoom_NoChip : PySem.W.exmOne K (.ref t.C_NoRoom) (.ref t.C_NoChip) = some false
  xm_NoRoom_WornError : PySem.W.exmOne K (.ref t.C_NoRoom) (.ref t.C_WornError) = some true
  xm_WornOut_NoChip : PySem.W.exmOne K (.ref t.C_WornOut) (.ref t.C_NoChip) = some false
  xm_WornOut_WornError : PySem.W.exmOne K (.ref t.C_WornOut) (.ref t.C_WornError) = some true
  xm_NoRule_NoChip : PySem.W.exmOne K (.ref t.C_NoRule) (.ref t.C_NoChip) = some false
  xm_NoRule_WornError : PySem.W.exmOne K (.ref t.C_NoRule) (.ref t.C_WornError) = some true
  xm_NoRace_NoChip : PySem.W.exmOne K (.ref t.C_NoRace) (.ref t.C_NoChip) = some false
  xm_NoRace_WornError : PySem.W.exmOne K (.ref t.C_NoRace) (.ref t.C_WornError) = some true
  xm_NoPart_NoChip : PySem.W.exmOne K (.ref t.C_NoPart) (.ref t.C_NoChip) = some false
  xm_NoPart_WornError : PySem.W.exmOne K (.ref t.C_NoPart) (.ref t.C_WornError) = some true
  xm_NoRow_NoChip : PySem.W.exmOne K (.ref t.C_NoRow) (.ref t.C_NoChip) = some false
  xm_NoRow_WornError : PySem.W.exmOne K (.ref t.C_NoRow) (.ref t.C_WornError) = some true
  xk_WornError_BlockFailed : PySem.W.kitOne K (.ref t.C_WornError) (.ref t.C_BlockFailed) = some false
  xk_WornError_Full : PySem.W.kitOne K (.ref t.C_WornError) (.ref t.C_Full) = some false
  xk_WornError_NoChip : PySem.W.kitOne K (.ref t.C_WornError) (.ref t.C_NoChip) = some false
  xk_WornError_NoPart : PySem.W.kitOne K (.ref t.C_WornError) (.ref t.C_NoPart) = some false
  xk_WornError_NoPlace : PySem.W.kitOne K (.ref t.C_WornError) (.ref t.C_NoPlace) = some false
  xk_WornError_NoRace : PySem.W.kitOne K (.ref t.C_WornError) (.ref t.C_NoRace) = some false
  xk_WornError_NoRoom : PySem.W.kitOne K (.ref t.C_WornError) (.ref t.C_NoRoom) = some false
  xk_WornError_NoRow : PySem.W.kitOne K (.ref t.C_WornError) (.ref t.C_NoRow) = some false
  xk_WornError_NoRule : PySem.W.kitOne K (.ref t.C_WornError) (.ref t.C_NoRule) = some false
  xk_WornError_NoSheet : PySem.W.kitOne K (.ref t.C_WornError) (.ref t.C_NoSheet) = some false
  xk_WornError_NoTerms : PySem.W.kitOne K (.ref t.C_WornError) (.ref t.C_NoTerms) = some false
  xk_WornError_NoValue : PySem.W.kitOne K (.ref t.C_WornError) (.ref t.C_NoValue) = some false
  xk_WornError_NotClear : PySem.W.kitOne K (.ref t.C_WornError) (.ref t.C_NotClear) = some false
  xk_WornError_PowerGone : PySem.W.kitOne K (.ref t.C_WornError) (.ref t.C_PowerGone) = some false
  xk_WornError_ValueError : PySem.W.kitOne K (.ref t.C_WornError) (.type "ValueError") = some true
  xk_WornError_WornError : PySem.W.kitOne K (.ref t.C_WornError) (.ref t.C_WornError) = some true
  xk_WornError_WornOut : PySem.W.kitOne K (.ref t.C_WornError) (.ref t.C_WornOut) = some false
  xk_NoChip_BlockFailed : PySem.W.kitOne K (.ref t.C_NoChip) (.ref t.C_BlockFailed) = some false
  xk_NoChip_Full : PySem.W.kitOne K (.ref t.C_NoChip) (.ref t.C_Full) = some false
  xk_NoChip_NoChip : PySem.W.kitOne K (.ref t.C_NoChip) (.ref t.C_NoChip) = some true
  xk_NoChip_NoPart : PySem.W.kitOne K (.ref t.C_NoChip) (.ref t.C_NoPart) = some false
  xk_NoChip_NoPlace : PySem.W.kitOne K (.ref t.C_NoChip) (.ref t.C_NoPlace) = some false
  xk_NoChip_NoRace : PySem.W.kitOne K (.ref t.C_NoChip) (.ref t.C_NoRace) = some false
  xk_NoChip_NoRoom : PySem.W.kitOne K (.ref t.C_NoChip) (.ref t.C_NoRoom) = some false
  xk_NoChip_NoRow : PySem.W.kitOne K (.ref t.C_NoChip) (.ref t.C_NoRow) = some false
  xk_NoChip_NoRule : PySem.W.kitOne K (.ref t.C_NoChip) (.ref t.C_NoRule) = some false
  xk_NoChip_NoSheet : PySem.W.kitOne K (.ref t.C_NoChip) (.ref t.C_NoSheet) = some false
  xk_NoChip_NoTerms : PySem.W.kitOne K (.ref t.C_NoChip) (.ref t.C_NoTerms) = some false
  xk_NoChip_NoValue : PySem.W.kitOne K (.ref t.C_NoChip) (.ref t.C_NoValue) = some false
  xk_NoChip_NotClear : PySem.W.kitOne K (.ref t.C_NoChip) (.ref t.C_NotClear) = some false
  xk_NoChip_PowerGone : PySem.W.kitOne K (.ref t.C_NoChip) (.ref t.C_PowerGone) = some false
  xk_NoChip_ValueError : PySem.W.kitOne K (.ref t.C_NoChip) (.type "ValueError") = some true
  xk_NoChip_WornError : PySem.W.kitOne K (.ref t.C_NoChip) (.ref t.C_WornError) = some true
  xk_NoChip_WornOut : PySem.W.kitOne K (.ref t.C_NoChip) (.ref t.C_WornOut) = some false
  xk_NoPlace_BlockFailed : PySem.W.kitOne K (.ref t.C_NoPlace) (.ref t.C_BlockFailed) = some false
  xk_NoPlace_Full : PySem.W.kitOne K (.ref t.C_NoPlace) (.ref t.C_Full) = some false
  xk_NoPlace_NoChip : PySem.W.kitOne K (.ref t.C_NoPlace) (.ref t.C_NoChip) = some false
  xk_NoPlace_NoPart : PySem.W.kitOne K (.ref t.C_NoPlace) (.ref t.C_NoPart) = some false
  xk_NoPlace_NoPlace : PySem.W.kitOne K (.ref t.C_NoPlace) (.ref t.C_NoPlace) = some true
  xk_NoPlace_NoRace : PySem.W.kitOne K (.ref t.C_NoPlace) (.ref t.C_NoRace) = some false
  xk_NoPlace_NoRoom : PySem.W.kitOne K (.ref t.C_NoPlace) (.ref t.C_NoRoom) = some false
  xk_NoPlace_NoRow : PySem.W.kitOne K (.ref t.C_NoPlace) (.ref t.C_NoRow) = some false
  xk_NoPlace_NoRule : PySem.W.kitOne K (.ref t.C_NoPlace) (.ref t.C_NoRule) = some false
  xk_NoPlace_NoSheet : PySem.W.kitOne K (.ref t.C_NoPlace) (.ref t.C_NoSheet) = some false
  xk_NoPlace_NoTerms : PySem.W.kitOne K (.ref t.C_NoPlace) (.ref t.C_NoTerms) = some false
  xk_NoPlace_NoValue : PySem.W.kitOne K (.ref t.C_NoPlace) (.ref t.C_NoValue) = some false
  xk_NoPlace_NotClear : PySem.W.kitOne K (.ref t.C_NoPlace) (.ref t.C_NotClear) = some false
  xk_NoPlace_PowerGone : PySem.W.kitOne K (.ref t.C_NoPlace) (.ref t.C_PowerGone) = some false
  xk_NoPlace_ValueError : PySem.W.kitOne K (.ref t.C_NoPlace) (.type "ValueError") = some true
  xk_NoPlace_WornError : PySem.W.kitOne K (.ref t.C_NoPlace) (.ref t.C_WornError) = some true
  xk_NoPlace_WornOut : PySem.W.kitOne K (.ref t.C_NoPlace) (.ref t.C_WornOut) = some false
  xk_PowerGone_BlockFailed : PySem.W.kitOne K (.ref t.C_PowerGone) (.ref t.C_BlockFailed) = some false
  xk_PowerGone_Full : PySem.W.kitOne K (.ref t.C_PowerGone) (.ref t.C_Full) = some false
  xk_PowerGone_NoChip : PySem.W.kitOne K (.ref t.C_PowerGone) (.ref t.C_NoChip) = some false
  xk_PowerGone_NoPart : PySem.W.kitOne K (.ref t.C_PowerGone) (.ref t.C_NoPart) = some false
  xk_PowerGone_NoPlace : PySem.W.kitOne K (.ref t.C_PowerGone) (.ref t.C_NoPlace) = some false
  xk_PowerGone_NoRace : PySem.W.kitOne K (.ref t.C_PowerGone) (.ref t.C_NoRace) = some false
  xk_PowerGone_NoRoom : PySem.W.kitOne K (.ref t.C_PowerGone) (.ref t.C_NoRoom) = some false
  xk_PowerGone_NoRow : PySem.W.kitOne K (.ref t.C_PowerGone) (.ref t.C_NoRow) = some false
  xk_PowerGone_NoRule : PySem.W.kitOne K (.ref t.C_PowerGone) (.ref t.C_NoRule) = some false
  xk_PowerGone_NoSheet : PySem.W.kitOne K (.ref t.C_PowerGone) (.ref t.C_NoSheet) = some false
  xk_PowerGone_NoTerms : PySem.W.kitOne K (.ref t.C_PowerGone) (.ref t.C_NoTerms) = some false
  xk_PowerGone_NoValue : PySem.W.kitOne K (.ref t.C_PowerGone) (.ref t.C_NoValue) = some false
  xk_PowerGone_NotClear : PySem.W.kitOne K (.ref t.C_PowerGone) (.ref t.C_NotClear) = some false
  xk_PowerGone_PowerGone : PySem.W.kitOne K (.ref t.C_PowerGone) (.ref t.C_PowerGone) = some true
  xk_PowerGone_ValueError : PySem.W.kitOne K (.ref t.C_PowerGone) (.type "ValueError") = some true
  xk_PowerGone_WornError : PySem.W.kitOne K (.ref t.C_PowerGone) (.ref t.C_WornError) = some true
  xk_PowerGone_WornOut : PySem.W.kitOne K (.ref t.C_PowerGone) (.ref t.C_WornOut) = some false
  xk_BlockFailed_BlockFailed : PySem.W.kitOne K (.ref t.C_BlockFailed) (.ref t.C_BlockFailed) = some true
  xk_BlockFailed_Full : PySem.W.kitOne K (.ref t.C_BlockFailed) (.ref t.C_Full) = some false
  xk_BlockFailed_NoChip : PySem.W.kitOne K (.ref t.C_BlockFailed) (.ref t.C_NoChip) = some false
  xk_BlockFailed_NoPart : PySem.W.kitOne K (.ref t.C_BlockFailed) (.ref t.C_NoPart) = some false
  xk_BlockFailed_NoPlace : PySem.W.kitOne K (.ref t.C_BlockFailed) (.ref t.C_NoPlace) = some false
  xk_BlockFailed_NoRace : PySem.W.kitOne K (.ref t.C_BlockFailed) (.ref t.C_NoRace) = some false
  xk_BlockFailed_NoRoom : PySem.W.kitOne K (.ref t.C_BlockFailed) (.ref t.C_NoRoom) = some false
  xk_BlockFailed_NoRow : PySem.W.kitOne K (.ref t.C_BlockFailed) (.ref t.C_NoRow) = some false
  xk_BlockFailed_NoRule : PySem.W.kitOne K (.ref t.C_BlockFailed) (.ref t.C_NoRule) = some false
  xk_BlockFailed_NoSheet : PySem.W.kitOne K (.ref t.C_BlockFailed) (.ref t.C_NoSheet) = some false
  xk_BlockFailed_NoTerms : PySem.W.kitOne K (.ref t.C_BlockFailed) (.ref t.C_NoTerms) = some false
  xk_BlockFailed_NoValue : PySem.W.kitOne K (.ref t.C_BlockFailed) (.ref t.C_NoValue) = some false
  xk_BlockFailed_NotClear : PySem.W.kitOne K (.ref t.C_BlockFailed) (.ref t.C_NotClear) = some false
  xk_BlockFailed_PowerGone : PySem.W.kitOne K (.ref t.C_BlockFailed) (.ref t.C_PowerGone) = some false
  xk_BlockFailed_ValueError : PySem.W.kitOne K (.ref t.C_BlockFailed) (.type "ValueError") = some true
  xk_BlockFailed_WornError : PySem.W.kitOne K (.ref t.C_BlockFailed) (.ref t.C_WornError) = some true
  xk_BlockFailed_WornOut : PySem.W.kitOne K (.ref t.C_BlockFailed) (.ref t.C_WornOut) = some false
  xk_NotClear_BlockFailed : PySem.W.kitOne K (.ref t.C_NotClear) (.ref t.C_BlockFailed) = some false
  xk_NotClear_Full : PySem.W.kitOne K (.ref t.C_NotClear) (.ref t.C_Full) = some false
  xk_NotClear_NoChip : PySem.W.kitOne K (.ref t.C_NotClear) (.ref t.C_NoChip) = some false
  xk_NotClear_NoPart : PySem.W.kitOne K (.ref t.C_NotClear) (.ref t.C_NoPart) = some false
  xk_NotClear_NoPlace : PySem.W.kitOne K (.ref t.C_NotClear) (.ref t.C_NoPlace) = some false
  xk_NotClear_NoRace : PySem.W.kitOne K (.ref t.C_NotClear) (.ref t.C_NoRace) = some false
  xk_NotClear_NoRoom : PySem.W.kitOne K (.ref t.C_NotClear) (.ref t.C_NoRoom) = some false
  xk_NotClear_NoRow : PySem.W.kitOne K (.ref t.C_NotClear) (.ref t.C_NoRow) = some false
  xk_NotClear_NoRule : PySem.W.kitOne K (.ref t.C_NotClear) (.ref t.C_NoRule) = some false
  xk_NotClear_NoSheet : PySem.W.kitOne K (.ref t.C_NotClear) (.ref t.C_NoSheet) = some false
  xk_NotClear_NoTerms : PySem.W.kitOne K (.ref t.C_NotClear) (.ref t.C_NoTerms) = some false
  xk_NotClear_NoValue : PySem.W.kitOne K (.ref t.C_NotClear) (.ref t.C_NoValue) = some false
  xk_NotClear_NotClear : PySem.W.kitOne K (.ref t.C_NotClear) (.ref t.C_NotClear) = some true
  xk_NotClear_PowerGone : PySem.W.kitOne K (.ref t.C_NotClear) (.ref t.C_PowerGone) = some false
  xk_NotClear_ValueError : PySem.W.kitOne K (.ref t.C_NotClear) (.type "ValueError") = some true
  xk_NotClear_WornError : PySem.W.kitOne K (.ref t.C_NotClear) (.ref t.C_WornError) = some true
  xk_NotClear_WornOut : PySem.W.kitOne K (.ref t.C_NotClear) (.ref t.C_WornOut) = some false
  xk_NoTerms_BlockFailed : PySem.W.kitOne K (.ref t.C_NoTerms) (.ref t.C_BlockFailed) = some false
  xk_NoTerms_Full : PySem.W.kitOne K (.ref t.C_NoTerms) (.ref t.C_Full) = some false
  xk_NoTerms_NoChip : PySem.W.kitOne K (.ref t.C_NoTerms) (.ref t.C_NoChip) = some false
  xk_NoTerms_NoPart : PySem.W.kitOne K (.ref t.C_NoTerms) (.ref t.C_NoPart) = some false
  xk_NoTerms_NoPlace : PySem.W.kitOne K (.ref t.C_NoTerms) (.ref t.C_NoPlace) = some false
  xk_NoTerms_NoRace : PySem.W.kitOne K (.ref t.C_NoTerms) (.ref t.C_NoRace) = some false
  xk_NoTerms_NoRoom : PySem.W.kitOne K (.ref t.C_NoTerms) (.ref t.C_NoRoom) = some false
  xk_NoTerms_NoRow : PySem.W.kitOne K (.ref t.C_NoTerms) (.ref t.C_NoRow) = some false
  xk_NoTerms_NoRule : PySem.W.kitOne K (.ref t.C_NoTerms) (.ref t.C_NoRule) = some false
  xk_NoTerms_NoSheet : PySem.W.kitOne K (.ref t.C_NoTerms) (.ref t.C_NoSheet) = some false
  xk_NoTerms_NoTerms : PySem.W.kitOne K (.ref t.C_NoTerms) (.ref t.C_NoTerms) = some true
  xk_NoTerms_NoValue : PySem.W.kitOne K (.ref t.C_NoTerms) (.ref t.C_NoValue) = some false
  xk_NoTerms_NotClear : PySem.W.kitOne K (.ref t.C_NoTerms) (.ref t.C_NotClear) = some false
  xk_NoTerms_PowerGone : PySem.W.kitOne K (.ref t.C_NoTerms) (.ref t.C_PowerGone) = some false
  xk_NoTerms_ValueError : PySem.W.kitOne K (.ref t.C_NoTerms) (.type "ValueError") = some true
  xk_NoTerms_WornError : PySem.W.kitOne K (.ref t.C_NoTerms) (.ref t.C_WornError) = some true
  xk_NoTerms_WornOut : PySem.W.kitOne K (.ref t.C_NoTerms) (.ref t.C_WornOut) = some false
  xk_NoSheet_BlockFailed : PySem.W.kitOne K (.ref t.C_NoSheet) (.ref t.C_BlockFailed) = some false
  xk_NoSheet_Full : PySem.W.kitOne K (.ref t.C_NoSheet) (.ref t.C_Full) = some false
  xk_NoSheet_NoChip : PySem.W.kitOne K (.ref t.C_NoSheet) (.ref t.C_NoChip) = some false
  xk_NoSheet_NoPart : PySem.W.kitOne K (.ref t.C_NoSheet) (.ref t.C_NoPart) = some false
  xk_NoSheet_NoPlace : PySem.W.kitOne K (.ref t.C_NoSheet) (.ref t.C_NoPlace) = some false
  xk_NoSheet_NoRace : PySem.W.kitOne K (.ref t.C_NoSheet) (.ref t.C_NoRace) = some false
  xk_NoSheet_NoRoom : PySem.W.kitOne K (.ref t.C_NoSheet) (.ref t.C_NoRoom) = some false
  xk_NoSheet_NoRow : PySem.W.kitOne K (.ref t.C_NoSheet) (.ref t.C_NoRow) = some false
  xk_NoSheet_NoRule : PySem.W.kitOne K (.ref t.C_NoSheet) (.ref t.C_NoRule) = some false
  xk_NoSheet_NoSheet : PySem.W.kitOne K (.ref t.C_NoSheet) (.ref t.C_NoSheet) = some true
  xk_NoSheet_NoTerms : PySem.W.kitOne K (.ref t.C_NoSheet) (.ref t.C_NoTerms) = some false
  xk_NoSheet_NoValue : PySem.W.kitOne K (.ref t.C_NoSheet) (.ref t.C_NoValue) = some false
  xk_NoSheet_NotClear : PySem.W.kitOne K (.ref t.C_NoSheet) (.ref t.C_NotClear) = some false
  xk_NoSheet_PowerGone : PySem.W.kitOne K (.ref t.C_NoSheet) (.ref t.C_PowerGone) = some false
  xk_NoSheet_ValueError : PySem.W.kitOne K (.ref t.C_NoSheet) (.type "ValueError") = some true
  xk_NoSheet_WornError : PySem.W.kitOne K (.ref t.C_NoSheet) (.ref t.C_WornError) = some true
  xk_NoSheet_WornOut : PySem.W.kitOne K (.ref t.C_NoSheet) (.ref t.C_WornOut) = some false
  xk_NoValue_BlockFailed : PySem.W.kitOne K (.ref t.C_NoValue) (.ref t.C_BlockFailed) = some false
  xk_NoValue_Full : PySem.W.kitOne K (.ref t.C_NoValue) (.ref t.C_Full) = some false
  xk_NoValue_NoChip : PySem.W.kitOne K (.ref t.C_NoValue) (.ref t.C_NoChip) = some false
  xk_NoValue_NoPart : PySem.W.kitOne K (.ref t.C_NoValue) (.ref t.C_NoPart) = some false
  xk_NoValue_NoPlace : PySem.W.kitOne K (.ref t.C_NoValue) (.ref t.C_NoPlace) = some false
  xk_NoValue_NoRace : PySem.W.kitOne K (.ref t.C_NoValue) (.ref t.C_NoRace) = some false
  xk_NoValue_NoRoom : PySem.W.kitOne K (.ref t.C_NoValue) (.ref t.C_NoRoom) = some false
  xk_NoValue_NoRow : PySem.W.kitOne K (.ref t.C_NoValue) (.ref t.C_NoRow) = some false
  xk_NoValue_NoRule : PySem.W.kitOne K (.ref t.C_NoValue) (.ref t.C_NoRule) = some false
  xk_NoValue_NoSheet : PySem.W.kitOne K (.ref t.C_NoValue) (.ref t.C_NoSheet) = some false
  xk_NoValue_NoTerms : PySem.W.kitOne K (.ref t.C_NoValue) (.ref t.C_NoTerms) = some false
  xk_NoValue_NoValue : PySem.W.kitOne K (.ref t.C_NoValue) (.ref t.C_NoValue) = some true
  xk_NoValue_NotClear : PySem.W.kitOne K (.ref t.C_NoValue) (.ref t.C_NotClear) = some false
  xk_NoValue_PowerGone : PySem.W.kitOne K (.ref t.C_NoValue) (.ref t.C_PowerGone) = some false
  xk_NoValue_ValueError : PySem.W.kitOne K (.ref t.C_NoValue) (.type "ValueError") = some true
  xk_NoValue_WornError : PySem.W.kitOne K (.ref t.C_NoValue) (.ref t.C_WornError) = some true
  xk_NoValue_WornOut : PySem.W.kitOne K (.ref t.C_NoValue) (.ref t.C_WornOut) = some false
  xk_Full_BlockFailed : PySem.W.kitOne K (.ref t.C_Full) (.ref t.C_BlockFailed) = some false
  xk_Full_Full : PySem.W.kitOne K (.ref t.C_Full) (.ref t.C_Full) = some true
  xk_Full_NoChip : PySem.W.kitOne K (.ref t.C_Full) (.ref t.C_NoChip) = some false
  xk_Full_NoPart : PySem.W.kitOne K (.ref t.C_Full) (.ref t.C_NoPart) = some false
  xk_Full_NoPlace : PySem.W.kitOne K (.ref t.C_Full) (.ref t.C_NoPlace) = some false
  xk_Full_NoRace : PySem.W.kitOne K (.ref t.C_Full) (.ref t.C_NoRace) = some false
  xk_Full_NoRoom : PySem.W.kitOne K (.ref t.C_Full) (.ref t.C_NoRoom) = some false
  xk_Full_NoRow : PySem.W.kitOne K (.ref t.C_Full) (.ref t.C_NoRow) = some false
  xk_Full_NoRule : PySem.W.kitOne K (.ref t.C_Full) (.ref t.C_NoRule) = some false
  xk_Full_NoSheet : PySem.W.kitOne K (.ref t.C_Full) (.ref t.C_NoSheet) = some false
  xk_Full_NoTerms : PySem.W.kitOne K (.ref t.C_Full) (.ref t.C_NoTerms) = some false
  xk_Full_NoValue : PySem.W.kitOne K (.ref t.C_Full) (.ref t.C_NoValue) = some false
  xk_Full_NotClear : PySem.W.kitOne K (.ref t.C_Full) (.ref t.C_NotClear) = some false
  xk_Full_PowerGone : PySem.W.kitOne K (.ref t.C_Full) (.ref t.C_PowerGone) = some false
  xk_Full_ValueError : PySem.W.kitOne K (.ref t.C_Full) (.type "ValueError") = some true
  xk_Full_WornError : PySem.W.kitOne K (.ref t.C_Full) (.ref t.C_WornError) = some true
  xk_Full_WornOut : PySem.W.kitOne K (.ref t.C_Full) (.ref t.C_WornOut) = some false
  xk_NoRoom_BlockFailed : PySem.W.kitOne K (.ref t.C_NoRoom) (.ref t.C_BlockFailed) = some false
  xk_NoRoom_Full : PySem.W.kitOne K (.ref t.C_NoRoom) (.ref t.C_Full) = some false
  xk_NoRoom_NoChip : PySem.W.kitOne K (.ref t.C_NoRoom) (.ref t.C_NoChip) = some false
  xk_NoRoom_NoPart : PySem.W.kitOne K (.ref t.C_NoRoom) (.ref t.C_NoPart) = some false
  xk_NoRoom_NoPlace : PySem.W.kitOne K (.ref t.C_NoRoom) (.ref t.C_NoPlace) = some false
  xk_NoRoom_NoRace : PySem.W.kitOne K (.ref t.C_NoRoom) (.ref t.C_NoRace) = some false
  xk_NoRoom_NoRoom : PySem.W.kitOne K (.ref t.C_NoRoom) (.ref t.C_NoRoom) = some true
  xk_NoRoom_NoRow : PySem.W.kitOne K (.ref t.C_NoRoom) (.ref t.C_NoRow) = some false
  xk_NoRoom_NoRule : PySem.W.kitOne K (.ref t.C_NoRoom) (.ref t.C_NoRule) = some false
  xk_NoRoom_NoSheet : PySem.W.kitOne K (.ref t.C_NoRoom) (.ref t.C_NoSheet) = some false
  xk_NoRoom_NoTerms : PySem.W.kitOne K (.ref t.C_NoRoom) (.ref t.C_NoTerms) = some false
  xk_NoRoom_NoValue : PySem.W.kitOne K (.ref t.C_NoRoom) (.ref t.C_NoValue) = some false
  xk_NoRoom_NotClear : PySem.W.kitOne K (.ref t.C_NoRoom) (.ref t.C_NotClear) = some false
  xk_NoRoom_PowerGone : PySem.W.kitOne K (.ref t.C_NoRoom) (.ref t.C_PowerGone) = some false
  xk_NoRoom_ValueError : PySem.W.kitOne K (.ref t.C_NoRoom) (.type "ValueError") = some true
  xk_NoRoom_WornError : PySem.W.kitOne K (.ref t.C_NoRoom) (.ref t.C_WornError) = some true
  xk_NoRoom_WornOut : PySem.W.kitOne K (.ref t.C_NoRoom) (.ref t.C_WornOut) = some false
  xk_WornOut_BlockFailed : PySem.W.kitOne K (.ref t.C_WornOut) (.ref t.C_BlockFailed) = some false
  xk_WornOut_Full : PySem.W.kitOne K (.ref t.C_WornOut) (.ref t.C_Full) = some false
  xk_WornOut_NoChip : PySem.W.kitOne K (.ref t.C_WornOut) (.ref t.C_NoChip) = some false
  xk_WornOut_NoPart : PySem.W.kitOne K (.ref t.C_WornOut) (.ref t.C_NoPart) = some false
  xk_WornOut_NoPlace : PySem.W.kitOne K (.ref t.C_WornOut) (.ref t.C_NoPlace) = some false
  xk_WornOut_NoRace : PySem.W.kitOne K (.ref t.C_WornOut) (.ref t.C_NoRace) = some false
  xk_WornOut_NoRoom : PySem.W.kitOne K (.ref t.C_WornOut) (.ref t.C_NoRoom) = some false
  xk_WornOut_NoRow : PySem.W.kitOne K (.ref t.C_WornOut) (.ref t.C_NoRow) = some false
  xk_WornOut_NoRule : PySem.W.kitOne K (.ref t.C_WornOut) (.ref t.C_NoRule) = some false
  xk_WornOut_NoSheet : PySem.W.kitOne K (.ref t.C_WornOut) (.ref t.C_NoSheet) = some false
  xk_WornOut_NoTerms : PySem.W.kitOne K (.ref t.C_WornOut) (.ref t.C_NoTerms) = some false
  xk_WornOut_NoValue : PySem.W.kitOne K (.ref t.C_WornOut) (.ref t.C_NoValue) = some false
  xk_WornOut_NotClear : PySem.W.kitOne K (.ref t.C_WornOut) (.ref t.C_NotClear) = some false
  xk_WornOut_PowerGone : PySem.W.kitOne K (.ref t.C_WornOut) (.ref t.C_PowerGone) = some false
  xk_WornOut_ValueError : PySem.W.kitOne K (.ref t.C_WornOut) (.type "ValueError") = some true
  xk_WornOut_WornError : PySem.W.kitOne K (.ref t.C_WornOut) (.ref t.C_WornError) = some true
  xk_WornOut_WornOut : PySem.W.kitOne K (.ref t.C_WornOut) (.ref t.C_WornOut) = some true
  xk_NoRule_BlockFailed : PySem.W.kitOne K (.ref t.C_NoRule) (.ref t.C_BlockFailed) = some false
  xk_NoRule_Full : PySem.W.kitOne K (.ref t.C_NoRule) (.ref t.C_Full) = some false
  xk_NoRule_NoChip : PySem.W.kitOne K (.ref t.C_NoRule) (.ref t.C_NoChip) = some false
  xk_NoRule_NoPart : PySem.W.kitOne K (.ref t.C_NoRule) (.ref t.C_NoPart) = some false
  xk_NoRule_NoPlace : PySem.W.kitOne K (.ref t.C_NoRule) (.ref t.C_NoPlace) = some false
  xk_NoRule_NoRace : PySem.W.kitOne K (.ref t.C_NoRule) (.ref t.C_NoRace) = some false
  xk_NoRule_NoRoom : PySem.W.kitOne K (.ref t.C_NoRule) (.ref t.C_NoRoom) = some false
  xk_NoRule_NoRow : PySem.W.kitOne K (.ref t.C_NoRule) (.ref t.C_NoRow) = some false
  xk_NoRule_NoRule : PySem.W.kitOne K (.ref t.C_NoRule) (.ref t.C_NoRule) = some true
  xk_NoRule_NoSheet : PySem.W.kitOne K (.ref t.C_NoRule) (.ref t.C_NoSheet) = some false
  xk_NoRule_NoTerms : PySem.W.kitOne K (.ref t.C_NoRule) (.ref t.C_NoTerms) = some false
  xk_NoRule_NoValue : PySem.W.kitOne K (.ref t.C_NoRule) (.ref t.C_NoValue) = some false
  xk_NoRule_NotClear : PySem.W.kitOne K (.ref t.C_NoRule) (.ref t.C_NotClear) = some false
  xk_NoRule_PowerGone : PySem.W.kitOne K (.ref t.C_NoRule) (.ref t.C_PowerGone) = some false
  xk_NoRule_ValueError : PySem.W.kitOne K (.ref t.C_NoRule) (.type "ValueError") = some true
  xk_NoRule_WornError : PySem.W.kitOne K (.ref t.C_NoRule) (.ref t.C_WornError) = some true
  xk_NoRule_WornOut : PySem.W.kitOne K (.ref t.C_NoRule) (.ref t.C_WornOut) = some false
  xk_NoRace_BlockFailed : PySem.W.kitOne K (.ref t.C_NoRace) (.ref t.C_BlockFailed) = some false
  xk_NoRace_Full : PySem.W.kitOne K (.ref t.C_NoRace) (.ref t.C_Full) = some false
  xk_NoRace_NoChip : PySem.W.kitOne K (.ref t.C_NoRace) (.ref t.C_NoChip) = some false
  xk_NoRace_NoPart : PySem.W.kitOne K (.ref t.C_NoRace) (.ref t.C_NoPart) = some false
  xk_NoRace_NoPlace : PySem.W.kitOne K (.ref t.C_NoRace) (.ref t.C_NoPlace) = some false
  xk_NoRace_NoRace : PySem.W.kitOne K (.ref t.C_NoRace) (.ref t.C_NoRace) = some true
  xk_NoRace_NoRoom : PySem.W.kitOne K (.ref t.C_NoRace) (.ref t.C_NoRoom) = some false
  xk_NoRace_NoRow : PySem.W.kitOne K (.ref t.C_NoRace) (.ref t.C_NoRow) = some false
  xk_NoRace_NoRule : PySem.W.kitOne K (.ref t.C_NoRace) (.ref t.C_NoRule) = some false
  xk_NoRace_NoSheet : PySem.W.kitOne K (.ref t.C_NoRace) (.ref t.C_NoSheet) = some false
  xk_NoRace_NoTerms : PySem.W.kitOne K (.ref t.C_NoRace) (.ref t.C_NoTerms) = some false
  xk_NoRace_NoValue : PySem.W.kitOne K (.ref t.C_NoRace) (.ref t.C_NoValue) = some false
  xk_NoRace_NotClear : PySem.W.kitOne K (.ref t.C_NoRace) (.ref t.C_NotClear) = some false
  xk_NoRace_PowerGone : PySem.W.kitOne K (.ref t.C_NoRace) (.ref t.C_PowerGone) = some false
  xk_NoRace_ValueError : PySem.W.kitOne K (.ref t.C_NoRace) (.type "ValueError") = some true
  xk_NoRace_WornError : PySem.W.kitOne K (.ref t.C_NoRace) (.ref t.C_WornError) = some true
  xk_NoRace_WornOut : PySem.W.kitOne K (.ref t.C_NoRace) (.ref t.C_WornOut) = some false
  xk_NoPart_BlockFailed : PySem.W.kitOne K (.ref t.C_NoPart) (.ref t.C_BlockFailed) = some false
  xk_NoPart_Full : PySem.W.kitOne K (.ref t.C_NoPart) (.ref t.C_Full) = some false
  xk_NoPart_NoChip : PySem.W.kitOne K (.ref t.C_NoPart) (.ref t.C_NoChip) = some false
  xk_NoPart_NoPart : PySem.W.kitOne K (.ref t.C_NoPart) (.ref t.C_NoPart) = some true
  xk_NoPart_NoPlace : PySem.W.kitOne K (.ref t.C_NoPart) (.ref t.C_NoPlace) = some false
  xk_NoPart_NoRace : PySem.W.kitOne K (.ref t.C_NoPart) (.ref t.C_NoRace) = some false
  xk_NoPart_NoRoom : PySem.W.kitOne K (.ref t.C_NoPart) (.ref t.C_NoRoom) = some false
  xk_NoPart_NoRow : PySem.W.kitOne K (.ref t.C_NoPart) (.ref t.C_NoRow) = some false
  xk_NoPart_NoRule : PySem.W.kitOne K (.ref t.C_NoPart) (.ref t.C_NoRule) = some false
  xk_NoPart_NoSheet : PySem.W.kitOne K (.ref t.C_NoPart) (.ref t.C_NoSheet) = some false
  xk_NoPart_NoTerms : PySem.W.kitOne K (.ref t.C_NoPart) (.ref t.C_NoTerms) = some false
  xk_NoPart_NoValue : PySem.W.kitOne K (.ref t.C_NoPart) (.ref t.C_NoValue) = some false
  xk_NoPart_NotClear : PySem.W.kitOne K (.ref t.C_NoPart) (.ref t.C_NotClear) = some false
  xk_NoPart_PowerGone : PySem.W.kitOne K (.ref t.C_NoPart) (.ref t.C_PowerGone) = some false
  xk_NoPart_ValueError : PySem.W.kitOne K (.ref t.C_NoPart) (.type "ValueError") = some true
  xk_NoPart_WornError : PySem.W.kitOne K (.ref t.C_NoPart) (.ref t.C_WornError) = some true
  xk_NoPart_WornOut : PySem.W.kitOne K (.ref t.C_NoPart) (.ref t.C_WornOut) = some false
  xk_NoRow_BlockFailed : PySem.W.kitOne K (.ref t.C_NoRow) (.ref t.C_BlockFailed) = some false
  xk_NoRow_Full : PySem.W.kitOne K (.ref t.C_NoRow) (.ref t.C_Full) = some false
  xk_NoRow_NoChip : PySem.W.kitOne K (.ref t.C_NoRow) (.ref t.C_NoChip) = some false
  xk_NoRow_NoPart : PySem.W.kitOne K (.ref t.C_NoRow) (.ref t.C_NoPart) = some false
  xk_NoRow_NoPlace : PySem.W.kitOne K (.ref t.C_NoRow) (.ref t.C_NoPlace) = some false
  xk_NoRow_NoRace : PySem.W.kitOne K (.ref t.C_NoRow) (.ref t.C_NoRace) = some false
  xk_NoRow_NoRoom : PySem.W.kitOne K (.ref t.C_NoRow) (.ref t.C_NoRoom) = some false
  xk_NoRow_NoRow : PySem.W.kitOne K (.ref t.C_NoRow) (.ref t.C_NoRow) = some true
  xk_NoRow_NoRule : PySem.W.kitOne K (.ref t.C_NoRow) (.ref t.C_NoRule) = some false
  xk_NoRow_NoSheet : PySem.W.kitOne K (.ref t.C_NoRow) (.ref t.C_NoSheet) = some false
  xk_NoRow_NoTerms : PySem.W.kitOne K (.ref t.C_NoRow) (.ref t.C_NoTerms) = some false
  xk_NoRow_NoValue : PySem.W.kitOne K (.ref t.C_NoRow) (.ref t.C_NoValue) = some false
  xk_NoRow_NotClear : PySem.W.kitOne K (.ref t.C_NoRow) (.ref t.C_NotClear) = some false
  xk_NoRow_PowerGone : PySem.W.kitOne K (.ref t.C_NoRow) (.ref t.C_PowerGone) = some false
  xk_NoRow_ValueError : PySem.W.kitOne K (.ref t.C_NoRow) (.type "ValueError") = some true
  xk_NoRow_WornError : PySem.W.kitOne K (.ref t.C_NoRow) (.ref t.C_WornError) = some true
  xk_NoRow_WornOut : PySem.W.kitOne K (.ref t.C_NoRow) (.ref t.C_WornOut) = some false
  mg_is_whole : mg "is_whole" = some (.ref t.f_is_whole)
  kp_is_whole : PySem.W.keepIn K (.ref t.f_is_whole) = true
  mg_is_within : mg "is_within" = some (.ref t.f_is_within)
  kp_is_within : PySem.W.keepIn K (.ref t.f_is_within) = true
  mg_is_shape : mg "is_shape" = some (.ref t.f_is_shape)
  kp_is_shape : PySem.W.keepIn K (.ref t.f_is_shape) = true
  mg_limits_of : mg "limits_of" = some (.ref t.f_limits_of)
  kp_limits_of : PySem.W.keepIn K (.ref t.f_limits_of) = true
  mg_law_cell_at : mg "_law_cell_at" = some (.ref t.f_law_cell_at)
  kp_law_cell_at : PySem.W.keepIn K (.ref t.f_law_cell_at) = true
  mg_law_all : mg "_law_all" = some (.ref t.f_law_all)
  kp_law_all : PySem.W.keepIn K (.ref t.f_law_all) = true
  mg_law_of : mg "_law_of" = some (.ref t.f_law_of)
  kp_law_of : PySem.W.keepIn K (.ref t.f_law_of) = true
  mg_law_classes : mg "_law_classes" = some (.ref t.f_law_classes)
  kp_law_classes : PySem.W.keepIn K (.ref t.f_law_classes) = true
  mg_law_asked : mg "_law_asked" = some (.ref t.f_law_asked)
  kp_law_asked : PySem.W.keepIn K (.ref t.f_law_asked) = true
  mg_law_due : mg "_law_due" = some (.ref t.f_law_due)
  kp_law_due : PySem.W.keepIn K (.ref t.f_law_due) = true
  mg_law_no_chip : mg "_law_no_chip" = some (.ref t.f_law_no_chip)
  kp_law_no_chip : PySem.W.keepIn K (.ref t.f_law_no_chip) = true
  mg_MOST_TOLD : mg "MOST_TOLD" = some (.int 1000000 t.tk_MOST_TOLD)
  b_ValueError : mg "ValueError" = none
  b_bool : mg "bool" = none
  b_int : mg "int" = none
  b_isinstance : mg "isinstance" = none
  b_len : mg "len" = none
  b_list : mg "list" = none
  b_range : mg "range" = none
set_option genInjectivity false
set_option maxHeartbeats 0 in
structure Fns (K : PySem.W.Frag) (t : Adr) where
  fd_BlockFailed_init : FuncData
  dv_BlockFailed_init : Value
  F_BlockFailed_init : FunD K "__init__" "BlockFailed.__init__" s_BlockFailed_init dv_BlockFailed_init t.f_BlockFailed_init fd_BlockFailed_init
  b_BlockFailed_init : Binds K fd_BlockFailed_init ["self", "block"] []
  fd_NotClear_init : FuncData
  dv_NotClear_init : Value
  F_NotClear_init : FunD K "__init__" "NotClear.__init__" s_NotClear_init dv_NotClear_init t.f_NotClear_init fd_NotClear_init
  b_NotClear_init : Binds K fd_NotClear_init ["self", "page"] []
  fd_is_whole : FuncData
  dv_is_whole : Value
  F_is_whole : FunD K "is_whole" "is_whole" s_is_whole dv_is_whole t.f_is_whole fd_is_whole
  b_is_whole : Binds K fd_is_whole ["thing"] []
  fd_is_within : FuncData
  dv_is_within : Value
  F_is_within : FunD K "is_within" "is_within" s_is_within dv_is_within t.f_is_within fd_is_within
  b_is_within : Binds K fd_is_within ["thing", "low", "high"] []
  fd_is_shape : FuncData
  dv_is_shape : Value
  F_is_shape : FunD K "is_shape" "is_shape" s_is_shape dv_is_shape t.f_is_shape fd_is_shape
  b_is_shape : Binds K fd_is_shape ["blocks", "pages"] []
  fd_limits_of : FuncData
  dv_limits_of : Value
  F_limits_of : FunD K "limits_of" "limits_of" s_limits_of dv_limits_of t.f_limits_of fd_limits_of
  b_limits_of : Binds K fd_limits_of ["ills", "blocks"] []
  fd_Chip_init : FuncData
  dv_Chip_init : Value
  F_Chip_init : FunD K "__init__" "Chip.__init__" s_Chip_init dv_Chip_init t.f_Chip_init fd_Chip_init
  b_Chip_init : Binds K fd_Chip_init ["self", "blocks", "pages", "most", "ills"] []
  ds_Chip_init_1 : List Value
  b_Chip_init_1 : Binds K fd_Chip_init ["self", "blocks", "pages", "most", "ills"] ds_Chip_init_1
  v_Chip_init_1 : Vals [.non] ds_Chip_init_1
  ds_Chip_init_2 : List Value
  b_Chip_init_2 : Binds K fd_Chip_init ["self", "blocks", "pages", "most", "ills"] ds_Chip_init_2
  v_Chip_init_2 : Vals [.int 1000000, .non] ds_Chip_init_2
  fd_Chip_put : FuncData
  dv_Chip_put : Value
  F_Chip_put : FunD K "put" "Chip.put" s_Chip_put dv_Chip_put t.f_Chip_put fd_Chip_put
  b_Chip_put : Binds K fd_Chip_put ["self", "page", "stuff"] []
  fd_Chip_wipe : FuncData
  dv_Chip_wipe : Value
  F_Chip_wipe : FunD K "wipe" "Chip.wipe" s_Chip_wipe dv_Chip_wipe t.f_Chip_wipe fd_Chip_wipe
  b_Chip_wipe : Binds K fd_Chip_wipe ["self", "block"] []
  fd_Chip_read : FuncData
  dv_Chip_read : Value
  F_Chip_read : FunD K "read" "Chip.read" s_Chip_read dv_Chip_read t.f_Chip_read fd_Chip_read
  b_Chip_read : Binds K fd_Chip_read ["self", "page"] []
  fd_Chip_cut_after : FuncData
  dv_Chip_cut_after : Value
  F_Chip_cut_after : FunD K "cut_after" "Chip.cut_after" s_Chip_cut_after dv_Chip_cut_after t.f_Chip_cut_after fd_Chip_cut_after
  b_Chip_cut_after : Binds K fd_Chip_cut_after ["self", "deeds"] []
  fd_Chip_is_dark : FuncData
  dv_Chip_is_dark : Value
  F_Chip_is_dark : FunD K "is_dark" "Chip.is_dark" s_Chip_is_dark dv_Chip_is_dark t.f_Chip_is_dark fd_Chip_is_dark
  b_Chip_is_dark : Binds K fd_Chip_is_dark ["self"] []
  fd_Chip_cleared : FuncData
  dv_Chip_cleared : Value
  F_Chip_cleared : FunD K "cleared" "Chip.cleared" s_Chip_cleared dv_Chip_cleared t.f_Chip_cleared fd_Chip_cleared
  b_Chip_cleared : Binds K fd_Chip_cleared ["self", "block"] []
  fd_Chip_failed : FuncData
  dv_Chip_failed : Value
  F_Chip_failed : FunD K "failed" "Chip.failed" s_Chip_failed dv_Chip_failed t.f_Chip_failed fd_Chip_failed
  b_Chip_failed : Binds K fd_Chip_failed ["self", "block"] []
  fd_Chip_deeds : FuncData
  dv_Chip_deeds : Value
  F_Chip_deeds : FunD K "deeds" "Chip.deeds" s_Chip_deeds dv_Chip_deeds t.f_Chip_deeds fd_Chip_deeds
  b_Chip_deeds : Binds K fd_Chip_deeds ["self"] []
  fd_Chip_check_page : FuncData
  dv_Chip_check_page : Value
  F_Chip_check_page : FunD K "check_page" "Chip.check_page" s_Chip_check_page dv_Chip_check_page t.f_Chip_check_page fd_Chip_check_page
  b_Chip_check_page : Binds K fd_Chip_check_page ["self", "page"] []
  fd_Chip_check_block : FuncData
  dv_Chip_check_block : Value
  F_Chip_check_block : FunD K "check_block" "Chip.check_block" s_Chip_check_block dv_Chip_check_block t.f_Chip_check_block fd_Chip_check_block
  b_Chip_check_block : Binds K fd_Chip_check_block ["self", "block"] []
  fd_Chip_check_power : FuncData
  dv_Chip_check_power : Value
  F_Chip_check_power : FunD K "check_power" "Chip.check_power" s_Chip_check_power dv_Chip_check_power t.f_Chip_check_power fd_Chip_check_power
  b_Chip_check_power : Binds K fd_Chip_check_power ["self"] []
  fd_Chip_check_deed : FuncData
  dv_Chip_check_deed : Value
  F_Chip_check_deed : FunD K "check_deed" "Chip.check_deed" s_Chip_check_deed dv_Chip_check_deed t.f_Chip_check_deed fd_Chip_check_deed
  b_Chip_check_deed : Binds K fd_Chip_check_deed ["self", "block"] []
  fd_Chip_is_spent : FuncData
  dv_Chip_is_spent : Value
  F_Chip_is_spent : FunD K "is_spent" "Chip.is_spent" s_Chip_is_spent dv_Chip_is_spent t.f_Chip_is_spent fd_Chip_is_spent
  b_Chip_is_spent : Binds K fd_Chip_is_spent ["self", "block"] []
  fd_Chip_do_deed : FuncData
  dv_Chip_do_deed : Value
  F_Chip_do_deed : FunD K "do_deed" "Chip.do_deed" s_Chip_do_deed dv_Chip_do_deed t.f_Chip_do_deed fd_Chip_do_deed
  b_Chip_do_deed : Binds K fd_Chip_do_deed ["self", "word", "place", "block", "fails"] []
  fd_law_cell_at : FuncData
  dv_law_cell_at : Value
  F_law_cell_at : FunD K "_law_cell_at" "_law_cell_at" s_law_cell_at dv_law_cell_at t.f_law_cell_at fd_law_cell_at
  b_law_cell_at : Binds K fd_law_cell_at ["_law_script", "_law_k"] []
  fd_law_all : FuncData
  dv_law_all : Value
  F_law_all : FunD K "_law_all" "_law_all" s_law_all dv_law_all t.f_law_all fd_law_all
  b_law_all : Binds K fd_law_all [] []
  fd_law_of : FuncData
  dv_law_of : Value
  F_law_of : FunD K "_law_of" "_law_of" s_law_of dv_law_of t.f_law_of fd_law_of
  b_law_of : Binds K fd_law_of ["_law_e"] []
  fd_law_classes : FuncData
  dv_law_classes : Value
  F_law_classes : FunD K "_law_classes" "_law_classes" s_law_classes dv_law_classes t.f_law_classes fd_law_classes
  b_law_classes : Binds K fd_law_classes [] []
  fd_law_asked : FuncData
  dv_law_asked : Value
  F_law_asked : FunD K "_law_asked" "_law_asked" s_law_asked dv_law_asked t.f_law_asked fd_law_asked
  b_law_asked : Binds K fd_law_asked ["_law_chip", "_law_word", "_law_at"] []
  fd_law_due : FuncData
  dv_law_due : Value
  F_law_due : FunD K "_law_due" "_law_due" s_law_due dv_law_due t.f_law_due fd_law_due
  b_law_due : Binds K fd_law_due ["_law_word", "_law_at", "_law_many", "_law_sick", "_law_full", "_law_pages", "_law_dark"] []
  fd_law_no_chip : FuncData
  dv_law_no_chip : Value
  F_law_no_chip : FunD K "_law_no_chip" "_law_no_chip" s_law_no_chip dv_law_no_chip t.f_law_no_chip fd_law_no_chip
  b_law_no_chip : Binds K fd_law_no_chip ["_law_way", "_law_far"] []
  fd_law : FuncData
  dv_law : Value
  F_law : FunD K "law" "law" s_law dv_law t.f_law fd_law
section
variable {P : Program} {w : World} {K : PySem.W.Frag} {mg : Str → Option Value} {base : Heap} {t : Adr}
theorem sc_BlockFailed_init : FnScope ["self", "block"] ["self", "block"] (defScope s_BlockFailed_init) := ⟨rfl, rfl, rfl, by decide +kernel, rfl, by decide +kernel, by decide +kernel⟩
theorem sc_NotClear_init : FnScope ["self", "page"] ["self", "page"] (defScope s_NotClear_init) := ⟨rfl, rfl, rfl, by decide +kernel, rfl, by decide +kernel, by decide +kernel⟩
theorem sc_is_whole : FnScope ["thing"] ["thing"] (defScope s_is_whole) := ⟨rfl, rfl, rfl, by decide +kernel, rfl, by decide +kernel, by decide +kernel⟩
theorem sc_is_within : FnScope ["thing", "low", "high"] ["thing", "low", "high"] (defScope s_is_within) := ⟨rfl, rfl, rfl, by decide +kernel, rfl, by decide +kernel, by decide +kernel⟩
theorem sc_is_shape : FnScope ["blocks", "pages"] ["blocks", "pages"] (defScope s_is_shape) := ⟨rfl, rfl, rfl, by decide +kernel, rfl, by decide +kernel, by decide +kernel⟩
theorem sc_limits_of : FnScope ["ills", "blocks", "limits", "block", "deeds"] ["ills", "blocks"] (defScope s_limits_of) := ⟨rfl, rfl, rfl, by decide +kernel, rfl, by decide +kernel, by decide +kernel⟩
theorem sc_Chip_init : FnScope ["self", "blocks", "pages", "most", "ills"] ["self", "blocks", "pages", "most", "ills"] (defScope s_Chip_init) := ⟨rfl, rfl, rfl, by decide +kernel, rfl, by decide +kernel, by decide +kernel⟩
theorem sc_Chip_put : FnScope ["self", "page", "stuff", "block"] ["self", "page", "stuff"] (defScope s_Chip_put) := ⟨rfl, rfl, rfl, by decide +kernel, rfl, by decide +kernel, by decide +kernel⟩
theorem sc_Chip_wipe : FnScope ["self", "block", "fails", "first", "page"] ["self", "block"] (defScope s_Chip_wipe) := ⟨rfl, rfl, rfl, by decide +kernel, rfl, by decide +kernel, by decide +kernel⟩
theorem sc_Chip_read : FnScope ["self", "page"] ["self", "page"] (defScope s_Chip_read) := ⟨rfl, rfl, rfl, by decide +kernel, rfl, by decide +kernel, by decide +kernel⟩
theorem sc_Chip_cut_after : FnScope ["self", "deeds"] ["self", "deeds"] (defScope s_Chip_cut_after) := ⟨rfl, rfl, rfl, by decide +kernel, rfl, by decide +kernel, by decide +kernel⟩
theorem sc_Chip_is_dark : FnScope ["self"] ["self"] (defScope s_Chip_is_dark) := ⟨rfl, rfl, rfl, by decide +kernel, rfl, by decide +kernel, by decide +kernel⟩
theorem sc_Chip_cleared : FnScope ["self", "block"] ["self", "block"] (defScope s_Chip_cleared) := ⟨rfl, rfl, rfl, by decide +kernel, rfl, by decide +kernel, by decide +kernel⟩
theorem sc_Chip_failed : FnScope ["self", "block"] ["self", "block"] (defScope s_Chip_failed) := ⟨rfl, rfl, rfl, by decide +kernel, rfl, by decide +kernel, by decide +kernel⟩
theorem sc_Chip_deeds : FnScope ["self"] ["self"] (defScope s_Chip_deeds) := ⟨rfl, rfl, rfl, by decide +kernel, rfl, by decide +kernel, by decide +kernel⟩
theorem sc_Chip_check_page : FnScope ["self", "page"] ["self", "page"] (defScope s_Chip_check_page) := ⟨rfl, rfl, rfl, by decide +kernel, rfl, by decide +kernel, by decide +kernel⟩
theorem sc_Chip_check_block : FnScope ["self", "block"] ["self", "block"] (defScope s_Chip_check_block) := ⟨rfl, rfl, rfl, by decide +kernel, rfl, by decide +kernel, by decide +kernel⟩
theorem sc_Chip_check_power : FnScope ["self"] ["self"] (defScope s_Chip_check_power) := ⟨rfl, rfl, rfl, by decide +kernel, rfl, by decide +kernel, by decide +kernel⟩
theorem sc_Chip_check_deed : FnScope ["self", "block"] ["self", "block"] (defScope s_Chip_check_deed) := ⟨rfl, rfl, rfl, by decide +kernel, rfl, by decide +kernel, by decide +kernel⟩
theorem sc_Chip_is_spent : FnScope ["self", "block"] ["self", "block"] (defScope s_Chip_is_spent) := ⟨rfl, rfl, rfl, by decide +kernel, rfl, by decide +kernel, by decide +kernel⟩
theorem sc_Chip_do_deed : FnScope ["self", "word", "place", "block", "fails"] ["self", "word", "place", "block", "fails"] (defScope s_Chip_do_deed) := ⟨rfl, rfl, rfl, by decide +kernel, rfl, by decide +kernel, by decide +kernel⟩
theorem sc_law_cell_at : FnScope ["_law_script", "_law_k"] ["_law_script", "_law_k"] (defScope s_law_cell_at) := ⟨rfl, rfl, rfl, by decide +kernel, rfl, by decide +kernel, by decide +kernel⟩
theorem sc_law_all : FnScope ["_law_found"] [] (defScope s_law_all) := ⟨rfl, rfl, rfl, by decide +kernel, rfl, by decide +kernel, by decide +kernel⟩
theorem sc_law_of : FnScope ["_law_e", "_law_found"] ["_law_e"] (defScope s_law_of) := ⟨rfl, rfl, rfl, by decide +kernel, rfl, by decide +kernel, by decide +kernel⟩
theorem sc_law_classes : FnScope ["_law_some", "_law_k"] [] (defScope s_law_classes) := ⟨rfl, rfl, rfl, by decide +kernel, rfl, by decide +kernel, by decide +kernel⟩
theorem sc_law_asked : FnScope ["_law_chip", "_law_word", "_law_at", "_law_caught", "_law_e", "_law_kinds"] ["_law_chip", "_law_word", "_law_at"] (defScope s_law_asked) := ⟨rfl, rfl, rfl, by decide +kernel, rfl, by decide +kernel, by decide +kernel⟩
theorem sc_law_due : FnScope ["_law_word", "_law_at", "_law_many", "_law_sick", "_law_full", "_law_pages", "_law_dark", "_law_block"] ["_law_word", "_law_at", "_law_many", "_law_sick", "_law_full", "_law_pages", "_law_dark"] (defScope s_law_due) := ⟨rfl, rfl, rfl, by decide +kernel, rfl, by decide +kernel, by decide +kernel⟩
theorem sc_law_no_chip : FnScope ["_law_way", "_law_far", "_law_some", "_law_row", "_law_refused"] ["_law_way", "_law_far"] (defScope s_law_no_chip) := ⟨rfl, rfl, rfl, by decide +kernel, rfl, by decide +kernel, by decide +kernel⟩
theorem sc_law : FnScope ["_law_script", "_law_blocks", "_law_pages", "_law_sick", "_law_full", "_law_chip", "_law_word", "_law_many", "_law_dark", "_law_far", "_law_places", "_law_at", "_law_due_here", "_law_log"] ["_law_script"] (defScope s_law) := ⟨rfl, rfl, rfl, by decide +kernel, rfl, by decide +kernel, by decide +kernel⟩
local macro_rules | `(tactic| walk_at "r") => `(tactic| repeat (first | with_reducible refine ⟨_, rfl, ?_⟩ | refine ⟨_, rfl, ?_⟩ | refine ⟨_, _, rfl, rfl, ?_⟩))
theorem ok_is_whole (T : Txt K mg t) (S : Fns K t) : FnOk P w K mg base (CX0) 1 t.f_is_whole S.fd_is_whole ["thing"] spWhole := by
  refine S.F_is_whole.ok0 sc_is_whole (fun vs H Q E h => ?_) (fun cdv A outer s H vs Q E hr h => ?_)
  · obtain ⟨x, rfl, _⟩ := h
    rfl
  · obtain ⟨x, rfl, kn, k⟩ := h
    refine ⟨_, (pss_one (ps_ret (pe_and (pe_callB call_isinstC (by rfl) T.b_isinstance (by kernel_rfl) (pa_cons (pv 0) (pa_cons (pe_bltn rfl T.b_int (by kernel_rfl) rfl (v := .ty "int")) pa_nil))) (pe_one (pe_not (pe_callB call_isinstC (by rfl) T.b_isinstance (by kernel_rfl) (pa_cons (pv 0) (pa_cons (pe_bltn rfl T.b_bool (by kernel_rfl) rfl (v := .ty "bool")) pa_nil)))))))), ?_⟩
    obtain ⟨ty, q, e1, e2, _⟩ := kn.ty (K := K)
    refine ⟨_, rfl, x, _, _, ty, _, rfl, rfl, .inl q, e1, _, rfl, ?_⟩
    have z := isW_eq x
    cases qi : isI x with
    | true =>
      rw [qi, if_pos rfl] at z
      refine iteT ?_
      refine ⟨_, rfl, x, _, _, ty, _, rfl, rfl, .inl q, e2, _, rfl, ?_⟩
      rw [z]
      exact k
    | false =>
      rw [qi] at z
      refine iteF ?_
      have z' : false = isW x := z
      rw [z']
      exact k
theorem ok_is_within (T : Txt K mg t) (S : Fns K t) : FnOk P w K mg base (CX0) 2 t.f_is_within S.fd_is_within ["thing", "low", "high"] spWithin := by
  refine S.F_is_within.ok0 sc_is_within (fun vs H Q E h => ?_) (fun cdv A outer s H vs Q E hr h => ?_)
  · obtain ⟨x, lo, hi, rfl, _⟩ := h
    rfl
  · obtain ⟨x, lo, hi, rfl, kn, k⟩ := h
    refine ⟨_, (pss_one (ps_ret (pe_and (pe_call ((ok_is_whole T S).mono (by decide)) hr rfl T.mg_is_whole T.kp_is_whole S.b_is_whole .nil pass0 (pa_cons (pv 0) pa_nil)) (pe_one (pe_chain op_le op_le (pv 1) (pv 0) (pv 2)))))), ?_⟩
    refine ⟨_, rfl, x, rfl, kn, _, rfl, ?_⟩
    cases x with
    | int i =>
      refine iteT ?_
      refine ⟨_, rfl, _, rfl, _, _, rfl, rfl, _, rfl, ?_⟩
      have k' : Q (V.bl (decide (lo ≤ i) && decide (i ≤ hi))) H := k
      by_cases h1 : lo ≤ i
      · rw [decide_eq_true h1] at k' ⊢
        refine iteT ?_
        exact ⟨_, rfl, _, _, rfl, rfl, k'⟩
      · rw [decide_eq_false h1] at k' ⊢
        refine iteF ?_
        exact k'
    | _ => exact iteF k
theorem ok_is_shape (T : Txt K mg t) (S : Fns K t) : FnOk P w K mg base (CX0) 3 t.f_is_shape S.fd_is_shape ["blocks", "pages"] spShape := by
  refine S.F_is_shape.ok0 sc_is_shape (fun vs H Q E h => ?_) (fun cdv A outer s H vs Q E hr h => ?_)
  · obtain ⟨x, y, rfl, _⟩ := h
    rfl
  · obtain ⟨x, y, rfl, kx, ky, k⟩ := h
    refine ⟨_, (pss_one (ps_ret (pe_and (pe_call ((ok_is_within T S).mono (by decide)) hr rfl T.mg_is_within T.kp_is_within S.b_is_within .nil pass0 (pa_cons (pv 0) (pa_cons pe_int (pa_cons pe_int pa_nil)))) (pe_one (pe_call ((ok_is_within T S).mono (by decide)) hr rfl T.mg_is_within T.kp_is_within S.b_is_within .nil pass0 (pa_cons (pv 1) (pa_cons pe_int (pa_cons pe_int pa_nil)))))))), ?_⟩
    refine ⟨_, rfl, x, _, _, rfl, kx, _, rfl, ?_⟩
    cases q : inB x 2 16 with
    | true =>
      rw [q] at k
      refine iteT ⟨_, rfl, y, _, _, rfl, ky, k⟩
    | false =>
      rw [q] at k
      exact iteF k
theorem ok_BlockFailed_init (T : Txt K mg t) (S : Fns K t) : FnOk P w K mg base (CXe P w) 1 t.f_BlockFailed_init S.fd_BlockFailed_init ["self", "block"] (spBF K t.C_BlockFailed t.f_BlockFailed_init "block") := by
  refine S.F_BlockFailed_init.okE sc_BlockFailed_init (fun vs H Q E h => ?_) (fun cdv A outer s H vs Q E hr h => ?_)
  · obtain ⟨ea, b, rfl, _⟩ := h
    rfl
  · obtain ⟨ea, b, rfl, xi, xa, na, hb, hx, q⟩ := h
    refine ⟨_, (pss_cons (ps_expr (pe_binit T.bi_WornError rfl T.mg_WornError (pa_cons (pv 0) (pa_cons (pe_fs (pj_str pe_str (pj_int (pv 1) (pj_str pe_str pj_nil)))) pa_nil)))) (pss_one (ps_fldX (pv 0) (pv 1) rfl))), ?_⟩
    obtain ⟨l1, l2, l3⟩ := len_fs (x := "block ") (y := " has failed") (i := b) (by decide) (by decide) hb
    refine ⟨_, rfl, _, rfl, l1, _, rfl, _, rfl, log20 hb, l2, _, rfl, l3, l3, ea, _, none, _, _, rfl, hx, xi, ?_⟩
    refine ⟨_, rfl, _, rfl, ea, _, rfl, hx, xa, na, fun dx h1 h2 => q dx h1 h2⟩
theorem ok_NotClear_init (T : Txt K mg t) (S : Fns K t) : FnOk P w K mg base (CXe P w) 1 t.f_NotClear_init S.fd_NotClear_init ["self", "page"] (spBF K t.C_NotClear t.f_NotClear_init "page") := by
  refine S.F_NotClear_init.okE sc_NotClear_init (fun vs H Q E h => ?_) (fun cdv A outer s H vs Q E hr h => ?_)
  · obtain ⟨ea, b, rfl, _⟩ := h
    rfl
  · obtain ⟨ea, b, rfl, xi, xa, na, hb, hx, q⟩ := h
    refine ⟨_, (pss_cons (ps_expr (pe_binit T.bi_WornError rfl T.mg_WornError (pa_cons (pv 0) (pa_cons (pe_fs (pj_str pe_str (pj_int (pv 1) (pj_str pe_str pj_nil)))) pa_nil)))) (pss_one (ps_fldX (pv 0) (pv 1) rfl))), ?_⟩
    obtain ⟨l1, l2, l3⟩ := len_fs (x := "page ") (y := " is not clear") (i := b) (by decide) (by decide) hb
    refine ⟨_, rfl, _, rfl, l1, _, rfl, _, rfl, log20 hb, l2, _, rfl, l3, l3, ea, _, none, _, _, rfl, hx, xi, ?_⟩
    refine ⟨_, rfl, _, rfl, ea, _, rfl, hx, xa, na, fun dx h1 h2 => q dx h1 h2⟩
def outs (t : Adr) (o : Out) (Q : VK) (E : XK) (H : Hp) : Prop := match o with
  | .done => Q .non H
  | .noPlace => E (.ref t.C_NoPlace) none H
  | .dark => E (.ref t.C_PowerGone) none H
  | .failed b => ∀ dx, H dx = some (.xd [("block", .int b)]) → E (.ref t.C_BlockFailed) (some dx) H
  | .written p => ∀ dx, H dx = some (.xd [("page", .int p)]) → E (.ref t.C_NotClear) (some dx) H
def spCP (t : Adr) : Sp := fun vs H Q E => ∃ c a m x, vs = [.ref c, x] ∧ ChipAt t.C_Chip H c a m ∧ m.Ok ∧ Knd H x ∧ (if inB x 0 (m.bl * m.pg - 1) = true then Q .non H else E (.ref t.C_NoPlace) none H)
theorem ok_Chip_check_page (T : Txt K mg t) (S : Fns K t) : FnOk P w K mg base (CXe P w) 3 t.f_Chip_check_page S.fd_Chip_check_page ["self", "page"] (spCP t) := by
  refine S.F_Chip_check_page.okE sc_Chip_check_page (fun vs H Q E h => ?_) (fun cdv A outer s H vs Q E hr h => ?_)
  · obtain ⟨c, a, m, x, rfl, _⟩ := h
    rfl
  · obtain ⟨c, a, m, x, rfl, hc, ok, kn, q⟩ := h
    refine ⟨_, (pss_one (ps_if (pt_not (pt_val (pe_call ((ok_is_within T S).mono (by decide)) hr rfl T.mg_is_within T.kp_is_within S.b_is_within .nil pass0 (pa_cons (pv 1) (pa_cons pe_int (pa_cons (pe_op op_sub (pe_op op_mul (pe_fld (pv 0) rfl) (pe_fld (pv 0) rfl)) pe_int) pa_nil)))))) (pss_one (ps_raise takes_fn rfl rfl T.mg_NoPlace T.x_NoPlace (pa_cons pe_str pa_nil))) pss_nil)), ?_⟩
    refine ⟨_, rfl, _, rfl, c, _, a.dx, _, _, rfl, hc.ins, T.cl_Chip, T.na_Chip_blocks, rfl, _, rfl, c, _, a.dx, _, _, rfl, hc.ins, T.cl_Chip, T.na_Chip_pages, rfl, ?_⟩
    have b1 := ok.bl1
    have b2 := ok.bl2
    refine ⟨_, _, rfl, rfl, .inl ⟨by omega, by omega⟩, _, _, rfl, rfl, x, _, _, rfl, kn, _, rfl, ?_⟩
    cases z : inB x 0 (m.bl * m.pg - 1) with
    | true =>
      rw [z, if_pos rfl] at q
      exact iteF q
    | false =>
      rw [z, if_neg (by decide)] at q
      exact iteT ⟨by show 1 ≤ sizeLine; decide, q⟩
def spCB (t : Adr) : Sp := fun vs H Q E => ∃ c a m x, vs = [.ref c, x] ∧ ChipAt t.C_Chip H c a m ∧ Knd H x ∧ (if inB x 0 (m.bl - 1) = true then Q .non H else E (.ref t.C_NoPlace) none H)
theorem ok_Chip_check_block (T : Txt K mg t) (S : Fns K t) : FnOk P w K mg base (CXe P w) 3 t.f_Chip_check_block S.fd_Chip_check_block ["self", "block"] (spCB t) := by
  refine S.F_Chip_check_block.okE sc_Chip_check_block (fun vs H Q E h => ?_) (fun cdv A outer s H vs Q E hr h => ?_)
  · obtain ⟨c, a, m, x, rfl, _⟩ := h
    rfl
  · obtain ⟨c, a, m, x, rfl, hc, kn, q⟩ := h
    refine ⟨_, (pss_one (ps_if (pt_not (pt_val (pe_call ((ok_is_within T S).mono (by decide)) hr rfl T.mg_is_within T.kp_is_within S.b_is_within .nil pass0 (pa_cons (pv 1) (pa_cons pe_int (pa_cons (pe_op op_sub (pe_fld (pv 0) rfl) pe_int) pa_nil)))))) (pss_one (ps_raise takes_fn rfl rfl T.mg_NoPlace T.x_NoPlace (pa_cons pe_str pa_nil))) pss_nil)), ?_⟩
    refine ⟨_, rfl, _, rfl, c, _, a.dx, _, _, rfl, hc.ins, T.cl_Chip, T.na_Chip_blocks, rfl, _, _, rfl, rfl, x, _, _, rfl, kn, _, rfl, ?_⟩
    cases z : inB x 0 (m.bl - 1) with
    | true =>
      rw [z, if_pos rfl] at q
      exact iteF q
    | false =>
      rw [z, if_neg (by decide)] at q
      exact iteT ⟨by show 1 ≤ sizeLine; decide, q⟩
def spID (t : Adr) : Sp := fun vs H Q E => ∃ c a m, vs = [.ref c] ∧ ChipAt t.C_Chip H c a m ∧ Q (.bl (decide (m.lf = some 0))) H
theorem ok_Chip_is_dark (T : Txt K mg t) (S : Fns K t) : FnOk P w K mg base (CX0) 1 t.f_Chip_is_dark S.fd_Chip_is_dark ["self"] (spID t) := by
  refine S.F_Chip_is_dark.ok0 sc_Chip_is_dark (fun vs H Q E h => ?_) (fun cdv A outer s H vs Q E hr h => ?_)
  · obtain ⟨c, a, m, rfl, _⟩ := h
    rfl
  · obtain ⟨c, a, m, rfl, hc, q⟩ := h
    refine ⟨_, (pss_one (ps_ret (pe_cmpR op_eq (pe_fld (pv 0) rfl) pe_int (nomark _)))), ?_⟩
    refine ⟨_, rfl, c, _, a.dx, _, _, rfl, hc.ins, T.cl_Chip, T.na_Chip_deeds_left, rfl, lf_scal, ?_⟩
    rw [lf0]
    exact q
def spPW (t : Adr) : Sp := fun vs H Q E => ∃ c a m, vs = [.ref c] ∧ ChipAt t.C_Chip H c a m ∧ (if m.lf = some 0 then E (.ref t.C_PowerGone) none H else Q .non H)
theorem ok_Chip_check_power (T : Txt K mg t) (S : Fns K t) : FnOk P w K mg base (CXe P w) 2 t.f_Chip_check_power S.fd_Chip_check_power ["self"] (spPW t) := by
  refine S.F_Chip_check_power.okE sc_Chip_check_power (fun vs H Q E h => ?_) (fun cdv A outer s H vs Q E hr h => ?_)
  · obtain ⟨c, a, m, rfl, _⟩ := h
    rfl
  · obtain ⟨c, a, m, rfl, hc, q⟩ := h
    refine ⟨_, (pss_one (ps_if (pt_val (pe_meth0 (pv 0) T.cl_Chip T.m_Chip_is_dark ((ok_Chip_is_dark T S).mono (by decide)) hr S.b_Chip_is_dark .nil pass0)) (pss_one (ps_raise takes_fn rfl rfl T.mg_PowerGone T.x_PowerGone (pa_cons pe_str pa_nil))) pss_nil)), ?_⟩
    refine ⟨_, rfl, c, a.dx, _, rfl, hc.ins, rfl, c, a, m, rfl, hc, _, rfl, ?_⟩
    by_cases z : m.lf = some 0
    · rw [if_pos z] at q
      rw [decide_eq_true z]
      exact iteT ⟨by show 1 ≤ sizeLine; decide, q⟩
    · rw [if_neg z] at q
      rw [decide_eq_false z]
      exact iteF q
def spCD (t : Adr) : Sp := fun vs H Q E => ∃ c a m b, vs = [.ref c, .int b] ∧ ChipAt t.C_Chip H c a m ∧ m.Ok ∧ 0 ≤ b ∧ b < m.bl ∧
  (if m.lf = some 0 then E (.ref t.C_PowerGone) none H else if m.br.getD b.toNat false = true then ∀ dx H', Same H H' → H' dx = some (.xd [("block", .int b)]) → E (.ref t.C_BlockFailed) (some dx) H' else Q .non H)
theorem ok_Chip_check_deed (T : Txt K mg t) (S : Fns K t) : FnOk P w K mg base (CXe P w) 3 t.f_Chip_check_deed S.fd_Chip_check_deed ["self", "block"] (spCD t) := by
  refine S.F_Chip_check_deed.okE sc_Chip_check_deed (fun vs H Q E h => ?_) (fun cdv A outer s H vs Q E hr h => ?_)
  · obtain ⟨c, a, m, b, rfl, _⟩ := h
    rfl
  · obtain ⟨c, a, m, b, rfl, hc, ok, b0, b1, q⟩ := h
    refine ⟨_, (pss_cons (ps_expr (pe_meth0S takes_fn (pv 0) T.cl_Chip T.m_Chip_check_power ((ok_Chip_check_power T S).mono (by decide)) hr S.b_Chip_check_power .nil)) (pss_one (ps_if (pt_val (pe_ix ix_list (pe_fld (pv 0) rfl) (pv 1) (fun _ _ => rfl))) (pss_one (ps_raiseI takes_fn rfl T.xi_BlockFailed ((ok_BlockFailed_init T S).mono (by decide)) hr rfl T.mg_BlockFailed T.kp_BlockFailed S.b_BlockFailed_init .nil (pa_cons (pv 1) pa_nil))) pss_nil))), ?_⟩
    have nb := ok.nbr
    have bl := ok.bl2
    refine ⟨_, rfl, c, a.dx, _, rfl, hc.ins, rfl, c, a, m, rfl, hc, ?_⟩
    by_cases z : m.lf = some 0
    · rw [if_pos z] at q ⊢
      exact q
    · rw [if_neg z] at q ⊢
      refine ⟨_, rfl, c, _, a.dx, _, _, rfl, hc.ins, T.cl_Chip, T.na_Chip_broken, rfl, _, rfl, a.br, _, b, _, rfl, rfl, SqL.of hc.br, getB b0 (by omega), _, rfl, ?_⟩
      cases zb : m.br.getD b.toNat false with
      | false =>
        rw [zb, if_neg (by decide)] at q
        exact iteF q
      | true =>
        rw [zb, if_pos rfl] at q
        refine iteT ⟨_, rfl, by show 1 ≤ sizeLine; decide, fun ea hea => ?_⟩
        refine ⟨ea, b, rfl, T.xi_BlockFailed, T.xa_BlockFailed, T.na_BlockFailed_block, by omega, upd_same, fun dx h1 h2 => ⟨rfl, raise_bf hea q dx h1 h2⟩⟩
def spIS (t : Adr) : Sp := fun vs H Q E => ∃ c a m b, vs = [.ref c, .int b] ∧ ChipAt t.C_Chip H c a m ∧ m.Ok ∧ 0 ≤ b ∧ b < m.bl ∧ Q (.bl (m.spent b)) H
theorem ok_Chip_is_spent (T : Txt K mg t) (S : Fns K t) : FnOk P w K mg base (CX0) 1 t.f_Chip_is_spent S.fd_Chip_is_spent ["self", "block"] (spIS t) := by
  refine S.F_Chip_is_spent.ok0 sc_Chip_is_spent (fun vs H Q E h => ?_) (fun cdv A outer s H vs Q E hr h => ?_)
  · obtain ⟨c, a, m, b, rfl, _⟩ := h
    rfl
  · obtain ⟨c, a, m, b, rfl, hc, ok, b0, b1, q⟩ := h
    have hu := hu_of hr
    refine ⟨_, (pss_one (ps_ret (pe_and (pe_cmp (pc_din hu (pv 1) (pe_fld (pv 0) rfl))) (pe_one (pe_cmpR op_ge (pe_ix ix_list (pe_fld (pv 0) rfl) (pv 1) (fun _ _ => rfl)) (pe_dget hu (pe_fld (pv 0) rfl) (pv 1) (fun _ _ => rfl)) (nomark _)))))), ?_⟩
    have nd := ok.ndc
    refine ⟨_, rfl, _, rfl, c, _, a.dx, _, _, rfl, hc.ins, T.cl_Chip, T.na_Chip_limits, rfl, a.li, _, rfl, DGet.k (k := Sum.inl b) hc.li, _, rfl, ?_⟩
    unfold CM.spent at q
    cases z : valV m.lim (Sum.inl b) with
    | none =>
      rw [z] at q
      exact iteF q
    | some v =>
      obtain ⟨n, rfl⟩ := ok.lim b v z
      rw [z] at q
      refine iteT ⟨_, rfl, c, _, a.dx, _, _, rfl, hc.ins, T.cl_Chip, T.na_Chip_deed_counts, rfl, _, rfl, a.dc, _, b, _, rfl, rfl, SqL.of hc.dc, getI b0 (by omega), ?_⟩
      refine ⟨_, rfl, c, _, a.dx, _, _, rfl, hc.ins, T.cl_Chip, T.na_Chip_limits, rfl, _, rfl, a.li, _, rfl, ?_, _, _, rfl, rfl, q⟩
      have := DGet.k (k := Sum.inl b) hc.li
      rw [z] at this
      exact this
def spDD (t : Adr) : Sp := fun vs H Q E => ∃ c a m w pl b f, vs = [.ref c, .str w, .int pl, .int b, .bl f] ∧ ChipAt t.C_Chip H c a m ∧ m.Ok ∧ m.rc.length < 1000000 ∧ 0 ≤ b ∧ b < m.bl ∧
  ∀ H', ChipAt t.C_Chip H' c a (m.deed w pl b f) → Keep (foot c a) H H' → (if f = true then ∀ dx, H' dx = some (.xd [("block", .int b)]) → E (.ref t.C_BlockFailed) (some dx) H' else Q .non H')
theorem ok_Chip_do_deed (T : Txt K mg t) (S : Fns K t) : FnOk P w K mg base (CXe P w) 3 t.f_Chip_do_deed S.fd_Chip_do_deed ["self", "word", "place", "block", "fails"] (spDD t) := by
  refine S.F_Chip_do_deed.okE sc_Chip_do_deed (fun vs H Q E h => ?_) (fun cdv A outer s H vs Q E hr h => ?_)
  · obtain ⟨c, a, m, w, pl, b, f, rfl, _⟩ := h
    rfl
  · obtain ⟨c, a, m, w, pl, b, f, rfl, hc, ok, hr1, b0, b1, q⟩ := h
    refine ⟨_, (pss_cons (ps_if (pt_cmpR op_notN (pe_fld (pv 0) rfl) pe_non (nomark _)) (pss_one (ps_fldaug (pv 0) pe_int in_sub)) pss_nil) (pss_cons (ps_augS (pe_fld (pv 0) rfl) (pv 3) get_list pe_int ip_add set_list) (pss_cons (ps_expr (pe_bm PySem.F.plainAttrs_list PySem.F.slot_list_append PySem.F.type_list_append mt_append (pe_fld (pv 0) rfl) (pa_cons (pe_tupN (pa_cons (pv 1) (pa_cons (pv 2) (pa_cons (pe_not (pv 4)) pa_nil)))) pa_nil star_tup))) (pss_one (ps_if (pt_val (pv 4)) (pss_cons (ps_asg pe_bl (pg_sub (pe_fld (pv 0) rfl) (pv 3) set_list)) (pss_one (ps_raiseI takes_fn rfl T.xi_BlockFailed ((ok_BlockFailed_init T S).mono (by decide)) hr rfl T.mg_BlockFailed T.kp_BlockFailed S.b_BlockFailed_init .nil (pa_cons (pv 3) pa_nil)))) pss_nil))))), ?_⟩
    have nd := ok.ndc
    have nb := ok.nbr
    have bl := ok.bl2
    refine ⟨_, rfl, c, _, a.dx, _, _, rfl, hc.ins, T.cl_Chip, T.na_Chip_deeds_left, rfl, rfl, _, rfl, ?_⟩
    have cs : m.lf = none ∨ ∃ i, m.lf = some i := by
      cases m.lf with
      | none => exact .inl rfl
      | some i => exact .inr ⟨i, rfl⟩
    have kf : ∀ v, Keep (foot c a) H (upd H c (.ins t.C_Chip a.dx (chF a { m with lf := v }))) := fun v => Keep.upd hc.ins (fun _ z => by cases z) (by simp [foot])
    rcases cs with hl | ⟨i, hl⟩
    · rw [show lfV m.lf = V.non from by rw [hl]; rfl]
      refine iteF ?_
      have hc1 : ChipAt t.C_Chip H c a { m with lf := m.lf.map (· - 1) } := by
        rw [hl]
        show ChipAt t.C_Chip H c a { m with lf := none }
        rw [← hl]
        exact hc
      obtain ⟨H1, e⟩ : ∃ H1 : Hp, H1 = H := ⟨H, rfl⟩
      have k1 : Keep (foot c a) H H1 := by rw [e]; exact Keep.refl
      rw [← e] at hc1 ⊢
      clear e
      refine ⟨_, rfl, c, _, a.dx, _, _, rfl, hc1.ins, T.cl_Chip, T.na_Chip_deed_counts, rfl, _, rfl, a.dc, _, b, _, rfl, rfl, SqL.of hc1.dc, getI b0 (by show b < (m.dc.length : Int); omega), _, _, rfl, rfl, a.dc, _, b, b.toNat, rfl, rfl, hc1.dc, by rw [List.length_map]; exact ixOk b0 (by show b < (m.dc.length : Int); omega), ?_⟩
      rw [← List.map_set]
      have hc2 := hc1.setDc (m.dc.set b.toNat (m.dc.getD b.toNat 0 + 1))
      have k2 := k1.trans (Keep.upd (o := .lst ((m.dc.set b.toNat (m.dc.getD b.toNat 0 + 1)).map V.int)) hc1.dc (fun _ z => by cases z) (by simp [foot]))
      generalize upd H1 a.dc (.lst ((m.dc.set b.toNat (m.dc.getD b.toNat 0 + 1)).map V.int)) = H2 at hc2 k2 ⊢
      obtain ⟨rs, er, pr⟩ := hc2.rc
      have ln : rs.length ≤ 1000000 := by
        rw [pr.len]
        exact Nat.le_of_lt hr1
      refine ⟨_, rfl, c, _, a.dx, _, _, rfl, hc2.ins, T.cl_Chip, T.na_Chip_record, rfl, .inl ⟨rfl, _, SqL.of er⟩, _, rfl, _, rfl, _, rfl, _, rfl, by show 3 ≤ sizeLine; decide, fun p H3 np sm hp => ?_⟩
      have hc3 := hc2.same sm
      have er3 := sm _ _ er
      refine ⟨a.rc, rs, _, rfl, rfl, er3, Nat.lt_of_le_of_lt ln (by decide), ?_⟩
      have hc4 := hc3.addRc (d := (w, pl, !f)) er3 hp
      have k4 := (k2.trans (Keep.same sm)).trans (Keep.upd (o := .lst (rs ++ [.ref p])) er3 (fun _ z => by cases z) (by simp [foot]))
      generalize upd H3 a.rc (.lst (rs ++ [.ref p])) = H4 at hc4 k4 ⊢
      refine ⟨_, rfl, _, rfl, ?_⟩
      cases f with
      | false =>
        have q1 := q H4 hc4 k4
        rw [if_neg (by decide)] at q1
        exact iteF q1
      | true =>
        refine iteT ⟨_, rfl, c, _, a.dx, _, _, rfl, hc4.ins, T.cl_Chip, T.na_Chip_broken, rfl, _, rfl, a.br, _, b, b.toNat, rfl, rfl, hc4.br, by rw [List.length_map]; exact ixOk b0 (by show b < (m.br.length : Int); omega), ?_⟩
        have hc5 := hc4.setBr (m.br.set b.toNat true)
        have k5 := k4.trans (Keep.upd (o := .lst ((m.br.set b.toNat true).map V.bl)) hc4.br (fun _ z => by cases z) (by simp [foot]))
        rw [← List.map_set]
        generalize upd H4 a.br (.lst ((m.br.set b.toNat true).map V.bl)) = H5 at hc5 k5 ⊢
        refine ⟨_, rfl, by show 1 ≤ sizeLine; decide, fun ea hea => ?_⟩
        refine ⟨ea, b, rfl, T.xi_BlockFailed, T.xa_BlockFailed, T.na_BlockFailed_block, by omega, upd_same, fun dx h1 h2 => ⟨rfl, raise_bf hea (fun dx' H' sm' hd => ?_) dx h1 h2⟩⟩
        have q1 := q H' (hc5.same sm') (k5.trans (Keep.same sm'))
        rw [if_pos rfl] at q1
        exact q1 dx' hd
    · rw [show lfV m.lf = V.int i from by rw [hl]; rfl]
      refine iteT ?_
      refine ⟨_, rfl, c, _, a.dx, _, _, rfl, hc.ins, T.cl_Chip, T.na_Chip_deeds_left, rfl, i, 1, by rw [hl]; rfl, rfl, a.dx, _, hc.ins, (by show 10 < 1000; decide), ?_⟩
      have hc1 := hc.setLf (m.lf.map (· - 1))
      have k1 := kf (m.lf.map (· - 1))
      have e : putF "deeds_left" (V.int (i - 1)) (chF a m) = chF a { m with lf := m.lf.map (· - 1) } := by rw [hl]; rfl
      rw [e]
      generalize upd H c (.ins t.C_Chip a.dx (chF a { m with lf := m.lf.map (· - 1) })) = H1 at hc1 k1 ⊢
      clear e
      refine ⟨_, rfl, c, _, a.dx, _, _, rfl, hc1.ins, T.cl_Chip, T.na_Chip_deed_counts, rfl, _, rfl, a.dc, _, b, _, rfl, rfl, SqL.of hc1.dc, getI b0 (by show b < (m.dc.length : Int); omega), _, _, rfl, rfl, a.dc, _, b, b.toNat, rfl, rfl, hc1.dc, by rw [List.length_map]; exact ixOk b0 (by show b < (m.dc.length : Int); omega), ?_⟩
      rw [← List.map_set]
      have hc2 := hc1.setDc (m.dc.set b.toNat (m.dc.getD b.toNat 0 + 1))
      have k2 := k1.trans (Keep.upd (o := .lst ((m.dc.set b.toNat (m.dc.getD b.toNat 0 + 1)).map V.int)) hc1.dc (fun _ z => by cases z) (by simp [foot]))
      generalize upd H1 a.dc (.lst ((m.dc.set b.toNat (m.dc.getD b.toNat 0 + 1)).map V.int)) = H2 at hc2 k2 ⊢
      obtain ⟨rs, er, pr⟩ := hc2.rc
      have ln : rs.length ≤ 1000000 := by
        rw [pr.len]
        exact Nat.le_of_lt hr1
      refine ⟨_, rfl, c, _, a.dx, _, _, rfl, hc2.ins, T.cl_Chip, T.na_Chip_record, rfl, .inl ⟨rfl, _, SqL.of er⟩, _, rfl, _, rfl, _, rfl, _, rfl, by show 3 ≤ sizeLine; decide, fun p H3 np sm hp => ?_⟩
      have hc3 := hc2.same sm
      have er3 := sm _ _ er
      refine ⟨a.rc, rs, _, rfl, rfl, er3, Nat.lt_of_le_of_lt ln (by decide), ?_⟩
      have hc4 := hc3.addRc (d := (w, pl, !f)) er3 hp
      have k4 := (k2.trans (Keep.same sm)).trans (Keep.upd (o := .lst (rs ++ [.ref p])) er3 (fun _ z => by cases z) (by simp [foot]))
      generalize upd H3 a.rc (.lst (rs ++ [.ref p])) = H4 at hc4 k4 ⊢
      refine ⟨_, rfl, _, rfl, ?_⟩
      cases f with
      | false =>
        have q1 := q H4 hc4 k4
        rw [if_neg (by decide)] at q1
        exact iteF q1
      | true =>
        refine iteT ⟨_, rfl, c, _, a.dx, _, _, rfl, hc4.ins, T.cl_Chip, T.na_Chip_broken, rfl, _, rfl, a.br, _, b, b.toNat, rfl, rfl, hc4.br, by rw [List.length_map]; exact ixOk b0 (by show b < (m.br.length : Int); omega), ?_⟩
        have hc5 := hc4.setBr (m.br.set b.toNat true)
        have k5 := k4.trans (Keep.upd (o := .lst ((m.br.set b.toNat true).map V.bl)) hc4.br (fun _ z => by cases z) (by simp [foot]))
        rw [← List.map_set]
        generalize upd H4 a.br (.lst ((m.br.set b.toNat true).map V.bl)) = H5 at hc5 k5 ⊢
        refine ⟨_, rfl, by show 1 ≤ sizeLine; decide, fun ea hea => ?_⟩
        refine ⟨ea, b, rfl, T.xi_BlockFailed, T.xa_BlockFailed, T.na_BlockFailed_block, by omega, upd_same, fun dx h1 h2 => ⟨rfl, raise_bf hea (fun dx' H' sm' hd => ?_) dx h1 h2⟩⟩
        have q1 := q H' (hc5.same sm') (k5.trans (Keep.same sm'))
        rw [if_pos rfl] at q1
        exact q1 dx' hd
def spPut (t : Adr) : Sp := fun vs H Q E => ∃ c a m x st, vs = [.ref c, x, st] ∧ ChipAt t.C_Chip H c a m ∧ m.Ok ∧ m.rc.length < 1000000 ∧ Knd H x ∧ ∀ H', ChipAt t.C_Chip H' c a (m.put x st).1 → Keep (foot c a) H H' → outs t (m.put x st).2 Q E H'
theorem ok_Chip_put (T : Txt K mg t) (S : Fns K t) : FnOk P w K mg base (CXe P w) 4 t.f_Chip_put S.fd_Chip_put ["self", "page", "stuff"] (spPut t) := by
  refine S.F_Chip_put.okE sc_Chip_put (fun vs H Q E h => ?_) (fun cdv A outer s H vs Q E hr h => ?_)
  · obtain ⟨c, a, m, x, st, rfl, _⟩ := h
    rfl
  · obtain ⟨c, a, m, x, st, rfl, hc, ok, hr1, kn, q⟩ := h
    refine ⟨_, (pss_cons (ps_expr (pe_methS takes_fn (pv 0) T.cl_Chip T.m_Chip_check_page ((ok_Chip_check_page T S).mono (by decide)) hr S.b_Chip_check_page .nil (pa_cons (pv 1) pa_nil))) (pss_cons (ps_set (i := 3) sc_Chip_put.nd rfl (Or.inl rfl) (pe_op op_fdiv (pv 1) (pe_fld (pv 0) rfl))) (pss_cons (ps_expr (pe_methS takes_fn (pv 0) T.cl_Chip T.m_Chip_check_deed ((ok_Chip_check_deed T S).mono (by decide)) hr S.b_Chip_check_deed .nil (pa_cons (pv 3) pa_nil))) (pss_cons (ps_if (pt_cmpR op_notN (pe_ix ix_list (pe_fld (pv 0) rfl) (pv 1) (fun _ _ => rfl)) pe_non (nomark _)) (pss_one (ps_raiseI takes_fn rfl T.xi_NotClear ((ok_NotClear_init T S).mono (by decide)) hr rfl T.mg_NotClear T.kp_NotClear S.b_NotClear_init .nil (pa_cons (pv 1) pa_nil))) pss_nil) (pss_cons (ps_expr (pe_methS takes_fn (pv 0) T.cl_Chip T.m_Chip_do_deed ((ok_Chip_do_deed T S).mono (by decide)) hr S.b_Chip_do_deed .nil (pa_cons pe_str (pa_cons (pv 1) (pa_cons (pv 3) (pa_cons (pe_meth (pv 0) T.cl_Chip T.m_Chip_is_spent ((ok_Chip_is_spent T S).mono (by decide)) hr S.b_Chip_is_spent .nil pass0 (pa_cons (pv 3) pa_nil)) pa_nil)))))) (pss_one (ps_asg (pv 2) (pg_sub (pe_fld (pv 0) rfl) (pv 1) set_list)))))))), ?_⟩
    refine ⟨_, rfl, c, a.dx, _, rfl, hc.ins, rfl, _, rfl, c, a, m, x, rfl, hc, ok, kn, ?_⟩
    by_cases hin : inB x 0 (m.bl * m.pg - 1) = true
    · rw [if_pos hin]
      obtain ⟨p, rfl, p0, p1⟩ := inB_int hin
      have pg1 := ok.pg1
      have pg2 := ok.pg2
      have bl1 := ok.bl2
      have nbo := ok.nbo
      obtain ⟨b0, b1⟩ := blk_in ok p0 p1
      refine ⟨_, rfl, _, rfl, c, _, a.dx, _, _, rfl, hc.ins, T.cl_Chip, T.na_Chip_pages, rfl, _, _, rfl, rfl, ⟨by omega, by omega⟩, ?_⟩
      refine ⟨_, rfl, c, a.dx, _, rfl, hc.ins, rfl, _, rfl, c, a, m, p / m.pg, rfl, hc, ok, b0, b1, ?_⟩
      have eput : m.put (.int p) st = (if m.lf = some 0 then (m, .dark) else if m.br.getD (p / m.pg).toNat false then (m, .failed (p / m.pg)) else if m.bo.getD p.toNat .non ≠ .non then (m, .written p) else
        (if m.spent (p / m.pg) then (m.deed "put" p (p / m.pg) true, .failed (p / m.pg)) else ({ m.deed "put" p (p / m.pg) false with bo := m.bo.set p.toNat st }, .done))) := if_pos ⟨p0, p1⟩
      by_cases hd : m.lf = some 0
      · rw [if_pos hd] at eput ⊢
        rw [eput] at q
        exact q H hc Keep.refl
      · rw [if_neg hd] at eput ⊢
        cases hb : m.br.getD (p / m.pg).toNat false with
        | true =>
          rw [hb, if_pos rfl] at eput
          rw [if_pos rfl]
          rw [eput] at q
          intro dx H' sm hx
          exact q H' (hc.same sm) (Keep.same sm) dx hx
        | false =>
          rw [hb, if_neg (by decide)] at eput
          rw [if_neg (by decide)]
          refine ⟨_, rfl, c, _, a.dx, _, _, rfl, hc.ins, T.cl_Chip, T.na_Chip_borne, rfl, _, rfl, a.bo, _, p, _, rfl, rfl, SqL.of hc.bo, getV p0 (by omega), rfl, _, rfl, ?_⟩
          by_cases hw : m.bo.getD p.toNat .non = .non
          · rw [if_neg (fun z => z hw)] at eput
            rw [decide_eq_true hw]
            refine iteF ?_
            refine ⟨_, rfl, c, a.dx, _, rfl, hc.ins, rfl, _, rfl, _, rfl, _, rfl, c, a.dx, _, rfl, hc.ins, rfl, _, rfl, c, a, m, p / m.pg, rfl, hc, ok, b0, b1, ?_⟩
            refine ⟨c, a, m, "put", p, p / m.pg, m.spent (p / m.pg), rfl, hc, ok, hr1, b0, b1, fun H' hc' k' => ?_⟩
            cases hs : m.spent (p / m.pg) with
            | true =>
              rw [hs, if_pos rfl] at eput
              rw [if_pos rfl]
              rw [eput] at q
              rw [hs] at hc'
              intro dx hx
              exact q H' hc' k' dx hx
            | false =>
              rw [hs, if_neg (by decide)] at eput
              rw [if_neg (by decide)]
              rw [eput] at q
              rw [hs] at hc'
              refine ⟨_, rfl, _, rfl, c, _, a.dx, _, _, rfl, hc'.ins, T.cl_Chip, T.na_Chip_borne, rfl, _, rfl, a.bo, _, p, p.toNat, rfl, rfl, hc'.bo, ixOk p0 (by show p < (m.bo.length : Int); omega), ?_⟩
              exact q _ (hc'.setBo (m.bo.set p.toNat st)) (k'.trans (Keep.upd hc'.bo (fun _ z => by cases z) (by simp [foot])))
          · rw [if_pos hw] at eput
            rw [decide_eq_false hw]
            refine iteT ⟨_, rfl, by show 1 ≤ sizeLine; decide, fun ea hea => ?_⟩
            refine ⟨ea, p, rfl, T.xi_NotClear, T.xa_NotClear, T.na_NotClear_page, by have := Int.mul_le_mul bl1 pg2 (by omega) (by decide); omega, upd_same, fun dx h1 h2 => ⟨rfl, raise_bf hea (fun dx' H' sm' hd' => ?_) dx h1 h2⟩⟩
            rw [eput] at q
            exact q H' (hc.same sm') (Keep.same sm') dx' hd'
    · rw [if_neg hin]
      rw [put_no hin] at q
      exact q H hc Keep.refl
def spRead (t : Adr) : Sp := fun vs H Q E => ∃ c a m x, vs = [.ref c, x] ∧ ChipAt t.C_Chip H c a m ∧ m.Ok ∧ Knd H x ∧ outs t (m.rd x).2 (fun _ H' => Q (m.rd x).1 H') E H
theorem ok_Chip_read (T : Txt K mg t) (S : Fns K t) : FnOk P w K mg base (CXe P w) 4 t.f_Chip_read S.fd_Chip_read ["self", "page"] (spRead t) := by
  refine S.F_Chip_read.okE sc_Chip_read (fun vs H Q E h => ?_) (fun cdv A outer s H vs Q E hr h => ?_)
  · obtain ⟨c, a, m, x, rfl, _⟩ := h
    rfl
  · obtain ⟨c, a, m, x, rfl, hc, ok, kn, q⟩ := h
    refine ⟨_, (pss_cons (ps_expr (pe_methS takes_fn (pv 0) T.cl_Chip T.m_Chip_check_page ((ok_Chip_check_page T S).mono (by decide)) hr S.b_Chip_check_page .nil (pa_cons (pv 1) pa_nil))) (pss_cons (ps_expr (pe_meth0S takes_fn (pv 0) T.cl_Chip T.m_Chip_check_power ((ok_Chip_check_power T S).mono (by decide)) hr S.b_Chip_check_power .nil)) (pss_one (ps_ret (pe_ix ix_list (pe_fld (pv 0) rfl) (pv 1) (fun _ _ => rfl)))))), ?_⟩
    refine ⟨_, rfl, c, a.dx, _, rfl, hc.ins, rfl, _, rfl, c, a, m, x, rfl, hc, ok, kn, ?_⟩
    by_cases hin : inB x 0 (m.bl * m.pg - 1) = true
    · rw [if_pos hin]
      obtain ⟨p, rfl, p0, p1⟩ := inB_int hin
      have nbo := ok.nbo
      have e : m.rd (.int p) = (if m.lf = some 0 then (.non, .dark) else (m.bo.getD p.toNat .non, .done)) := if_pos ⟨p0, p1⟩
      refine ⟨_, rfl, c, a.dx, _, rfl, hc.ins, rfl, c, a, m, rfl, hc, ?_⟩
      by_cases hd : m.lf = some 0
      · rw [if_pos hd] at e ⊢
        rw [e] at q
        exact q
      · rw [if_neg hd] at e ⊢
        rw [e] at q
        exact ⟨_, rfl, c, _, a.dx, _, _, rfl, hc.ins, T.cl_Chip, T.na_Chip_borne, rfl, _, rfl, a.bo, _, p, _, rfl, rfl, SqL.of hc.bo, getV p0 (by omega), q⟩
    · rw [if_neg hin]
      rw [rd_no hin] at q
      exact q
def spCl (t : Adr) : Sp := fun vs H Q E => ∃ c a m x, vs = [.ref c, x] ∧ ChipAt t.C_Chip H c a m ∧ m.Ok ∧ Knd H x ∧ (match x with | .int b => if 0 ≤ b ∧ b ≤ m.bl - 1 then Q (.int (m.cl.getD b.toNat 0)) H else E (.ref t.C_NoPlace) none H | _ => E (.ref t.C_NoPlace) none H)
theorem ok_Chip_cleared (T : Txt K mg t) (S : Fns K t) : FnOk P w K mg base (CXe P w) 4 t.f_Chip_cleared S.fd_Chip_cleared ["self", "block"] (spCl t) := by
  refine S.F_Chip_cleared.okE sc_Chip_cleared (fun vs H Q E h => ?_) (fun cdv A outer s H vs Q E hr h => ?_)
  · obtain ⟨c, a, m, x, rfl, _⟩ := h
    rfl
  · obtain ⟨c, a, m, x, rfl, hc, ok, kn, q⟩ := h
    refine ⟨_, (pss_cons (ps_expr (pe_methS takes_fn (pv 0) T.cl_Chip T.m_Chip_check_block ((ok_Chip_check_block T S).mono (by decide)) hr S.b_Chip_check_block .nil (pa_cons (pv 1) pa_nil))) (pss_one (ps_ret (pe_ix ix_list (pe_fld (pv 0) rfl) (pv 1) (fun _ _ => rfl))))), ?_⟩
    have n := ok.ncl
    refine ⟨_, rfl, c, a.dx, _, rfl, hc.ins, rfl, _, rfl, c, a, m, x, rfl, hc, kn, ?_⟩
    by_cases hin : inB x 0 (m.bl - 1) = true
    · rw [if_pos hin]
      obtain ⟨b, rfl, b0, b1⟩ := inB_int hin
      have q : if 0 ≤ b ∧ b ≤ m.bl - 1 then Q (.int (m.cl.getD b.toNat 0)) H else E (.ref t.C_NoPlace) none H := q
      rw [if_pos ⟨b0, b1⟩] at q
      exact ⟨_, rfl, c, _, a.dx, _, _, rfl, hc.ins, T.cl_Chip, T.na_Chip_clearings, rfl, _, rfl, a.cl, _, b, _, rfl, rfl, SqL.of hc.cl, getI b0 (by omega), q⟩
    · rw [if_neg hin]
      cases x with
      | int b =>
        have q : if 0 ≤ b ∧ b ≤ m.bl - 1 then Q (.int (m.cl.getD b.toNat 0)) H else E (.ref t.C_NoPlace) none H := q
        rw [if_neg (inB_no hin)] at q
        exact q
      | _ => exact q
def spFa (t : Adr) : Sp := fun vs H Q E => ∃ c a m x, vs = [.ref c, x] ∧ ChipAt t.C_Chip H c a m ∧ m.Ok ∧ Knd H x ∧ (match x with | .int b => if 0 ≤ b ∧ b ≤ m.bl - 1 then Q (.bl (m.br.getD b.toNat false)) H else E (.ref t.C_NoPlace) none H | _ => E (.ref t.C_NoPlace) none H)
theorem ok_Chip_failed (T : Txt K mg t) (S : Fns K t) : FnOk P w K mg base (CXe P w) 4 t.f_Chip_failed S.fd_Chip_failed ["self", "block"] (spFa t) := by
  refine S.F_Chip_failed.okE sc_Chip_failed (fun vs H Q E h => ?_) (fun cdv A outer s H vs Q E hr h => ?_)
  · obtain ⟨c, a, m, x, rfl, _⟩ := h
    rfl
  · obtain ⟨c, a, m, x, rfl, hc, ok, kn, q⟩ := h
    refine ⟨_, (pss_cons (ps_expr (pe_methS takes_fn (pv 0) T.cl_Chip T.m_Chip_check_block ((ok_Chip_check_block T S).mono (by decide)) hr S.b_Chip_check_block .nil (pa_cons (pv 1) pa_nil))) (pss_one (ps_ret (pe_ix ix_list (pe_fld (pv 0) rfl) (pv 1) (fun _ _ => rfl))))), ?_⟩
    have n := ok.nbr
    refine ⟨_, rfl, c, a.dx, _, rfl, hc.ins, rfl, _, rfl, c, a, m, x, rfl, hc, kn, ?_⟩
    by_cases hin : inB x 0 (m.bl - 1) = true
    · rw [if_pos hin]
      obtain ⟨b, rfl, b0, b1⟩ := inB_int hin
      have q : if 0 ≤ b ∧ b ≤ m.bl - 1 then Q (.bl (m.br.getD b.toNat false)) H else E (.ref t.C_NoPlace) none H := q
      rw [if_pos ⟨b0, b1⟩] at q
      exact ⟨_, rfl, c, _, a.dx, _, _, rfl, hc.ins, T.cl_Chip, T.na_Chip_broken, rfl, _, rfl, a.br, _, b, _, rfl, rfl, SqL.of hc.br, getB b0 (by omega), q⟩
    · rw [if_neg hin]
      cases x with
      | int b =>
        have q : if 0 ≤ b ∧ b ≤ m.bl - 1 then Q (.bl (m.br.getD b.toNat false)) H else E (.ref t.C_NoPlace) none H := q
        rw [if_neg (inB_no hin)] at q
        exact q
      | _ => exact q
def spDe (t : Adr) : Sp := fun vs H Q E => ∃ c a m, vs = [.ref c] ∧ ChipAt t.C_Chip H c a m ∧ ∀ rs, H a.rc = some (.lst rs) → Recd H rs m.rc → NewO H (.lst rs) Q
theorem ok_Chip_deeds (T : Txt K mg t) (S : Fns K t) : FnOk P w K mg base (CX0) 1 t.f_Chip_deeds S.fd_Chip_deeds ["self"] (spDe t) := by
  refine S.F_Chip_deeds.ok0 sc_Chip_deeds (fun vs H Q E h => ?_) (fun cdv A outer s H vs Q E hr h => ?_)
  · obtain ⟨c, a, m, rfl, _⟩ := h
    rfl
  · obtain ⟨c, a, m, rfl, hc, q⟩ := h
    refine ⟨_, (pss_one (ps_ret (pe_callTy call_list_ofN (by rfl) T.b_list (by kernel_rfl) (pa_cons (pe_fld (pv 0) rfl) pa_nil)))), ?_⟩
    obtain ⟨rs, er, pr⟩ := hc.rc
    exact ⟨_, rfl, c, _, a.dx, _, _, rfl, hc.ins, T.cl_Chip, T.na_Chip_record, rfl, a.rc, rs, rfl, .inl (SqL.of er), q rs er pr⟩
def spCut (t : Adr) : Sp := fun vs H Q E => ∃ c a m x, vs = [.ref c, x] ∧ ChipAt t.C_Chip H c a m ∧ Knd H x ∧ (match x with
  | .int i => if 0 ≤ i ∧ i ≤ 1000000 then ∀ H', ChipAt t.C_Chip H' c a { m with lf := some i } → Keep (foot c a) H H' → Q .non H' else E (.ref t.C_NoValue) none H
  | _ => E (.ref t.C_NoValue) none H)
theorem ok_Chip_cut_after (T : Txt K mg t) (S : Fns K t) : FnOk P w K mg base (CXe P w) 3 t.f_Chip_cut_after S.fd_Chip_cut_after ["self", "deeds"] (spCut t) := by
  refine S.F_Chip_cut_after.okE sc_Chip_cut_after (fun vs H Q E h => ?_) (fun cdv A outer s H vs Q E hr h => ?_)
  · obtain ⟨c, a, m, x, rfl, _⟩ := h
    rfl
  · obtain ⟨c, a, m, x, rfl, hc, kn, q⟩ := h
    refine ⟨_, (pss_cons (ps_if (pt_not (pt_val (pe_call ((ok_is_within T S).mono (by decide)) hr rfl T.mg_is_within T.kp_is_within S.b_is_within .nil pass0 (pa_cons (pv 1) (pa_cons pe_int (pa_cons (pe_glob rfl T.mg_MOST_TOLD ⟨_, rfl⟩ (v := .int 1000000)) pa_nil)))))) (pss_one (ps_raise takes_fn rfl rfl T.mg_NoValue T.x_NoValue (pa_cons pe_str pa_nil))) pss_nil) (pss_one (ps_fld (pv 0) (pv 1) rfl))), ?_⟩
    refine ⟨_, rfl, x, _, _, rfl, kn, _, rfl, ?_⟩
    by_cases hin : inB x 0 1000000 = true
    · rw [hin]
      refine iteF ?_
      obtain ⟨i, rfl, i0, i1⟩ := inB_int hin
      have q : if 0 ≤ i ∧ i ≤ 1000000 then ∀ H', ChipAt t.C_Chip H' c a { m with lf := some i } → Keep (foot c a) H H' → Q .non H' else E (.ref t.C_NoValue) none H := q
      rw [if_pos ⟨i0, i1⟩] at q
      refine ⟨_, rfl, _, rfl, c, _, a.dx, _, rfl, hc.ins, T.cl_Chip, T.na_Chip_deeds_left, (by show 10 < 1000; decide), ?_⟩
      exact q _ (hc.setLf (some i)) (Keep.upd hc.ins (fun _ z => by cases z) (by simp [foot]))
    · rw [Bool.eq_false_iff.mpr hin]
      refine iteT ⟨by show 1 ≤ sizeLine; decide, ?_⟩
      cases x with
      | int i =>
        have q : if 0 ≤ i ∧ i ≤ 1000000 then ∀ H', ChipAt t.C_Chip H' c a { m with lf := some i } → Keep (foot c a) H H' → Q .non H' else E (.ref t.C_NoValue) none H := q
        rw [if_neg (inB_no hin)] at q
        exact q
      | _ => exact q
def spWipe (t : Adr) : Sp := fun vs H Q E => ∃ c a m x, vs = [.ref c, x] ∧ ChipAt t.C_Chip H c a m ∧ m.Ok ∧ m.rc.length < 1000000 ∧ Knd H x ∧ ∀ H', ChipAt t.C_Chip H' c a (m.wipe x).1 → Keep (foot c a) H H' → outs t (m.wipe x).2 Q E H'
theorem ok_Chip_wipe (T : Txt K mg t) (S : Fns K t) : FnOk P w K mg base (CXe P w) 4 t.f_Chip_wipe S.fd_Chip_wipe ["self", "block"] (spWipe t) := by
  refine S.F_Chip_wipe.okE sc_Chip_wipe (fun vs H Q E h => ?_) (fun cdv A outer s H vs Q E hr h => ?_)
  · obtain ⟨c, a, m, x, rfl, _⟩ := h
    rfl
  · obtain ⟨c, a, m, x, rfl, hc, ok, hr1, kn, q⟩ := h
    refine ⟨_, (pss_cons (ps_expr (pe_methS takes_fn (pv 0) T.cl_Chip T.m_Chip_check_block ((ok_Chip_check_block T S).mono (by decide)) hr S.b_Chip_check_block .nil (pa_cons (pv 1) pa_nil))) (pss_cons (ps_expr (pe_methS takes_fn (pv 0) T.cl_Chip T.m_Chip_check_deed ((ok_Chip_check_deed T S).mono (by decide)) hr S.b_Chip_check_deed .nil (pa_cons (pv 1) pa_nil))) (pss_cons (ps_set (i := 2) sc_Chip_wipe.nd rfl (Or.inl rfl) (pe_or (pe_meth (pv 0) T.cl_Chip T.m_Chip_is_spent ((ok_Chip_is_spent T S).mono (by decide)) hr S.b_Chip_is_spent .nil pass0 (pa_cons (pv 1) pa_nil)) (pe_one (pe_cmpR op_ge (pe_ix ix_list (pe_fld (pv 0) rfl) (pv 1) (fun _ _ => rfl)) (pe_fld (pv 0) rfl) (nomark _))))) (pss_cons (ps_expr (pe_methS takes_fn (pv 0) T.cl_Chip T.m_Chip_do_deed ((ok_Chip_do_deed T S).mono (by decide)) hr S.b_Chip_do_deed .nil (pa_cons pe_str (pa_cons (pv 1) (pa_cons (pv 1) (pa_cons (pv 2) pa_nil)))))) (pss_cons (ps_set (i := 3) sc_Chip_wipe.nd rfl (Or.inl rfl) (pe_op op_mul (pv 1) (pe_fld (pv 0) rfl))) (pss_cons (ps_for PassesOwn.leaving rfl (pi_range2 rfl T.b_range (pa_cons (pv 3) (pa_cons (pe_op op_add (pv 3) (pe_fld (pv 0) rfl)) pa_nil))) (pg_name (i := 4) sc_Chip_wipe.nd rfl (Or.inl rfl)) (pss_one (ps_asg pe_non (pg_sub (pe_fld (pv 0) rfl) (pv 4) set_list)))) (pss_one (ps_augS (pe_fld (pv 0) rfl) (pv 1) get_list pe_int ip_add set_list)))))))), ?_⟩
    refine ⟨_, rfl, c, a.dx, _, rfl, hc.ins, rfl, _, rfl, c, a, m, x, rfl, hc, kn, ?_⟩
    by_cases hin : inB x 0 (m.bl - 1) = true
    · rw [if_pos hin]
      obtain ⟨b, rfl, b0, b1⟩ := inB_int hin
      have pg1 := ok.pg1
      have pg2 := ok.pg2
      have bl1 := ok.bl2
      have nbo := ok.nbo
      have ncl := ok.ncl
      refine ⟨_, rfl, c, a.dx, _, rfl, hc.ins, rfl, _, rfl, c, a, m, b, rfl, hc, ok, b0, by omega, ?_⟩
      have ew : m.wipe (.int b) = (if m.lf = some 0 then (m, .dark) else if m.br.getD b.toNat false then (m, .failed b) else
        (if m.spent b || decide (m.mo ≤ m.cl.getD b.toNat 0) then (m.deed "wipe" b b true, .failed b) else
          ({ m.deed "wipe" b b false with bo := clr m.bo (b * m.pg).toNat m.pg.toNat, cl := m.cl.set b.toNat (m.cl.getD b.toNat 0 + 1) }, .done))) := if_pos ⟨b0, b1⟩
      by_cases hd : m.lf = some 0
      · rw [if_pos hd] at ew ⊢
        rw [ew] at q
        exact q H hc Keep.refl
      · rw [if_neg hd] at ew ⊢
        cases hb : m.br.getD b.toNat false with
        | true =>
          rw [hb, if_pos rfl] at ew
          rw [if_pos rfl]
          rw [ew] at q
          intro dx H' sm hx
          exact q H' (hc.same sm) (Keep.same sm) dx hx
        | false =>
          rw [hb, if_neg (by decide)] at ew
          rw [if_neg (by decide)]
          refine ⟨_, rfl, c, a.dx, _, rfl, hc.ins, rfl, _, rfl, c, a, m, b, rfl, hc, ok, b0, by omega, _, rfl, ?_⟩
          cases hs : m.spent b with
          | true =>
            rw [hs, Bool.true_or] at ew
            refine iteT ?_
            refine ⟨_, rfl, c, a.dx, _, rfl, hc.ins, rfl, _, rfl, _, rfl, _, rfl, c, a, m, "wipe", b, b, true, rfl, hc, ok, hr1, b0, by omega, fun H' hc' k' => ?_⟩
            rw [if_pos rfl] at ew ⊢
            rw [ew] at q
            intro dx hx
            exact q H' hc' k' dx hx
          | false =>
            rw [hs, Bool.false_or] at ew
            refine iteF ?_
            refine ⟨_, rfl, c, _, a.dx, _, _, rfl, hc.ins, T.cl_Chip, T.na_Chip_clearings, rfl, _, rfl, a.cl, _, b, _, rfl, rfl, SqL.of hc.cl, getI b0 (by omega), _, rfl, c, _, a.dx, _, _, rfl, hc.ins, T.cl_Chip, T.na_Chip_most, rfl, _, _, rfl, rfl, ?_⟩
            show gName 2 (V.bl (decide (m.mo ≤ m.cl.getD b.toNat 0))) _ _ _
            by_cases hm : m.mo ≤ m.cl.getD b.toNat 0
            · rw [decide_eq_true hm] at ew ⊢
              refine ⟨_, rfl, c, a.dx, _, rfl, hc.ins, rfl, _, rfl, _, rfl, _, rfl, c, a, m, "wipe", b, b, true, rfl, hc, ok, hr1, b0, by omega, fun H' hc' k' => ?_⟩
              rw [if_pos rfl] at ew ⊢
              rw [ew] at q
              intro dx hx
              exact q H' hc' k' dx hx
            · rw [decide_eq_false hm] at ew ⊢
              refine ⟨_, rfl, c, a.dx, _, rfl, hc.ins, rfl, _, rfl, _, rfl, _, rfl, c, a, m, "wipe", b, b, false, rfl, hc, ok, hr1, b0, by omega, fun H' hc' k' => ?_⟩
              rw [if_neg (by decide)] at ew ⊢
              rw [ew] at q
              have bp : b * m.pg + m.pg ≤ m.bl * m.pg := by
                have := Int.mul_le_mul_of_nonneg_right (show b + 1 ≤ m.bl by omega) (show 0 ≤ m.pg by omega)
                rw [Int.add_mul, Int.one_mul] at this
                exact this
              have bq : 0 ≤ b * m.pg := Int.mul_nonneg b0 (by omega)
              have bmax : m.bl * m.pg ≤ 256 := by
                have := Int.mul_le_mul bl1 pg2 (by omega) (by decide)
                omega
              refine ⟨_, rfl, _, rfl, c, _, a.dx, _, .int m.pg, rfl, hc'.ins, T.cl_Chip, T.na_Chip_pages, rfl, _, _, rfl, rfl, .inl ⟨by omega, by omega⟩, ?_⟩
              refine ⟨_, rfl, _, rfl, _, rfl, c, _, a.dx, _, .int m.pg, rfl, hc'.ins, T.cl_Chip, T.na_Chip_pages, rfl, _, _, rfl, rfl, _, _, rfl, ⟨by omega, by omega, by omega, by omega⟩, ?_⟩
              refine for_range (fun i σ' H1 => ∃ y, σ' = [some (.ref c), some (.int b), some (.bl false), some (.int (b * m.pg)), y] ∧ ChipAt t.C_Chip H1 c a { m.deed "wipe" b b false with bo := clr m.bo (b * m.pg).toNat i } ∧ Keep (foot c a) H H1) ⟨_, rfl, hc', k'⟩ (fun i σ' H1 hi hp => ?_) (fun σ' H1 hp => ?_)
              · obtain ⟨y, rfl, h1, k1⟩ := hp
                have hi' : (i : Int) < m.pg := by
                  have : i < (b * m.pg + m.pg - b * m.pg).toNat := hi
                  omega
                refine ⟨_, rfl, c, _, a.dx, _, _, rfl, h1.ins, T.cl_Chip, T.na_Chip_borne, rfl, _, rfl, a.bo, _, _, (b * m.pg + i).toNat, rfl, rfl, h1.bo, ixOk (by omega) (by rw [clr_len]; omega), ?_⟩
                have e : (b * m.pg + (i : Int)).toNat = (b * m.pg).toNat + i := by omega
                rw [e]
                exact ⟨_, rfl, h1.setBo _, k1.trans (Keep.upd h1.bo (fun _ z => by cases z) (by simp [foot]))⟩
              · obtain ⟨y, rfl, h1, k1⟩ := hp
                have e : (b * m.pg + m.pg - b * m.pg).toNat = m.pg.toNat := by omega
                have h1 : ChipAt t.C_Chip H1 c a { m.deed "wipe" b b false with bo := clr m.bo (b * m.pg).toNat m.pg.toNat } := by rw [← e]; exact h1
                refine ⟨_, rfl, c, _, a.dx, _, _, rfl, h1.ins, T.cl_Chip, T.na_Chip_clearings, rfl, _, rfl, a.cl, _, b, _, rfl, rfl, SqL.of h1.cl, getI b0 (by show b < (m.cl.length : Int); omega), _, _, rfl, rfl, a.cl, _, b, b.toNat, rfl, rfl, h1.cl, by rw [List.length_map]; exact ixOk b0 (by show b < (m.cl.length : Int); omega), ?_⟩
                rw [← List.map_set]
                exact q _ (h1.setCl _) (k1.trans (Keep.upd h1.cl (fun _ z => by cases z) (by simp [foot])))
    · rw [if_neg hin]
      rw [wipe_no hin] at q
      exact q H hc Keep.refl
def spLim (K : PySem.W.Frag) (t : Adr) : Sp := fun vs H Q E => ∃ l bl xs its, vs = [.ref l, .int bl] ∧ (SqL K H l xs ∨ SqT K H l xs) ∧ Paired (pairAt H) xs its ∧ its.length ≤ 1000 ∧ (match limM bl its [] with | some lim => NewO H (.dK lim) Q | none => ∀ H', Same H H' → E (.ref t.C_NoChip) none H')
theorem ok_limits_of (T : Txt K mg t) (S : Fns K t) : FnOk P w K mg base (CXe P w) 3 t.f_limits_of S.fd_limits_of ["ills", "blocks"] (spLim K t) := by
  refine S.F_limits_of.okE sc_limits_of (fun vs H Q E h => ?_) (fun cdv A outer s H vs Q E hr h => ?_)
  · obtain ⟨l, bl, xs, its, rfl, _⟩ := h
    rfl
  · obtain ⟨l, bl, xs, its, rfl, sq, pr, ln, q⟩ := h
    have hu := hu_of hr
    refine ⟨_, (pss_cons (ps_set (i := 2) sc_limits_of.nd rfl (Or.inl rfl) pe_dnewK) (pss_cons (ps_for PassesOwn.leaving rfl (pi_seq (pv 0)) (pg_tup rfl (pgs_cons (pg_name (i := 3) sc_limits_of.nd rfl (Or.inl rfl)) (pgs_cons (pg_name (i := 4) sc_limits_of.nd rfl (Or.inl rfl)) pgs_nil))) (pss_cons (ps_if (pt_not (pt_val (pe_call ((ok_is_within T S).mono (by decide)) hr rfl T.mg_is_within T.kp_is_within S.b_is_within .nil pass0 (pa_cons (pv 3) (pa_cons pe_int (pa_cons (pe_op op_sub (pv 1) pe_int) pa_nil)))))) (pss_one (ps_raise takes_fn rfl rfl T.mg_NoChip T.x_NoChip (pa_cons pe_str pa_nil))) pss_nil) (pss_cons (ps_if (pt_cmp (pc_din hu (pv 3) (pv 2))) (pss_one (ps_raise takes_fn rfl rfl T.mg_NoChip T.x_NoChip (pa_cons pe_str pa_nil))) pss_nil) (pss_cons (ps_if (pt_not (pt_val (pe_call ((ok_is_within T S).mono (by decide)) hr rfl T.mg_is_within T.kp_is_within S.b_is_within .nil pass0 (pa_cons (pv 4) (pa_cons pe_int (pa_cons (pe_glob rfl T.mg_MOST_TOLD ⟨_, rfl⟩ (v := .int 1000000)) pa_nil)))))) (pss_one (ps_raise takes_fn rfl rfl T.mg_NoChip T.x_NoChip (pa_cons pe_str pa_nil))) pss_nil) (pss_one (ps_dput hu (pv 2) (pv 3) (pv 4) rfl)))))) (pss_one (ps_ret (pv 2))))), ?_⟩
    refine fun p np => ?_
    have s0 : Same H (upd H p (.dK [])) := Same.upd np
    rcases sq with sq | sq
    · refine .inl ⟨_, rfl, l, rfl, ⟨xs, s0.seq sq⟩, for_list (xs := xs) (fun i σ' H1 => ∃ acc y z, σ' = [some (.ref l), some (.int bl), some (.ref p), y, z] ∧ H1 p = some (.dK acc) ∧ acc.length ≤ i ∧ (∀ b o, b ≠ p → H b = some o → H1 b = some o) ∧ limM bl its [] = limM bl (its.drop i) acc) ⟨[], _, _, rfl, upd_same, Nat.le_refl _, fun b o n e => by rw [upd_ne n]; exact e, rfl⟩ (fun i σ' H1 _ hp => let ⟨_, _, _, _, _, _, sm, _⟩ := hp; Same.seq (fun b o e => sm b o (ne_of_none e np) e) sq) (fun i x σ' H1 hx hp => ?_) (fun σ' H1 hp => ?_)⟩
      · obtain ⟨acc, y, z, rfl, h1, ln, sm, el⟩ := hp
        obtain ⟨bd, hi, pp, rfl, hpp, k1, k2⟩ := Paired.at pr hx
        have sm' : Same H H1 := fun b o e => sm b o (ne_of_none e np) e
        obtain ⟨bb, dd⟩ := bd
        rw [limM_drop hi] at el
        refine ⟨pp, [bb, dd], rfl, SqT.of (sm' _ _ hpp), rfl, bb, [dd], rfl, dd, [], rfl, rfl, ?_⟩
        refine ⟨_, rfl, _, rfl, _, _, rfl, rfl, bb, _, _, rfl, k1.same sm', _, rfl, ?_⟩
        by_cases hb : inB bb 0 (bl - 1) = true
        · rw [hb]
          refine iteF ?_
          obtain ⟨j, rfl, j0, j1⟩ := inB_int hb
          refine ⟨_, rfl, _, rfl, p, _, rfl, DGet.k (k := Sum.inl j) h1, _, rfl, ?_⟩
          cases hv : (valV acc (Sum.inl j)).isSome with
          | true =>
            rw [limM_twice ⟨j0, j1⟩ hv] at el
            rw [el] at q
            exact iteT ⟨by show 1 ≤ sizeLine; decide, q H1 sm'⟩
          | false =>
            refine iteF ?_
            refine ⟨_, rfl, dd, _, _, rfl, k2.same sm', _, rfl, ?_⟩
            by_cases hd : inB dd 0 1000000 = true
            · rw [hd]
              refine iteF ?_
              rw [limM_next ⟨j0, j1⟩ (by rw [hv]; decide) hd] at el
              refine ⟨_, rfl, _, rfl, _, rfl, p, _, rfl, DPut.k (k := Sum.inl j) h1 (Nat.lt_of_le_of_lt ln (by have := (List.getElem?_eq_some_iff.mp hi).1; rw [sizeLine_eq]; omega)), ?_⟩
              refine ⟨_, _, _, rfl, upd_same, Nat.le_trans (length_putK _ _ _) (by omega), fun b o n e => ?_, el⟩
              rw [upd_ne n]
              exact sm b o n e
            · rw [Bool.eq_false_iff.mpr hd]
              rw [limM_deeds ⟨j0, j1⟩ (by rw [hv]; decide) hd] at el
              rw [el] at q
              exact iteT ⟨by show 1 ≤ sizeLine; decide, q H1 sm'⟩
        · rw [Bool.eq_false_iff.mpr hb]
          rw [limM_bad hb] at el
          rw [el] at q
          exact iteT ⟨by show 1 ≤ sizeLine; decide, q H1 sm'⟩
      · obtain ⟨acc, y, z, rfl, h1, ln, sm, el⟩ := hp
        rw [show its.drop xs.length = [] from List.drop_eq_nil_of_le (Nat.le_of_eq pr.len.symm)] at el
        rw [show limM bl its [] = some acc from el] at q
        exact ⟨_, rfl, q p H1 np (fun b o e => sm b o (ne_of_none e np) e) h1⟩
    · refine .inr ⟨_, rfl, l, rfl, ⟨xs, s0.seqT sq⟩, for_tup (xs := xs) (fun i σ' H1 => ∃ acc y z, σ' = [some (.ref l), some (.int bl), some (.ref p), y, z] ∧ H1 p = some (.dK acc) ∧ acc.length ≤ i ∧ (∀ b o, b ≠ p → H b = some o → H1 b = some o) ∧ limM bl its [] = limM bl (its.drop i) acc) ⟨[], _, _, rfl, upd_same, Nat.le_refl _, fun b o n e => by rw [upd_ne n]; exact e, rfl⟩ (fun i σ' H1 _ hp => let ⟨_, _, _, _, _, _, sm, _⟩ := hp; Same.seqT (fun b o e => sm b o (ne_of_none e np) e) sq) (fun i x σ' H1 hx hp => ?_) (fun σ' H1 hp => ?_)⟩
      · obtain ⟨acc, y, z, rfl, h1, ln, sm, el⟩ := hp
        obtain ⟨bd, hi, pp, rfl, hpp, k1, k2⟩ := Paired.at pr hx
        have sm' : Same H H1 := fun b o e => sm b o (ne_of_none e np) e
        obtain ⟨bb, dd⟩ := bd
        rw [limM_drop hi] at el
        refine ⟨pp, [bb, dd], rfl, SqT.of (sm' _ _ hpp), rfl, bb, [dd], rfl, dd, [], rfl, rfl, ?_⟩
        refine ⟨_, rfl, _, rfl, _, _, rfl, rfl, bb, _, _, rfl, k1.same sm', _, rfl, ?_⟩
        by_cases hb : inB bb 0 (bl - 1) = true
        · rw [hb]
          refine iteF ?_
          obtain ⟨j, rfl, j0, j1⟩ := inB_int hb
          refine ⟨_, rfl, _, rfl, p, _, rfl, DGet.k (k := Sum.inl j) h1, _, rfl, ?_⟩
          cases hv : (valV acc (Sum.inl j)).isSome with
          | true =>
            rw [limM_twice ⟨j0, j1⟩ hv] at el
            rw [el] at q
            exact iteT ⟨by show 1 ≤ sizeLine; decide, q H1 sm'⟩
          | false =>
            refine iteF ?_
            refine ⟨_, rfl, dd, _, _, rfl, k2.same sm', _, rfl, ?_⟩
            by_cases hd : inB dd 0 1000000 = true
            · rw [hd]
              refine iteF ?_
              rw [limM_next ⟨j0, j1⟩ (by rw [hv]; decide) hd] at el
              refine ⟨_, rfl, _, rfl, _, rfl, p, _, rfl, DPut.k (k := Sum.inl j) h1 (Nat.lt_of_le_of_lt ln (by have := (List.getElem?_eq_some_iff.mp hi).1; rw [sizeLine_eq]; omega)), ?_⟩
              refine ⟨_, _, _, rfl, upd_same, Nat.le_trans (length_putK _ _ _) (by omega), fun b o n e => ?_, el⟩
              rw [upd_ne n]
              exact sm b o n e
            · rw [Bool.eq_false_iff.mpr hd]
              rw [limM_deeds ⟨j0, j1⟩ (by rw [hv]; decide) hd] at el
              rw [el] at q
              exact iteT ⟨by show 1 ≤ sizeLine; decide, q H1 sm'⟩
        · rw [Bool.eq_false_iff.mpr hb]
          rw [limM_bad hb] at el
          rw [el] at q
          exact iteT ⟨by show 1 ≤ sizeLine; decide, q H1 sm'⟩
      · obtain ⟨acc, y, z, rfl, h1, ln, sm, el⟩ := hp
        rw [show its.drop xs.length = [] from List.drop_eq_nil_of_le (Nat.le_of_eq pr.len.symm)] at el
        rw [show limM bl its [] = some acc from el] at q
        exact ⟨_, rfl, q p H1 np (fun b o e => sm b o (ne_of_none e np) e) h1⟩
def spMk (K : PySem.W.Frag) (t : Adr) : Sp := fun vs H Q E => ∃ x dx bl pg mo il its, vs = [.ref x, bl, pg, mo, il] ∧ H x = some (.ins t.C_Chip dx []) ∧ Knd H bl ∧ Knd H pg ∧ Knd H mo ∧
  ((il = .non ∧ its = []) ∨ ∃ l xs, il = .ref l ∧ (SqL K H l xs ∨ SqT K H l xs) ∧ Paired (pairAt H) xs its ∧ its.length ≤ 1000) ∧
  (match CM.made bl pg mo its with
    | some m => ∀ a H', ChipAt t.C_Chip H' x a m → (∀ b ∈ [a.li, a.bo, a.cl, a.dc, a.br, a.rc], H b = none) → Up x H H' → Q .non H'
    | none => ∀ H', Up x H H' → E (.ref t.C_NoChip) none H')
theorem ok_Chip_init (T : Txt K mg t) (S : Fns K t) : FnOk P w K mg base (CXe P w) 4 t.f_Chip_init S.fd_Chip_init ["self", "blocks", "pages", "most", "ills"] (spMk K t) := by
  refine S.F_Chip_init.okE sc_Chip_init (fun vs H Q E h => ?_) (fun cdv A outer s H vs Q E hr h => ?_)
  · obtain ⟨x, dx, bl, pg, mo, il, its, rfl, _⟩ := h
    rfl
  · obtain ⟨x, dx, bl, pg, mo, il, its, rfl, hx, kb, kp, km, hil, q⟩ := h
    refine ⟨_, (pss_cons (ps_if (pt_not (pt_val (pe_call ((ok_is_shape T S).mono (by decide)) hr rfl T.mg_is_shape T.kp_is_shape S.b_is_shape .nil pass0 (pa_cons (pv 1) (pa_cons (pv 2) pa_nil))))) (pss_one (ps_raise takes_fn rfl rfl T.mg_NoChip T.x_NoChip (pa_cons pe_str pa_nil))) pss_nil) (pss_cons (ps_if (pt_not (pt_val (pe_call ((ok_is_within T S).mono (by decide)) hr rfl T.mg_is_within T.kp_is_within S.b_is_within .nil pass0 (pa_cons (pv 3) (pa_cons pe_int (pa_cons (pe_glob rfl T.mg_MOST_TOLD ⟨_, rfl⟩ (v := .int 1000000)) pa_nil)))))) (pss_one (ps_raise takes_fn rfl rfl T.mg_NoChip T.x_NoChip (pa_cons pe_str pa_nil))) pss_nil) (pss_cons (ps_fld (pv 0) (pv 1) rfl) (pss_cons (ps_fld (pv 0) (pv 2) rfl) (pss_cons (ps_fld (pv 0) (pv 3) rfl) (pss_cons (ps_fld (pv 0) (pe_callS takes_fn ((ok_limits_of T S).mono (by decide)) hr rfl T.mg_limits_of T.kp_limits_of S.b_limits_of .nil (pa_cons (pe_ifExp (pt_cmpR op_isN (pv 4) pe_non (nomark _)) (pe_lstN pa_nil) (pv 4)) (pa_cons (pv 1) pa_nil))) rfl) (pss_cons (ps_fld (pv 0) (pe_op op_repN (pe_lstN (pa_cons pe_non pa_nil)) (pe_op op_mul (pv 1) (pv 2))) rfl) (pss_cons (ps_fld (pv 0) (pe_op op_repN (pe_lstN (pa_cons pe_int pa_nil)) (pv 1)) rfl) (pss_cons (ps_fld (pv 0) (pe_op op_repN (pe_lstN (pa_cons pe_int pa_nil)) (pv 1)) rfl) (pss_cons (ps_fld (pv 0) (pe_op op_repN (pe_lstN (pa_cons pe_bl pa_nil)) (pv 1)) rfl) (pss_cons (ps_fld (pv 0) pe_non rfl) (pss_one (ps_fld (pv 0) (pe_lstN pa_nil) rfl))))))))))))), ?_⟩
    refine ⟨_, rfl, _, rfl, bl, pg, rfl, kb, kp, _, rfl, ?_⟩
    unfold CM.made at q
    by_cases hs : inB bl 2 16 = true ∧ inB pg 1 16 = true
    · rw [if_pos hs] at q
      rw [hs.1, hs.2]
      refine iteF ?_
      obtain ⟨b, rfl, b1, b2⟩ := inB_int hs.1
      obtain ⟨p, rfl, p1, p2⟩ := inB_int hs.2
      refine ⟨_, rfl, mo, _, _, rfl, km, _, rfl, ?_⟩
      by_cases hm : inB mo 0 1000000 = true
      · rw [if_pos hm] at q
        rw [hm]
        refine iteF ?_
        obtain ⟨m, rfl, m1, m2⟩ := inB_int hm
        have bp : b * p ≤ 256 := Int.mul_le_mul b2 p2 (by omega) (by decide)
        have bp0 : 0 ≤ b * p := Int.mul_nonneg (by omega) (by omega)
        refine ⟨_, rfl, _, rfl, x, _, dx, _, rfl, hx, T.cl_Chip, T.na_Chip_blocks, by simp, ?_⟩
        refine ⟨_, rfl, _, rfl, x, _, dx, _, rfl, upd_same, T.cl_Chip, T.na_Chip_pages, by show 1 < 1000; decide, ?_⟩
        rw [upd_upd]
        refine ⟨_, rfl, _, rfl, x, _, dx, _, rfl, upd_same, T.cl_Chip, T.na_Chip_most, by show 2 < 1000; decide, ?_⟩
        rw [upd_upd]
        have u1 : Up x H (upd H x (.ins t.C_Chip dx [("blocks", .int b), ("pages", .int p), ("most", .int m)])) := Up.of (Same.refl H)
        have x1 : (upd H x (.ins t.C_Chip dx [("blocks", .int b), ("pages", .int p), ("most", .int m)])) x = some (.ins t.C_Chip dx [("blocks", .int b), ("pages", .int p), ("most", .int m)]) := upd_same
        have e1 : upd H x (.ins t.C_Chip dx (putF "most" (.int m) (putF "pages" (.int p) (putF "blocks" (.int b) [])))) = upd H x (.ins t.C_Chip dx [("blocks", .int b), ("pages", .int p), ("most", .int m)]) := rfl
        rw [e1]
        generalize upd H x (.ins t.C_Chip dx [("blocks", .int b), ("pages", .int p), ("most", .int m)]) = H1 at u1 x1 ⊢
        refine ⟨_, rfl, rfl, _, rfl, ?_⟩
        rcases hil with ⟨rfl, rfl⟩ | ⟨l, xs, rfl, sq, pr, ln⟩
        · refine iteT ⟨by show 0 ≤ sizeLine; decide, fun l0 H2 n0 s0 e0 => ?_⟩
          refine ⟨_, rfl, l0, b, [], [], rfl, .inl (SqL.of e0), .nil, by decide, ?_⟩
          intro li H3 n1 s1 e1
          obtain ⟨lim, elim⟩ : ∃ lim : List (Key × V), lim = [] := ⟨_, rfl⟩
          rw [← elim] at e1
          have hx3 := s1 _ _ (s0 _ _ x1)
          have u3 : Up x H H3 := fun b' o' n' e' => s1 _ _ (s0 _ _ (u1 b' o' n' e'))
          have fli : H li = none := Up.free u1 (fun z => by rw [z, s0 _ _ x1] at n1; cases n1) (Same.free s0 n1)
          replace q : ∀ a H', ChipAt t.C_Chip H' x a (CM.new b p m lim) → (∀ b ∈ [a.li, a.bo, a.cl, a.dc, a.br, a.rc], H b = none) → Up x H H' → Q .non H' := by rw [elim]; exact q
          refine ⟨_, rfl, x, _, dx, _, rfl, hx3, T.cl_Chip, T.na_Chip_limits, by simp, ?_⟩
          have lx : li ≠ x := ne_of e1 hx3 (by intro z; cases z)
          have uu := u3
          have xx := hx3
          have hli := e1
          have u4 := uu.trans (Up.of (x := x) (o := .ins t.C_Chip dx [("blocks", .int b), ("pages", .int p), ("most", .int m), ("limits", .ref li)]) (Same.refl H3))
          have x4 : (upd H3 x (.ins t.C_Chip dx [("blocks", .int b), ("pages", .int p), ("most", .int m), ("limits", .ref li)])) x = some (.ins t.C_Chip dx [("blocks", .int b), ("pages", .int p), ("most", .int m), ("limits", .ref li)]) := upd_same
          have hli4 : (upd H3 x (.ins t.C_Chip dx [("blocks", .int b), ("pages", .int p), ("most", .int m), ("limits", .ref li)])) li = some (.dK lim) := by rw [upd_ne (ne_of hli xx (by intro z; cases z))]; exact hli
          show tSeq _ _ _ _ (upd H3 x (.ins t.C_Chip dx [("blocks", .int b), ("pages", .int p), ("most", .int m), ("limits", .ref li)]))
          generalize upd H3 x (.ins t.C_Chip dx [("blocks", .int b), ("pages", .int p), ("most", .int m), ("limits", .ref li)]) = G4 at u4 x4 hli4 ⊢
          clear uu xx hli
          have uu := u4
          have xx := x4
          have hli := hli4
          refine ⟨by show 1 ≤ sizeLine; decide, fun wbo Abo nabo sabo eabo => ⟨_, rfl, _, rfl, _, _, rfl, rfl, .inl ⟨by omega, by omega⟩, wbo, _, _, rfl, rfl, eabo, by omega, by omega, fun bo Bbo nbbo sbbo hbo => ?_⟩⟩
          have fbo : H bo = none := Up.free uu (fun z => by rw [z, sabo _ _ xx] at nbbo; cases nbbo) (Same.free sabo nbbo)
          have smbo := Same.trans sabo sbbo
          replace uu : Up x H Bbo := fun b' o' n' e' => smbo _ _ (uu b' o' n' e')
          replace xx := smbo _ _ xx
          replace hli := smbo _ _ hli
          refine ⟨_, rfl, x, _, dx, _, rfl, xx, T.cl_Chip, T.na_Chip_borne, by simp, ?_⟩
          have u5 := uu.trans (Up.of (x := x) (o := .ins t.C_Chip dx [("blocks", .int b), ("pages", .int p), ("most", .int m), ("limits", .ref li), ("borne", .ref bo)]) (Same.refl Bbo))
          have x5 : (upd Bbo x (.ins t.C_Chip dx [("blocks", .int b), ("pages", .int p), ("most", .int m), ("limits", .ref li), ("borne", .ref bo)])) x = some (.ins t.C_Chip dx [("blocks", .int b), ("pages", .int p), ("most", .int m), ("limits", .ref li), ("borne", .ref bo)]) := upd_same
          have hli5 : (upd Bbo x (.ins t.C_Chip dx [("blocks", .int b), ("pages", .int p), ("most", .int m), ("limits", .ref li), ("borne", .ref bo)])) li = some (.dK lim) := by rw [upd_ne (ne_of hli xx (by intro z; cases z))]; exact hli
          have hbo5 : (upd Bbo x (.ins t.C_Chip dx [("blocks", .int b), ("pages", .int p), ("most", .int m), ("limits", .ref li), ("borne", .ref bo)])) bo = some (.lst (List.replicate (b * p).toNat V.non)) := by rw [upd_ne (ne_of hbo xx (by intro z; cases z))]; exact hbo
          show tSeq _ _ _ _ (upd Bbo x (.ins t.C_Chip dx [("blocks", .int b), ("pages", .int p), ("most", .int m), ("limits", .ref li), ("borne", .ref bo)]))
          generalize upd Bbo x (.ins t.C_Chip dx [("blocks", .int b), ("pages", .int p), ("most", .int m), ("limits", .ref li), ("borne", .ref bo)]) = G5 at u5 x5 hli5 hbo5 ⊢
          clear uu xx hli hbo
          have uu := u5
          have xx := x5
          have hli := hli5
          have hbo := hbo5
          refine ⟨by show 1 ≤ sizeLine; decide, fun wcl Acl nacl sacl eacl => ⟨_, rfl, wcl, _, _, rfl, rfl, eacl, by omega, by omega, fun cl Bcl nbcl sbcl hcl => ?_⟩⟩
          have fcl : H cl = none := Up.free uu (fun z => by rw [z, sacl _ _ xx] at nbcl; cases nbcl) (Same.free sacl nbcl)
          have dbocl : bo ≠ cl := ne_of_none (sacl _ _ hbo) nbcl
          have smcl := Same.trans sacl sbcl
          replace uu : Up x H Bcl := fun b' o' n' e' => smcl _ _ (uu b' o' n' e')
          replace xx := smcl _ _ xx
          replace hli := smcl _ _ hli
          replace hbo := smcl _ _ hbo
          refine ⟨_, rfl, x, _, dx, _, rfl, xx, T.cl_Chip, T.na_Chip_clearings, by simp, ?_⟩
          have u6 := uu.trans (Up.of (x := x) (o := .ins t.C_Chip dx [("blocks", .int b), ("pages", .int p), ("most", .int m), ("limits", .ref li), ("borne", .ref bo), ("clearings", .ref cl)]) (Same.refl Bcl))
          have x6 : (upd Bcl x (.ins t.C_Chip dx [("blocks", .int b), ("pages", .int p), ("most", .int m), ("limits", .ref li), ("borne", .ref bo), ("clearings", .ref cl)])) x = some (.ins t.C_Chip dx [("blocks", .int b), ("pages", .int p), ("most", .int m), ("limits", .ref li), ("borne", .ref bo), ("clearings", .ref cl)]) := upd_same
          have hli6 : (upd Bcl x (.ins t.C_Chip dx [("blocks", .int b), ("pages", .int p), ("most", .int m), ("limits", .ref li), ("borne", .ref bo), ("clearings", .ref cl)])) li = some (.dK lim) := by rw [upd_ne (ne_of hli xx (by intro z; cases z))]; exact hli
          have hbo6 : (upd Bcl x (.ins t.C_Chip dx [("blocks", .int b), ("pages", .int p), ("most", .int m), ("limits", .ref li), ("borne", .ref bo), ("clearings", .ref cl)])) bo = some (.lst (List.replicate (b * p).toNat V.non)) := by rw [upd_ne (ne_of hbo xx (by intro z; cases z))]; exact hbo
          have hcl6 : (upd Bcl x (.ins t.C_Chip dx [("blocks", .int b), ("pages", .int p), ("most", .int m), ("limits", .ref li), ("borne", .ref bo), ("clearings", .ref cl)])) cl = some (.lst (List.replicate b.toNat (V.int 0))) := by rw [upd_ne (ne_of hcl xx (by intro z; cases z))]; exact hcl
          show tSeq _ _ _ _ (upd Bcl x (.ins t.C_Chip dx [("blocks", .int b), ("pages", .int p), ("most", .int m), ("limits", .ref li), ("borne", .ref bo), ("clearings", .ref cl)]))
          generalize upd Bcl x (.ins t.C_Chip dx [("blocks", .int b), ("pages", .int p), ("most", .int m), ("limits", .ref li), ("borne", .ref bo), ("clearings", .ref cl)]) = G6 at u6 x6 hli6 hbo6 hcl6 ⊢
          clear uu xx hli hbo hcl
          have uu := u6
          have xx := x6
          have hli := hli6
          have hbo := hbo6
          have hcl := hcl6
          refine ⟨by show 1 ≤ sizeLine; decide, fun wdc Adc nadc sadc eadc => ⟨_, rfl, wdc, _, _, rfl, rfl, eadc, by omega, by omega, fun dc Bdc nbdc sbdc hdc => ?_⟩⟩
          have fdc : H dc = none := Up.free uu (fun z => by rw [z, sadc _ _ xx] at nbdc; cases nbdc) (Same.free sadc nbdc)
          have dbodc : bo ≠ dc := ne_of_none (sadc _ _ hbo) nbdc
          have dcldc : cl ≠ dc := ne_of_none (sadc _ _ hcl) nbdc
          have smdc := Same.trans sadc sbdc
          replace uu : Up x H Bdc := fun b' o' n' e' => smdc _ _ (uu b' o' n' e')
          replace xx := smdc _ _ xx
          replace hli := smdc _ _ hli
          replace hbo := smdc _ _ hbo
          replace hcl := smdc _ _ hcl
          refine ⟨_, rfl, x, _, dx, _, rfl, xx, T.cl_Chip, T.na_Chip_deed_counts, by simp, ?_⟩
          have u7 := uu.trans (Up.of (x := x) (o := .ins t.C_Chip dx [("blocks", .int b), ("pages", .int p), ("most", .int m), ("limits", .ref li), ("borne", .ref bo), ("clearings", .ref cl), ("deed_counts", .ref dc)]) (Same.refl Bdc))
          have x7 : (upd Bdc x (.ins t.C_Chip dx [("blocks", .int b), ("pages", .int p), ("most", .int m), ("limits", .ref li), ("borne", .ref bo), ("clearings", .ref cl), ("deed_counts", .ref dc)])) x = some (.ins t.C_Chip dx [("blocks", .int b), ("pages", .int p), ("most", .int m), ("limits", .ref li), ("borne", .ref bo), ("clearings", .ref cl), ("deed_counts", .ref dc)]) := upd_same
          have hli7 : (upd Bdc x (.ins t.C_Chip dx [("blocks", .int b), ("pages", .int p), ("most", .int m), ("limits", .ref li), ("borne", .ref bo), ("clearings", .ref cl), ("deed_counts", .ref dc)])) li = some (.dK lim) := by rw [upd_ne (ne_of hli xx (by intro z; cases z))]; exact hli
          have hbo7 : (upd Bdc x (.ins t.C_Chip dx [("blocks", .int b), ("pages", .int p), ("most", .int m), ("limits", .ref li), ("borne", .ref bo), ("clearings", .ref cl), ("deed_counts", .ref dc)])) bo = some (.lst (List.replicate (b * p).toNat V.non)) := by rw [upd_ne (ne_of hbo xx (by intro z; cases z))]; exact hbo
          have hcl7 : (upd Bdc x (.ins t.C_Chip dx [("blocks", .int b), ("pages", .int p), ("most", .int m), ("limits", .ref li), ("borne", .ref bo), ("clearings", .ref cl), ("deed_counts", .ref dc)])) cl = some (.lst (List.replicate b.toNat (V.int 0))) := by rw [upd_ne (ne_of hcl xx (by intro z; cases z))]; exact hcl
          have hdc7 : (upd Bdc x (.ins t.C_Chip dx [("blocks", .int b), ("pages", .int p), ("most", .int m), ("limits", .ref li), ("borne", .ref bo), ("clearings", .ref cl), ("deed_counts", .ref dc)])) dc = some (.lst (List.replicate b.toNat (V.int 0))) := by rw [upd_ne (ne_of hdc xx (by intro z; cases z))]; exact hdc
          show tSeq _ _ _ _ (upd Bdc x (.ins t.C_Chip dx [("blocks", .int b), ("pages", .int p), ("most", .int m), ("limits", .ref li), ("borne", .ref bo), ("clearings", .ref cl), ("deed_counts", .ref dc)]))
          generalize upd Bdc x (.ins t.C_Chip dx [("blocks", .int b), ("pages", .int p), ("most", .int m), ("limits", .ref li), ("borne", .ref bo), ("clearings", .ref cl), ("deed_counts", .ref dc)]) = G7 at u7 x7 hli7 hbo7 hcl7 hdc7 ⊢
          clear uu xx hli hbo hcl hdc
          have uu := u7
          have xx := x7
          have hli := hli7
          have hbo := hbo7
          have hcl := hcl7
          have hdc := hdc7
          refine ⟨by show 1 ≤ sizeLine; decide, fun wbr Abr nabr sabr eabr => ⟨_, rfl, wbr, _, _, rfl, rfl, eabr, by omega, by omega, fun br Bbr nbbr sbbr hbr => ?_⟩⟩
          have fbr : H br = none := Up.free uu (fun z => by rw [z, sabr _ _ xx] at nbbr; cases nbbr) (Same.free sabr nbbr)
          have dbobr : bo ≠ br := ne_of_none (sabr _ _ hbo) nbbr
          have dclbr : cl ≠ br := ne_of_none (sabr _ _ hcl) nbbr
          have ddcbr : dc ≠ br := ne_of_none (sabr _ _ hdc) nbbr
          have smbr := Same.trans sabr sbbr
          replace uu : Up x H Bbr := fun b' o' n' e' => smbr _ _ (uu b' o' n' e')
          replace xx := smbr _ _ xx
          replace hli := smbr _ _ hli
          replace hbo := smbr _ _ hbo
          replace hcl := smbr _ _ hcl
          replace hdc := smbr _ _ hdc
          refine ⟨_, rfl, x, _, dx, _, rfl, xx, T.cl_Chip, T.na_Chip_broken, by simp, ?_⟩
          have u8 := uu.trans (Up.of (x := x) (o := .ins t.C_Chip dx [("blocks", .int b), ("pages", .int p), ("most", .int m), ("limits", .ref li), ("borne", .ref bo), ("clearings", .ref cl), ("deed_counts", .ref dc), ("broken", .ref br)]) (Same.refl Bbr))
          have x8 : (upd Bbr x (.ins t.C_Chip dx [("blocks", .int b), ("pages", .int p), ("most", .int m), ("limits", .ref li), ("borne", .ref bo), ("clearings", .ref cl), ("deed_counts", .ref dc), ("broken", .ref br)])) x = some (.ins t.C_Chip dx [("blocks", .int b), ("pages", .int p), ("most", .int m), ("limits", .ref li), ("borne", .ref bo), ("clearings", .ref cl), ("deed_counts", .ref dc), ("broken", .ref br)]) := upd_same
          have hli8 : (upd Bbr x (.ins t.C_Chip dx [("blocks", .int b), ("pages", .int p), ("most", .int m), ("limits", .ref li), ("borne", .ref bo), ("clearings", .ref cl), ("deed_counts", .ref dc), ("broken", .ref br)])) li = some (.dK lim) := by rw [upd_ne (ne_of hli xx (by intro z; cases z))]; exact hli
          have hbo8 : (upd Bbr x (.ins t.C_Chip dx [("blocks", .int b), ("pages", .int p), ("most", .int m), ("limits", .ref li), ("borne", .ref bo), ("clearings", .ref cl), ("deed_counts", .ref dc), ("broken", .ref br)])) bo = some (.lst (List.replicate (b * p).toNat V.non)) := by rw [upd_ne (ne_of hbo xx (by intro z; cases z))]; exact hbo
          have hcl8 : (upd Bbr x (.ins t.C_Chip dx [("blocks", .int b), ("pages", .int p), ("most", .int m), ("limits", .ref li), ("borne", .ref bo), ("clearings", .ref cl), ("deed_counts", .ref dc), ("broken", .ref br)])) cl = some (.lst (List.replicate b.toNat (V.int 0))) := by rw [upd_ne (ne_of hcl xx (by intro z; cases z))]; exact hcl
          have hdc8 : (upd Bbr x (.ins t.C_Chip dx [("blocks", .int b), ("pages", .int p), ("most", .int m), ("limits", .ref li), ("borne", .ref bo), ("clearings", .ref cl), ("deed_counts", .ref dc), ("broken", .ref br)])) dc = some (.lst (List.replicate b.toNat (V.int 0))) := by rw [upd_ne (ne_of hdc xx (by intro z; cases z))]; exact hdc
          have hbr8 : (upd Bbr x (.ins t.C_Chip dx [("blocks", .int b), ("pages", .int p), ("most", .int m), ("limits", .ref li), ("borne", .ref bo), ("clearings", .ref cl), ("deed_counts", .ref dc), ("broken", .ref br)])) br = some (.lst (List.replicate b.toNat (V.bl false))) := by rw [upd_ne (ne_of hbr xx (by intro z; cases z))]; exact hbr
          show tSeq _ _ _ _ (upd Bbr x (.ins t.C_Chip dx [("blocks", .int b), ("pages", .int p), ("most", .int m), ("limits", .ref li), ("borne", .ref bo), ("clearings", .ref cl), ("deed_counts", .ref dc), ("broken", .ref br)]))
          generalize upd Bbr x (.ins t.C_Chip dx [("blocks", .int b), ("pages", .int p), ("most", .int m), ("limits", .ref li), ("borne", .ref bo), ("clearings", .ref cl), ("deed_counts", .ref dc), ("broken", .ref br)]) = G8 at u8 x8 hli8 hbo8 hcl8 hdc8 hbr8 ⊢
          clear uu xx hli hbo hcl hdc hbr
          have uu := u8
          have xx := x8
          have hli := hli8
          have hbo := hbo8
          have hcl := hcl8
          have hdc := hdc8
          have hbr := hbr8
          refine ⟨_, rfl, x, _, dx, _, rfl, xx, T.cl_Chip, T.na_Chip_deeds_left, by simp, ?_⟩
          have u9 := uu.trans (Up.of (x := x) (o := .ins t.C_Chip dx [("blocks", .int b), ("pages", .int p), ("most", .int m), ("limits", .ref li), ("borne", .ref bo), ("clearings", .ref cl), ("deed_counts", .ref dc), ("broken", .ref br), ("deeds_left", .non)]) (Same.refl G8))
          have x9 : (upd G8 x (.ins t.C_Chip dx [("blocks", .int b), ("pages", .int p), ("most", .int m), ("limits", .ref li), ("borne", .ref bo), ("clearings", .ref cl), ("deed_counts", .ref dc), ("broken", .ref br), ("deeds_left", .non)])) x = some (.ins t.C_Chip dx [("blocks", .int b), ("pages", .int p), ("most", .int m), ("limits", .ref li), ("borne", .ref bo), ("clearings", .ref cl), ("deed_counts", .ref dc), ("broken", .ref br), ("deeds_left", .non)]) := upd_same
          have hli9 : (upd G8 x (.ins t.C_Chip dx [("blocks", .int b), ("pages", .int p), ("most", .int m), ("limits", .ref li), ("borne", .ref bo), ("clearings", .ref cl), ("deed_counts", .ref dc), ("broken", .ref br), ("deeds_left", .non)])) li = some (.dK lim) := by rw [upd_ne (ne_of hli xx (by intro z; cases z))]; exact hli
          have hbo9 : (upd G8 x (.ins t.C_Chip dx [("blocks", .int b), ("pages", .int p), ("most", .int m), ("limits", .ref li), ("borne", .ref bo), ("clearings", .ref cl), ("deed_counts", .ref dc), ("broken", .ref br), ("deeds_left", .non)])) bo = some (.lst (List.replicate (b * p).toNat V.non)) := by rw [upd_ne (ne_of hbo xx (by intro z; cases z))]; exact hbo
          have hcl9 : (upd G8 x (.ins t.C_Chip dx [("blocks", .int b), ("pages", .int p), ("most", .int m), ("limits", .ref li), ("borne", .ref bo), ("clearings", .ref cl), ("deed_counts", .ref dc), ("broken", .ref br), ("deeds_left", .non)])) cl = some (.lst (List.replicate b.toNat (V.int 0))) := by rw [upd_ne (ne_of hcl xx (by intro z; cases z))]; exact hcl
          have hdc9 : (upd G8 x (.ins t.C_Chip dx [("blocks", .int b), ("pages", .int p), ("most", .int m), ("limits", .ref li), ("borne", .ref bo), ("clearings", .ref cl), ("deed_counts", .ref dc), ("broken", .ref br), ("deeds_left", .non)])) dc = some (.lst (List.replicate b.toNat (V.int 0))) := by rw [upd_ne (ne_of hdc xx (by intro z; cases z))]; exact hdc
          have hbr9 : (upd G8 x (.ins t.C_Chip dx [("blocks", .int b), ("pages", .int p), ("most", .int m), ("limits", .ref li), ("borne", .ref bo), ("clearings", .ref cl), ("deed_counts", .ref dc), ("broken", .ref br), ("deeds_left", .non)])) br = some (.lst (List.replicate b.toNat (V.bl false))) := by rw [upd_ne (ne_of hbr xx (by intro z; cases z))]; exact hbr
          rw [show putF "deeds_left" V.non [("blocks", .int b), ("pages", .int p), ("most", .int m), ("limits", .ref li), ("borne", .ref bo), ("clearings", .ref cl), ("deed_counts", .ref dc), ("broken", .ref br)] = ([("blocks", .int b), ("pages", .int p), ("most", .int m), ("limits", .ref li), ("borne", .ref bo), ("clearings", .ref cl), ("deed_counts", .ref dc), ("broken", .ref br), ("deeds_left", .non)] : List (Str × V)) from rfl]
          generalize upd G8 x (.ins t.C_Chip dx [("blocks", .int b), ("pages", .int p), ("most", .int m), ("limits", .ref li), ("borne", .ref bo), ("clearings", .ref cl), ("deed_counts", .ref dc), ("broken", .ref br), ("deeds_left", .non)]) = G9 at u9 x9 hli9 hbo9 hcl9 hdc9 hbr9 ⊢
          refine ⟨by show 0 ≤ sizeLine; decide, fun rc Brc nbrc sbrc hrc => ?_⟩
          have frc : H rc = none := Up.free u9 (fun z => by rw [z, x9] at nbrc; cases nbrc) nbrc
          have dborc : bo ≠ rc := ne_of_none hbo9 nbrc
          have dclrc : cl ≠ rc := ne_of_none hcl9 nbrc
          have ddcrc : dc ≠ rc := ne_of_none hdc9 nbrc
          have dbrrc : br ≠ rc := ne_of_none hbr9 nbrc
          refine ⟨_, rfl, x, _, dx, _, rfl, sbrc _ _ x9, T.cl_Chip, T.na_Chip_record, by simp, ?_⟩
          have xz := sbrc _ _ x9
          refine q ⟨dx, li, bo, cl, dc, br, rc⟩ _ ⟨upd_same, ?_, ?_, ?_, ?_, ?_, ⟨[], ?_, .nil⟩, ?_⟩ ?_ ?_
          · rw [upd_ne (ne_of (sbrc _ _ hli9) xz (by intro z; cases z))]; exact sbrc _ _ hli9
          · rw [upd_ne (ne_of (sbrc _ _ hbo9) xz (by intro z; cases z))]; exact sbrc _ _ hbo9
          · rw [upd_ne (ne_of (sbrc _ _ hcl9) xz (by intro z; cases z)), sbrc _ _ hcl9]; show some (HO.lst _) = some (HO.lst ((List.replicate b.toNat (0 : Int)).map V.int)); rw [List.map_replicate]
          · rw [upd_ne (ne_of (sbrc _ _ hdc9) xz (by intro z; cases z)), sbrc _ _ hdc9]; show some (HO.lst _) = some (HO.lst ((List.replicate b.toNat (0 : Int)).map V.int)); rw [List.map_replicate]
          · rw [upd_ne (ne_of (sbrc _ _ hbr9) xz (by intro z; cases z)), sbrc _ _ hbr9]; show some (HO.lst _) = some (HO.lst ((List.replicate b.toNat false).map V.bl)); rw [List.map_replicate]
          · rw [upd_ne (ne_of hrc xz (by intro z; cases z))]; exact hrc
          · simp only [List.nodup_cons, List.mem_cons, List.not_mem_nil, not_or, or_false, List.nodup_nil, and_true, not_false_eq_true]; exact ⟨⟨dbocl, dbodc, dbobr, dborc⟩, ⟨dcldc, dclbr, dclrc⟩, ⟨ddcbr, ddcrc⟩, dbrrc⟩
          · intro b' hb'; simp only [List.mem_cons, List.not_mem_nil, or_false] at hb'; rcases hb' with rfl | rfl | rfl | rfl | rfl | rfl <;> assumption
          · exact fun b' o' n' e' => by rw [upd_ne n']; exact sbrc _ _ (u9 b' o' n' e')
        · refine iteF ⟨_, rfl, _, rfl, l, b, xs, its, rfl, sq.imp (u1.seq hx) (u1.seqT hx), Paired.mapP pr (fun _ _ z => u1.pair hx z), ln, ?_⟩
          cases hl : limM b its [] with
          | none =>
            have q : match (limM b its []).map (fun l => CM.new b p m l) with | some m => ∀ a H', ChipAt t.C_Chip H' x a m → (∀ b ∈ [a.li, a.bo, a.cl, a.dc, a.br, a.rc], H b = none) → Up x H H' → Q .non H' | none => ∀ H', Up x H H' → E (.ref t.C_NoChip) none H' := q
            rw [hl] at q
            exact fun H' s' => q H' fun b' o' n' e' => s' _ _ (u1 b' o' n' e')
          | some lim =>
            have q : match (limM b its []).map (fun l => CM.new b p m l) with | some m => ∀ a H', ChipAt t.C_Chip H' x a m → (∀ b ∈ [a.li, a.bo, a.cl, a.dc, a.br, a.rc], H b = none) → Up x H H' → Q .non H' | none => ∀ H', Up x H H' → E (.ref t.C_NoChip) none H' := q
            rw [hl] at q
            replace q : ∀ a H', ChipAt t.C_Chip H' x a (CM.new b p m lim) → (∀ b ∈ [a.li, a.bo, a.cl, a.dc, a.br, a.rc], H b = none) → Up x H H' → Q .non H' := q
            intro li H3 n1 s1 e1
            have hx3 := s1 _ _ x1
            have u3 : Up x H H3 := fun b' o' n' e' => s1 _ _ (u1 b' o' n' e')
            have fli : H li = none := Up.free u1 (fun z => by rw [z, x1] at n1; cases n1) n1
            refine ⟨_, rfl, x, _, dx, _, rfl, hx3, T.cl_Chip, T.na_Chip_limits, by simp, ?_⟩
            have lx : li ≠ x := ne_of e1 hx3 (by intro z; cases z)
            have uu := u3
            have xx := hx3
            have hli := e1
            have u4 := uu.trans (Up.of (x := x) (o := .ins t.C_Chip dx [("blocks", .int b), ("pages", .int p), ("most", .int m), ("limits", .ref li)]) (Same.refl H3))
            have x4 : (upd H3 x (.ins t.C_Chip dx [("blocks", .int b), ("pages", .int p), ("most", .int m), ("limits", .ref li)])) x = some (.ins t.C_Chip dx [("blocks", .int b), ("pages", .int p), ("most", .int m), ("limits", .ref li)]) := upd_same
            have hli4 : (upd H3 x (.ins t.C_Chip dx [("blocks", .int b), ("pages", .int p), ("most", .int m), ("limits", .ref li)])) li = some (.dK lim) := by rw [upd_ne (ne_of hli xx (by intro z; cases z))]; exact hli
            show tSeq _ _ _ _ (upd H3 x (.ins t.C_Chip dx [("blocks", .int b), ("pages", .int p), ("most", .int m), ("limits", .ref li)]))
            generalize upd H3 x (.ins t.C_Chip dx [("blocks", .int b), ("pages", .int p), ("most", .int m), ("limits", .ref li)]) = G4 at u4 x4 hli4 ⊢
            clear uu xx hli
            have uu := u4
            have xx := x4
            have hli := hli4
            refine ⟨by show 1 ≤ sizeLine; decide, fun wbo Abo nabo sabo eabo => ⟨_, rfl, _, rfl, _, _, rfl, rfl, .inl ⟨by omega, by omega⟩, wbo, _, _, rfl, rfl, eabo, by omega, by omega, fun bo Bbo nbbo sbbo hbo => ?_⟩⟩
            have fbo : H bo = none := Up.free uu (fun z => by rw [z, sabo _ _ xx] at nbbo; cases nbbo) (Same.free sabo nbbo)
            have smbo := Same.trans sabo sbbo
            replace uu : Up x H Bbo := fun b' o' n' e' => smbo _ _ (uu b' o' n' e')
            replace xx := smbo _ _ xx
            replace hli := smbo _ _ hli
            refine ⟨_, rfl, x, _, dx, _, rfl, xx, T.cl_Chip, T.na_Chip_borne, by simp, ?_⟩
            have u5 := uu.trans (Up.of (x := x) (o := .ins t.C_Chip dx [("blocks", .int b), ("pages", .int p), ("most", .int m), ("limits", .ref li), ("borne", .ref bo)]) (Same.refl Bbo))
            have x5 : (upd Bbo x (.ins t.C_Chip dx [("blocks", .int b), ("pages", .int p), ("most", .int m), ("limits", .ref li), ("borne", .ref bo)])) x = some (.ins t.C_Chip dx [("blocks", .int b), ("pages", .int p), ("most", .int m), ("limits", .ref li), ("borne", .ref bo)]) := upd_same
            have hli5 : (upd Bbo x (.ins t.C_Chip dx [("blocks", .int b), ("pages", .int p), ("most", .int m), ("limits", .ref li), ("borne", .ref bo)])) li = some (.dK lim) := by rw [upd_ne (ne_of hli xx (by intro z; cases z))]; exact hli
            have hbo5 : (upd Bbo x (.ins t.C_Chip dx [("blocks", .int b), ("pages", .int p), ("most", .int m), ("limits", .ref li), ("borne", .ref bo)])) bo = some (.lst (List.replicate (b * p).toNat V.non)) := by rw [upd_ne (ne_of hbo xx (by intro z; cases z))]; exact hbo
            show tSeq _ _ _ _ (upd Bbo x (.ins t.C_Chip dx [("blocks", .int b), ("pages", .int p), ("most", .int m), ("limits", .ref li), ("borne", .ref bo)]))
            generalize upd Bbo x (.ins t.C_Chip dx [("blocks", .int b), ("pages", .int p), ("most", .int m), ("limits", .ref li), ("borne", .ref bo)]) = G5 at u5 x5 hli5 hbo5 ⊢
            clear uu xx hli hbo
            have uu := u5
            have xx := x5
            have hli := hli5
            have hbo := hbo5
            refine ⟨by show 1 ≤ sizeLine; decide, fun wcl Acl nacl sacl eacl => ⟨_, rfl, wcl, _, _, rfl, rfl, eacl, by omega, by omega, fun cl Bcl nbcl sbcl hcl => ?_⟩⟩
            have fcl : H cl = none := Up.free uu (fun z => by rw [z, sacl _ _ xx] at nbcl; cases nbcl) (Same.free sacl nbcl)
            have dbocl : bo ≠ cl := ne_of_none (sacl _ _ hbo) nbcl
            have smcl := Same.trans sacl sbcl
            replace uu : Up x H Bcl := fun b' o' n' e' => smcl _ _ (uu b' o' n' e')
            replace xx := smcl _ _ xx
            replace hli := smcl _ _ hli
            replace hbo := smcl _ _ hbo
            refine ⟨_, rfl, x, _, dx, _, rfl, xx, T.cl_Chip, T.na_Chip_clearings, by simp, ?_⟩
            have u6 := uu.trans (Up.of (x := x) (o := .ins t.C_Chip dx [("blocks", .int b), ("pages", .int p), ("most", .int m), ("limits", .ref li), ("borne", .ref bo), ("clearings", .ref cl)]) (Same.refl Bcl))
            have x6 : (upd Bcl x (.ins t.C_Chip dx [("blocks", .int b), ("pages", .int p), ("most", .int m), ("limits", .ref li), ("borne", .ref bo), ("clearings", .ref cl)])) x = some (.ins t.C_Chip dx [("blocks", .int b), ("pages", .int p), ("most", .int m), ("limits", .ref li), ("borne", .ref bo), ("clearings", .ref cl)]) := upd_same
            have hli6 : (upd Bcl x (.ins t.C_Chip dx [("blocks", .int b), ("pages", .int p), ("most", .int m), ("limits", .ref li), ("borne", .ref bo), ("clearings", .ref cl)])) li = some (.dK lim) := by rw [upd_ne (ne_of hli xx (by intro z; cases z))]; exact hli
            have hbo6 : (upd Bcl x (.ins t.C_Chip dx [("blocks", .int b), ("pages", .int p), ("most", .int m), ("limits", .ref li), ("borne", .ref bo), ("clearings", .ref cl)])) bo = some (.lst (List.replicate (b * p).toNat V.non)) := by rw [upd_ne (ne_of hbo xx (by intro z; cases z))]; exact hbo
            have hcl6 : (upd Bcl x (.ins t.C_Chip dx [("blocks", .int b), ("pages", .int p), ("most", .int m), ("limits", .ref li), ("borne", .ref bo), ("clearings", .ref cl)])) cl = some (.lst (List.replicate b.toNat (V.int 0))) := by rw [upd_ne (ne_of hcl xx (by intro z; cases z))]; exact hcl
            show tSeq _ _ _ _ (upd Bcl x (.ins t.C_Chip dx [("blocks", .int b), ("pages", .int p), ("most", .int m), ("limits", .ref li), ("borne", .ref bo), ("clearings", .ref cl)]))
            generalize upd Bcl x (.ins t.C_Chip dx [("blocks", .int b), ("pages", .int p), ("most", .int m), ("limits", .ref li), ("borne", .ref bo), ("clearings", .ref cl)]) = G6 at u6 x6 hli6 hbo6 hcl6 ⊢
            clear uu xx hli hbo hcl
            have uu := u6
            have xx := x6
            have hli := hli6
            have hbo := hbo6
            have hcl := hcl6
            refine ⟨by show 1 ≤ sizeLine; decide, fun wdc Adc nadc sadc eadc => ⟨_, rfl, wdc, _, _, rfl, rfl, eadc, by omega, by omega, fun dc Bdc nbdc sbdc hdc => ?_⟩⟩
            have fdc : H dc = none := Up.free uu (fun z => by rw [z, sadc _ _ xx] at nbdc; cases nbdc) (Same.free sadc nbdc)
            have dbodc : bo ≠ dc := ne_of_none (sadc _ _ hbo) nbdc
            have dcldc : cl ≠ dc := ne_of_none (sadc _ _ hcl) nbdc
            have smdc := Same.trans sadc sbdc
            replace uu : Up x H Bdc := fun b' o' n' e' => smdc _ _ (uu b' o' n' e')
            replace xx := smdc _ _ xx
            replace hli := smdc _ _ hli
            replace hbo := smdc _ _ hbo
            replace hcl := smdc _ _ hcl
            refine ⟨_, rfl, x, _, dx, _, rfl, xx, T.cl_Chip, T.na_Chip_deed_counts, by simp, ?_⟩
            have u7 := uu.trans (Up.of (x := x) (o := .ins t.C_Chip dx [("blocks", .int b), ("pages", .int p), ("most", .int m), ("limits", .ref li), ("borne", .ref bo), ("clearings", .ref cl), ("deed_counts", .ref dc)]) (Same.refl Bdc))
            have x7 : (upd Bdc x (.ins t.C_Chip dx [("blocks", .int b), ("pages", .int p), ("most", .int m), ("limits", .ref li), ("borne", .ref bo), ("clearings", .ref cl), ("deed_counts", .ref dc)])) x = some (.ins t.C_Chip dx [("blocks", .int b), ("pages", .int p), ("most", .int m), ("limits", .ref li), ("borne", .ref bo), ("clearings", .ref cl), ("deed_counts", .ref dc)]) := upd_same
            have hli7 : (upd Bdc x (.ins t.C_Chip dx [("blocks", .int b), ("pages", .int p), ("most", .int m), ("limits", .ref li), ("borne", .ref bo), ("clearings", .ref cl), ("deed_counts", .ref dc)])) li = some (.dK lim) := by rw [upd_ne (ne_of hli xx (by intro z; cases z))]; exact hli
            have hbo7 : (upd Bdc x (.ins t.C_Chip dx [("blocks", .int b), ("pages", .int p), ("most", .int m), ("limits", .ref li), ("borne", .ref bo), ("clearings", .ref cl), ("deed_counts", .ref dc)])) bo = some (.lst (List.replicate (b * p).toNat V.non)) := by rw [upd_ne (ne_of hbo xx (by intro z; cases z))]; exact hbo
            have hcl7 : (upd Bdc x (.ins t.C_Chip dx [("blocks", .int b), ("pages", .int p), ("most", .int m), ("limits", .ref li), ("borne", .ref bo), ("clearings", .ref cl), ("deed_counts", .ref dc)])) cl = some (.lst (List.replicate b.toNat (V.int 0))) := by rw [upd_ne (ne_of hcl xx (by intro z; cases z))]; exact hcl
            have hdc7 : (upd Bdc x (.ins t.C_Chip dx [("blocks", .int b), ("pages", .int p), ("most", .int m), ("limits", .ref li), ("borne", .ref bo), ("clearings", .ref cl), ("deed_counts", .ref dc)])) dc = some (.lst (List.replicate b.toNat (V.int 0))) := by rw [upd_ne (ne_of hdc xx (by intro z; cases z))]; exact hdc
            show tSeq _ _ _ _ (upd Bdc x (.ins t.C_Chip dx [("blocks", .int b), ("pages", .int p), ("most", .int m), ("limits", .ref li), ("borne", .ref bo), ("clearings", .ref cl), ("deed_counts", .ref dc)]))
            generalize upd Bdc x (.ins t.C_Chip dx [("blocks", .int b), ("pages", .int p), ("most", .int m), ("limits", .ref li), ("borne", .ref bo), ("clearings", .ref cl), ("deed_counts", .ref dc)]) = G7 at u7 x7 hli7 hbo7 hcl7 hdc7 ⊢
            clear uu xx hli hbo hcl hdc
            have uu := u7
            have xx := x7
            have hli := hli7
            have hbo := hbo7
            have hcl := hcl7
            have hdc := hdc7
            refine ⟨by show 1 ≤ sizeLine; decide, fun wbr Abr nabr sabr eabr => ⟨_, rfl, wbr, _, _, rfl, rfl, eabr, by omega, by omega, fun br Bbr nbbr sbbr hbr => ?_⟩⟩
            have fbr : H br = none := Up.free uu (fun z => by rw [z, sabr _ _ xx] at nbbr; cases nbbr) (Same.free sabr nbbr)
            have dbobr : bo ≠ br := ne_of_none (sabr _ _ hbo) nbbr
            have dclbr : cl ≠ br := ne_of_none (sabr _ _ hcl) nbbr
            have ddcbr : dc ≠ br := ne_of_none (sabr _ _ hdc) nbbr
            have smbr := Same.trans sabr sbbr
            replace uu : Up x H Bbr := fun b' o' n' e' => smbr _ _ (uu b' o' n' e')
            replace xx := smbr _ _ xx
            replace hli := smbr _ _ hli
            replace hbo := smbr _ _ hbo
            replace hcl := smbr _ _ hcl
            replace hdc := smbr _ _ hdc
            refine ⟨_, rfl, x, _, dx, _, rfl, xx, T.cl_Chip, T.na_Chip_broken, by simp, ?_⟩
            have u8 := uu.trans (Up.of (x := x) (o := .ins t.C_Chip dx [("blocks", .int b), ("pages", .int p), ("most", .int m), ("limits", .ref li), ("borne", .ref bo), ("clearings", .ref cl), ("deed_counts", .ref dc), ("broken", .ref br)]) (Same.refl Bbr))
            have x8 : (upd Bbr x (.ins t.C_Chip dx [("blocks", .int b), ("pages", .int p), ("most", .int m), ("limits", .ref li), ("borne", .ref bo), ("clearings", .ref cl), ("deed_counts", .ref dc), ("broken", .ref br)])) x = some (.ins t.C_Chip dx [("blocks", .int b), ("pages", .int p), ("most", .int m), ("limits", .ref li), ("borne", .ref bo), ("clearings", .ref cl), ("deed_counts", .ref dc), ("broken", .ref br)]) := upd_same
            have hli8 : (upd Bbr x (.ins t.C_Chip dx [("blocks", .int b), ("pages", .int p), ("most", .int m), ("limits", .ref li), ("borne", .ref bo), ("clearings", .ref cl), ("deed_counts", .ref dc), ("broken", .ref br)])) li = some (.dK lim) := by rw [upd_ne (ne_of hli xx (by intro z; cases z))]; exact hli
            have hbo8 : (upd Bbr x (.ins t.C_Chip dx [("blocks", .int b), ("pages", .int p), ("most", .int m), ("limits", .ref li), ("borne", .ref bo), ("clearings", .ref cl), ("deed_counts", .ref dc), ("broken", .ref br)])) bo = some (.lst (List.replicate (b * p).toNat V.non)) := by rw [upd_ne (ne_of hbo xx (by intro z; cases z))]; exact hbo
            have hcl8 : (upd Bbr x (.ins t.C_Chip dx [("blocks", .int b), ("pages", .int p), ("most", .int m), ("limits", .ref li), ("borne", .ref bo), ("clearings", .ref cl), ("deed_counts", .ref dc), ("broken", .ref br)])) cl = some (.lst (List.replicate b.toNat (V.int 0))) := by rw [upd_ne (ne_of hcl xx (by intro z; cases z))]; exact hcl
            have hdc8 : (upd Bbr x (.ins t.C_Chip dx [("blocks", .int b), ("pages", .int p), ("most", .int m), ("limits", .ref li), ("borne", .ref bo), ("clearings", .ref cl), ("deed_counts", .ref dc), ("broken", .ref br)])) dc = some (.lst (List.replicate b.toNat (V.int 0))) := by rw [upd_ne (ne_of hdc xx (by intro z; cases z))]; exact hdc
            have hbr8 : (upd Bbr x (.ins t.C_Chip dx [("blocks", .int b), ("pages", .int p), ("most", .int m), ("limits", .ref li), ("borne", .ref bo), ("clearings", .ref cl), ("deed_counts", .ref dc), ("broken", .ref br)])) br = some (.lst (List.replicate b.toNat (V.bl false))) := by rw [upd_ne (ne_of hbr xx (by intro z; cases z))]; exact hbr
            show tSeq _ _ _ _ (upd Bbr x (.ins t.C_Chip dx [("blocks", .int b), ("pages", .int p), ("most", .int m), ("limits", .ref li), ("borne", .ref bo), ("clearings", .ref cl), ("deed_counts", .ref dc), ("broken", .ref br)]))
            generalize upd Bbr x (.ins t.C_Chip dx [("blocks", .int b), ("pages", .int p), ("most", .int m), ("limits", .ref li), ("borne", .ref bo), ("clearings", .ref cl), ("deed_counts", .ref dc), ("broken", .ref br)]) = G8 at u8 x8 hli8 hbo8 hcl8 hdc8 hbr8 ⊢
            clear uu xx hli hbo hcl hdc hbr
            have uu := u8
            have xx := x8
            have hli := hli8
            have hbo := hbo8
            have hcl := hcl8
            have hdc := hdc8
            have hbr := hbr8
            refine ⟨_, rfl, x, _, dx, _, rfl, xx, T.cl_Chip, T.na_Chip_deeds_left, by simp, ?_⟩
            have u9 := uu.trans (Up.of (x := x) (o := .ins t.C_Chip dx [("blocks", .int b), ("pages", .int p), ("most", .int m), ("limits", .ref li), ("borne", .ref bo), ("clearings", .ref cl), ("deed_counts", .ref dc), ("broken", .ref br), ("deeds_left", .non)]) (Same.refl G8))
            have x9 : (upd G8 x (.ins t.C_Chip dx [("blocks", .int b), ("pages", .int p), ("most", .int m), ("limits", .ref li), ("borne", .ref bo), ("clearings", .ref cl), ("deed_counts", .ref dc), ("broken", .ref br), ("deeds_left", .non)])) x = some (.ins t.C_Chip dx [("blocks", .int b), ("pages", .int p), ("most", .int m), ("limits", .ref li), ("borne", .ref bo), ("clearings", .ref cl), ("deed_counts", .ref dc), ("broken", .ref br), ("deeds_left", .non)]) := upd_same
            have hli9 : (upd G8 x (.ins t.C_Chip dx [("blocks", .int b), ("pages", .int p), ("most", .int m), ("limits", .ref li), ("borne", .ref bo), ("clearings", .ref cl), ("deed_counts", .ref dc), ("broken", .ref br), ("deeds_left", .non)])) li = some (.dK lim) := by rw [upd_ne (ne_of hli xx (by intro z; cases z))]; exact hli
            have hbo9 : (upd G8 x (.ins t.C_Chip dx [("blocks", .int b), ("pages", .int p), ("most", .int m), ("limits", .ref li), ("borne", .ref bo), ("clearings", .ref cl), ("deed_counts", .ref dc), ("broken", .ref br), ("deeds_left", .non)])) bo = some (.lst (List.replicate (b * p).toNat V.non)) := by rw [upd_ne (ne_of hbo xx (by intro z; cases z))]; exact hbo
            have hcl9 : (upd G8 x (.ins t.C_Chip dx [("blocks", .int b), ("pages", .int p), ("most", .int m), ("limits", .ref li), ("borne", .ref bo), ("clearings", .ref cl), ("deed_counts", .ref dc), ("broken", .ref br), ("deeds_left", .non)])) cl = some (.lst (List.replicate b.toNat (V.int 0))) := by rw [upd_ne (ne_of hcl xx (by intro z; cases z))]; exact hcl
            have hdc9 : (upd G8 x (.ins t.C_Chip dx [("blocks", .int b), ("pages", .int p), ("most", .int m), ("limits", .ref li), ("borne", .ref bo), ("clearings", .ref cl), ("deed_counts", .ref dc), ("broken", .ref br), ("deeds_left", .non)])) dc = some (.lst (List.replicate b.toNat (V.int 0))) := by rw [upd_ne (ne_of hdc xx (by intro z; cases z))]; exact hdc
            have hbr9 : (upd G8 x (.ins t.C_Chip dx [("blocks", .int b), ("pages", .int p), ("most", .int m), ("limits", .ref li), ("borne", .ref bo), ("clearings", .ref cl), ("deed_counts", .ref dc), ("broken", .ref br), ("deeds_left", .non)])) br = some (.lst (List.replicate b.toNat (V.bl false))) := by rw [upd_ne (ne_of hbr xx (by intro z; cases z))]; exact hbr
            rw [show putF "deeds_left" V.non [("blocks", .int b), ("pages", .int p), ("most", .int m), ("limits", .ref li), ("borne", .ref bo), ("clearings", .ref cl), ("deed_counts", .ref dc), ("broken", .ref br)] = ([("blocks", .int b), ("pages", .int p), ("most", .int m), ("limits", .ref li), ("borne", .ref bo), ("clearings", .ref cl), ("deed_counts", .ref dc), ("broken", .ref br), ("deeds_left", .non)] : List (Str × V)) from rfl]
            generalize upd G8 x (.ins t.C_Chip dx [("blocks", .int b), ("pages", .int p), ("most", .int m), ("limits", .ref li), ("borne", .ref bo), ("clearings", .ref cl), ("deed_counts", .ref dc), ("broken", .ref br), ("deeds_left", .non)]) = G9 at u9 x9 hli9 hbo9 hcl9 hdc9 hbr9 ⊢
            refine ⟨by show 0 ≤ sizeLine; decide, fun rc Brc nbrc sbrc hrc => ?_⟩
            have frc : H rc = none := Up.free u9 (fun z => by rw [z, x9] at nbrc; cases nbrc) nbrc
            have dborc : bo ≠ rc := ne_of_none hbo9 nbrc
            have dclrc : cl ≠ rc := ne_of_none hcl9 nbrc
            have ddcrc : dc ≠ rc := ne_of_none hdc9 nbrc
            have dbrrc : br ≠ rc := ne_of_none hbr9 nbrc
            refine ⟨_, rfl, x, _, dx, _, rfl, sbrc _ _ x9, T.cl_Chip, T.na_Chip_record, by simp, ?_⟩
            have xz := sbrc _ _ x9
            refine q ⟨dx, li, bo, cl, dc, br, rc⟩ _ ⟨upd_same, ?_, ?_, ?_, ?_, ?_, ⟨[], ?_, .nil⟩, ?_⟩ ?_ ?_
            · rw [upd_ne (ne_of (sbrc _ _ hli9) xz (by intro z; cases z))]; exact sbrc _ _ hli9
            · rw [upd_ne (ne_of (sbrc _ _ hbo9) xz (by intro z; cases z))]; exact sbrc _ _ hbo9
            · rw [upd_ne (ne_of (sbrc _ _ hcl9) xz (by intro z; cases z)), sbrc _ _ hcl9]; show some (HO.lst _) = some (HO.lst ((List.replicate b.toNat (0 : Int)).map V.int)); rw [List.map_replicate]
            · rw [upd_ne (ne_of (sbrc _ _ hdc9) xz (by intro z; cases z)), sbrc _ _ hdc9]; show some (HO.lst _) = some (HO.lst ((List.replicate b.toNat (0 : Int)).map V.int)); rw [List.map_replicate]
            · rw [upd_ne (ne_of (sbrc _ _ hbr9) xz (by intro z; cases z)), sbrc _ _ hbr9]; show some (HO.lst _) = some (HO.lst ((List.replicate b.toNat false).map V.bl)); rw [List.map_replicate]
            · rw [upd_ne (ne_of hrc xz (by intro z; cases z))]; exact hrc
            · simp only [List.nodup_cons, List.mem_cons, List.not_mem_nil, not_or, or_false, List.nodup_nil, and_true, not_false_eq_true]; exact ⟨⟨dbocl, dbodc, dbobr, dborc⟩, ⟨dcldc, dclbr, dclrc⟩, ⟨ddcbr, ddcrc⟩, dbrrc⟩
            · intro b' hb'; simp only [List.mem_cons, List.not_mem_nil, or_false] at hb'; rcases hb' with rfl | rfl | rfl | rfl | rfl | rfl <;> assumption
            · exact fun b' o' n' e' => by rw [upd_ne n']; exact sbrc _ _ (u9 b' o' n' e')
      · rw [if_neg hm] at q
        rw [Bool.eq_false_iff.mpr hm]
        exact iteT ⟨by show 1 ≤ sizeLine; decide, q H fun _ _ _ e => e⟩
    · rw [if_neg hs] at q
      have e : (inB bl 2 16 && inB pg 1 16) = false := by
        cases z1 : inB bl 2 16 with
        | false => rfl
        | true =>
          cases z2 : inB pg 1 16 with
          | false => rfl
          | true => exact absurd ⟨z1, z2⟩ hs
      rw [e]
      exact iteT ⟨by show 1 ≤ sizeLine; decide, q H fun _ _ _ e => e⟩
theorem ok_law_cell_at (T : Txt K mg t) (S : Fns K t) : FnOk P w K mg base (CX0) 1 t.f_law_cell_at S.fd_law_cell_at ["_law_script", "_law_k"] (spCell K) := by
  refine S.F_law_cell_at.ok0 sc_law_cell_at (fun vs H Q E h => ?_) (fun cdv A outer s H vs Q E hr h => ?_)
  · obtain ⟨a, ns, k, rfl, _⟩ := h
    rfl
  · obtain ⟨a, ns, k, rfl, hS, h0, q⟩ := h
    refine ⟨_, (pss_cons (ps_if (pt_cmpR op_lt (pv 1) (pe_callB call_len_seq (by rfl) T.b_len PySem.boot_len (pa_cons (pv 0) pa_nil)) (nomark _)) (pss_one (ps_ret (pe_ix ix_list (pv 0) (pv 1) (fun _ _ => rfl)))) pss_nil) (pss_one (ps_ret pe_int))), ?_⟩
    refine ⟨_, rfl, _, rfl, a, _, rfl, .inl hS, _, _, rfl, rfl, _, rfl, ?_⟩
    rw [List.length_map]
    by_cases h1 : k < (ns.length : Int)
    · rw [decide_eq_true h1]
      refine iteT ?_
      exact ⟨_, rfl, _, rfl, a, _, k, _, rfl, rfl, hS, cellAt_in h0 h1, q⟩
    · rw [decide_eq_false h1]
      refine iteF ?_
      have e := cellAt_out h0 h1
      rw [e] at q
      exact q
theorem mk_ok {H : Hp} {bl pg mo il : V} {its : List (V × V)} {Q : Addr → Hp → Prop} {E : XK} (kb : Knd H bl) (kp : Knd H pg) (km : Knd H mo) (hil : (il = .non ∧ its = []) ∨ ∃ l xs, il = .ref l ∧ (SqL K H l xs ∨ SqT K H l xs) ∧ Paired (pairAt H) xs its ∧ its.length ≤ 1000)
    (q : match CM.made bl pg mo its with | some m => ∀ x a H', ChipAt t.C_Chip H' x a m → Same H H' → (∀ b ∈ a.li :: foot x a, H b = none) → Q x H' | none => ∀ H', Same H H' → E (.ref t.C_NoChip) none H') (x dx : Addr) (nx : H x = none) (ndx : H dx = none) (ne : dx ≠ x) :
    spMk K t [.ref x, bl, pg, mo, il] (upd (upd H dx (.own x)) x (.ins t.C_Chip dx [])) (fun v H2 => v = .non ∧ Q x H2) E := by
  have s0 : Same H (upd (upd H dx (.own x)) x (.ins t.C_Chip dx [])) := fun b o e => by rw [upd_ne (ne_of_none e nx), upd_ne (ne_of_none e ndx)]; exact e
  refine ⟨x, dx, bl, pg, mo, il, its, rfl, upd_same, kb.same s0, kp.same s0, km.same s0, ?_, ?_⟩
  · rcases hil with z | ⟨l, xs, e, sq, pr, ln⟩
    · exact .inl z
    · exact .inr ⟨l, xs, e, sq.imp s0.seq s0.seqT, Paired.mapP pr (fun _ _ z => z.same s0), ln⟩
  · cases hm : CM.made bl pg mo its with
    | none =>
      rw [hm] at q
      exact fun H' u => q H' fun b o e => u b o (ne_of_none e nx) (s0 b o e)
    | some m =>
      rw [hm] at q
      refine fun a H' hc fr u => ⟨rfl, q x a H' hc (fun b o e => u b o (ne_of_none e nx) (s0 b o e)) fun b hb => ?_⟩
      have hb : b = a.li ∨ b = x ∨ b = a.bo ∨ b = a.cl ∨ b = a.dc ∨ b = a.br ∨ b = a.rc := by simpa [foot] using hb
      rcases hb with rfl | rfl | rfl | rfl | rfl | rfl | rfl
      · exact s0.free (fr _ (by simp))
      · exact nx
      · exact s0.free (fr _ (by simp))
      · exact s0.free (fr _ (by simp))
      · exact s0.free (fr _ (by simp))
      · exact s0.free (fr _ (by simp))
      · exact s0.free (fr _ (by simp))
def KT (K : PySem.W.Frag) (t : Adr) (C : Addr) (k : Nat) : Prop :=
  PySem.W.kitOne K (.ref C) (.ref t.C_NoChip) = some (decide (0 = k)) ∧
  PySem.W.kitOne K (.ref C) (.ref t.C_NoPlace) = some (decide (1 = k)) ∧
  PySem.W.kitOne K (.ref C) (.ref t.C_PowerGone) = some (decide (2 = k)) ∧
  PySem.W.kitOne K (.ref C) (.ref t.C_BlockFailed) = some (decide (3 = k)) ∧
  PySem.W.kitOne K (.ref C) (.ref t.C_NotClear) = some (decide (4 = k)) ∧
  PySem.W.kitOne K (.ref C) (.ref t.C_NoTerms) = some (decide (5 = k)) ∧
  PySem.W.kitOne K (.ref C) (.ref t.C_NoSheet) = some (decide (6 = k)) ∧
  PySem.W.kitOne K (.ref C) (.ref t.C_NoValue) = some (decide (7 = k)) ∧
  PySem.W.kitOne K (.ref C) (.ref t.C_Full) = some (decide (8 = k)) ∧
  PySem.W.kitOne K (.ref C) (.ref t.C_NoRoom) = some (decide (9 = k)) ∧
  PySem.W.kitOne K (.ref C) (.ref t.C_WornOut) = some (decide (10 = k)) ∧
  PySem.W.kitOne K (.ref C) (.ref t.C_NoRule) = some (decide (11 = k)) ∧
  PySem.W.kitOne K (.ref C) (.ref t.C_NoRace) = some (decide (12 = k)) ∧
  PySem.W.kitOne K (.ref C) (.ref t.C_NoPart) = some (decide (13 = k)) ∧
  PySem.W.kitOne K (.ref C) (.ref t.C_NoRow) = some (decide (14 = k)) ∧
  PySem.W.kitOne K (.ref C) (.ref t.C_WornError) = some true ∧ PySem.W.kitOne K (.ref C) (.type "ValueError") = some true ∧ XRd K C
theorem kt_NoChip (T : Txt K mg t) : KT K t t.C_NoChip 0 := ⟨T.xk_NoChip_NoChip, T.xk_NoChip_NoPlace, T.xk_NoChip_PowerGone, T.xk_NoChip_BlockFailed, T.xk_NoChip_NotClear, T.xk_NoChip_NoTerms, T.xk_NoChip_NoSheet, T.xk_NoChip_NoValue, T.xk_NoChip_Full, T.xk_NoChip_NoRoom, T.xk_NoChip_WornOut, T.xk_NoChip_NoRule, T.xk_NoChip_NoRace, T.xk_NoChip_NoPart, T.xk_NoChip_NoRow, T.xk_NoChip_WornError, T.xk_NoChip_ValueError, T.xr_NoChip⟩
theorem kt_NoPlace (T : Txt K mg t) : KT K t t.C_NoPlace 1 := ⟨T.xk_NoPlace_NoChip, T.xk_NoPlace_NoPlace, T.xk_NoPlace_PowerGone, T.xk_NoPlace_BlockFailed, T.xk_NoPlace_NotClear, T.xk_NoPlace_NoTerms, T.xk_NoPlace_NoSheet, T.xk_NoPlace_NoValue, T.xk_NoPlace_Full, T.xk_NoPlace_NoRoom, T.xk_NoPlace_WornOut, T.xk_NoPlace_NoRule, T.xk_NoPlace_NoRace, T.xk_NoPlace_NoPart, T.xk_NoPlace_NoRow, T.xk_NoPlace_WornError, T.xk_NoPlace_ValueError, T.xr_NoPlace⟩
theorem kt_PowerGone (T : Txt K mg t) : KT K t t.C_PowerGone 2 := ⟨T.xk_PowerGone_NoChip, T.xk_PowerGone_NoPlace, T.xk_PowerGone_PowerGone, T.xk_PowerGone_BlockFailed, T.xk_PowerGone_NotClear, T.xk_PowerGone_NoTerms, T.xk_PowerGone_NoSheet, T.xk_PowerGone_NoValue, T.xk_PowerGone_Full, T.xk_PowerGone_NoRoom, T.xk_PowerGone_WornOut, T.xk_PowerGone_NoRule, T.xk_PowerGone_NoRace, T.xk_PowerGone_NoPart, T.xk_PowerGone_NoRow, T.xk_PowerGone_WornError, T.xk_PowerGone_ValueError, T.xr_PowerGone⟩
theorem kt_BlockFailed (T : Txt K mg t) : KT K t t.C_BlockFailed 3 := ⟨T.xk_BlockFailed_NoChip, T.xk_BlockFailed_NoPlace, T.xk_BlockFailed_PowerGone, T.xk_BlockFailed_BlockFailed, T.xk_BlockFailed_NotClear, T.xk_BlockFailed_NoTerms, T.xk_BlockFailed_NoSheet, T.xk_BlockFailed_NoValue, T.xk_BlockFailed_Full, T.xk_BlockFailed_NoRoom, T.xk_BlockFailed_WornOut, T.xk_BlockFailed_NoRule, T.xk_BlockFailed_NoRace, T.xk_BlockFailed_NoPart, T.xk_BlockFailed_NoRow, T.xk_BlockFailed_WornError, T.xk_BlockFailed_ValueError, T.xr_BlockFailed⟩
theorem kt_NotClear (T : Txt K mg t) : KT K t t.C_NotClear 4 := ⟨T.xk_NotClear_NoChip, T.xk_NotClear_NoPlace, T.xk_NotClear_PowerGone, T.xk_NotClear_BlockFailed, T.xk_NotClear_NotClear, T.xk_NotClear_NoTerms, T.xk_NotClear_NoSheet, T.xk_NotClear_NoValue, T.xk_NotClear_Full, T.xk_NotClear_NoRoom, T.xk_NotClear_WornOut, T.xk_NotClear_NoRule, T.xk_NotClear_NoRace, T.xk_NotClear_NoPart, T.xk_NotClear_NoRow, T.xk_NotClear_WornError, T.xk_NotClear_ValueError, T.xr_NotClear⟩
theorem kt_NoTerms (T : Txt K mg t) : KT K t t.C_NoTerms 5 := ⟨T.xk_NoTerms_NoChip, T.xk_NoTerms_NoPlace, T.xk_NoTerms_PowerGone, T.xk_NoTerms_BlockFailed, T.xk_NoTerms_NotClear, T.xk_NoTerms_NoTerms, T.xk_NoTerms_NoSheet, T.xk_NoTerms_NoValue, T.xk_NoTerms_Full, T.xk_NoTerms_NoRoom, T.xk_NoTerms_WornOut, T.xk_NoTerms_NoRule, T.xk_NoTerms_NoRace, T.xk_NoTerms_NoPart, T.xk_NoTerms_NoRow, T.xk_NoTerms_WornError, T.xk_NoTerms_ValueError, T.xr_NoTerms⟩
theorem kt_NoSheet (T : Txt K mg t) : KT K t t.C_NoSheet 6 := ⟨T.xk_NoSheet_NoChip, T.xk_NoSheet_NoPlace, T.xk_NoSheet_PowerGone, T.xk_NoSheet_BlockFailed, T.xk_NoSheet_NotClear, T.xk_NoSheet_NoTerms, T.xk_NoSheet_NoSheet, T.xk_NoSheet_NoValue, T.xk_NoSheet_Full, T.xk_NoSheet_NoRoom, T.xk_NoSheet_WornOut, T.xk_NoSheet_NoRule, T.xk_NoSheet_NoRace, T.xk_NoSheet_NoPart, T.xk_NoSheet_NoRow, T.xk_NoSheet_WornError, T.xk_NoSheet_ValueError, T.xr_NoSheet⟩
theorem kt_NoValue (T : Txt K mg t) : KT K t t.C_NoValue 7 := ⟨T.xk_NoValue_NoChip, T.xk_NoValue_NoPlace, T.xk_NoValue_PowerGone, T.xk_NoValue_BlockFailed, T.xk_NoValue_NotClear, T.xk_NoValue_NoTerms, T.xk_NoValue_NoSheet, T.xk_NoValue_NoValue, T.xk_NoValue_Full, T.xk_NoValue_NoRoom, T.xk_NoValue_WornOut, T.xk_NoValue_NoRule, T.xk_NoValue_NoRace, T.xk_NoValue_NoPart, T.xk_NoValue_NoRow, T.xk_NoValue_WornError, T.xk_NoValue_ValueError, T.xr_NoValue⟩
theorem kt_Full (T : Txt K mg t) : KT K t t.C_Full 8 := ⟨T.xk_Full_NoChip, T.xk_Full_NoPlace, T.xk_Full_PowerGone, T.xk_Full_BlockFailed, T.xk_Full_NotClear, T.xk_Full_NoTerms, T.xk_Full_NoSheet, T.xk_Full_NoValue, T.xk_Full_Full, T.xk_Full_NoRoom, T.xk_Full_WornOut, T.xk_Full_NoRule, T.xk_Full_NoRace, T.xk_Full_NoPart, T.xk_Full_NoRow, T.xk_Full_WornError, T.xk_Full_ValueError, T.xr_Full⟩
theorem kt_NoRoom (T : Txt K mg t) : KT K t t.C_NoRoom 9 := ⟨T.xk_NoRoom_NoChip, T.xk_NoRoom_NoPlace, T.xk_NoRoom_PowerGone, T.xk_NoRoom_BlockFailed, T.xk_NoRoom_NotClear, T.xk_NoRoom_NoTerms, T.xk_NoRoom_NoSheet, T.xk_NoRoom_NoValue, T.xk_NoRoom_Full, T.xk_NoRoom_NoRoom, T.xk_NoRoom_WornOut, T.xk_NoRoom_NoRule, T.xk_NoRoom_NoRace, T.xk_NoRoom_NoPart, T.xk_NoRoom_NoRow, T.xk_NoRoom_WornError, T.xk_NoRoom_ValueError, T.xr_NoRoom⟩
theorem kt_WornOut (T : Txt K mg t) : KT K t t.C_WornOut 10 := ⟨T.xk_WornOut_NoChip, T.xk_WornOut_NoPlace, T.xk_WornOut_PowerGone, T.xk_WornOut_BlockFailed, T.xk_WornOut_NotClear, T.xk_WornOut_NoTerms, T.xk_WornOut_NoSheet, T.xk_WornOut_NoValue, T.xk_WornOut_Full, T.xk_WornOut_NoRoom, T.xk_WornOut_WornOut, T.xk_WornOut_NoRule, T.xk_WornOut_NoRace, T.xk_WornOut_NoPart, T.xk_WornOut_NoRow, T.xk_WornOut_WornError, T.xk_WornOut_ValueError, T.xr_WornOut⟩
theorem kt_NoRule (T : Txt K mg t) : KT K t t.C_NoRule 11 := ⟨T.xk_NoRule_NoChip, T.xk_NoRule_NoPlace, T.xk_NoRule_PowerGone, T.xk_NoRule_BlockFailed, T.xk_NoRule_NotClear, T.xk_NoRule_NoTerms, T.xk_NoRule_NoSheet, T.xk_NoRule_NoValue, T.xk_NoRule_Full, T.xk_NoRule_NoRoom, T.xk_NoRule_WornOut, T.xk_NoRule_NoRule, T.xk_NoRule_NoRace, T.xk_NoRule_NoPart, T.xk_NoRule_NoRow, T.xk_NoRule_WornError, T.xk_NoRule_ValueError, T.xr_NoRule⟩
theorem kt_NoRace (T : Txt K mg t) : KT K t t.C_NoRace 12 := ⟨T.xk_NoRace_NoChip, T.xk_NoRace_NoPlace, T.xk_NoRace_PowerGone, T.xk_NoRace_BlockFailed, T.xk_NoRace_NotClear, T.xk_NoRace_NoTerms, T.xk_NoRace_NoSheet, T.xk_NoRace_NoValue, T.xk_NoRace_Full, T.xk_NoRace_NoRoom, T.xk_NoRace_WornOut, T.xk_NoRace_NoRule, T.xk_NoRace_NoRace, T.xk_NoRace_NoPart, T.xk_NoRace_NoRow, T.xk_NoRace_WornError, T.xk_NoRace_ValueError, T.xr_NoRace⟩
theorem kt_NoPart (T : Txt K mg t) : KT K t t.C_NoPart 13 := ⟨T.xk_NoPart_NoChip, T.xk_NoPart_NoPlace, T.xk_NoPart_PowerGone, T.xk_NoPart_BlockFailed, T.xk_NoPart_NotClear, T.xk_NoPart_NoTerms, T.xk_NoPart_NoSheet, T.xk_NoPart_NoValue, T.xk_NoPart_Full, T.xk_NoPart_NoRoom, T.xk_NoPart_WornOut, T.xk_NoPart_NoRule, T.xk_NoPart_NoRace, T.xk_NoPart_NoPart, T.xk_NoPart_NoRow, T.xk_NoPart_WornError, T.xk_NoPart_ValueError, T.xr_NoPart⟩
theorem kt_NoRow (T : Txt K mg t) : KT K t t.C_NoRow 14 := ⟨T.xk_NoRow_NoChip, T.xk_NoRow_NoPlace, T.xk_NoRow_PowerGone, T.xk_NoRow_BlockFailed, T.xk_NoRow_NotClear, T.xk_NoRow_NoTerms, T.xk_NoRow_NoSheet, T.xk_NoRow_NoValue, T.xk_NoRow_Full, T.xk_NoRow_NoRoom, T.xk_NoRow_WornOut, T.xk_NoRow_NoRule, T.xk_NoRow_NoRace, T.xk_NoRow_NoPart, T.xk_NoRow_NoRow, T.xk_NoRow_WornError, T.xk_NoRow_ValueError, T.xr_NoRow⟩
theorem kt_WornError (T : Txt K mg t) : KT K t t.C_WornError 15 := ⟨T.xk_WornError_NoChip, T.xk_WornError_NoPlace, T.xk_WornError_PowerGone, T.xk_WornError_BlockFailed, T.xk_WornError_NotClear, T.xk_WornError_NoTerms, T.xk_WornError_NoSheet, T.xk_WornError_NoValue, T.xk_WornError_Full, T.xk_WornError_NoRoom, T.xk_WornError_WornOut, T.xk_WornError_NoRule, T.xk_WornError_NoRace, T.xk_WornError_NoPart, T.xk_WornError_NoRow, T.xk_WornError_WornError, T.xk_WornError_ValueError, T.xr_WornError⟩
def exL (t : Adr) : List (Addr × Option (Str × Int)) := [(t.C_NoChip, none), (t.C_NoPlace, none), (t.C_PowerGone, none), (t.C_BlockFailed, some ("block", 3)), (t.C_NotClear, some ("page", 4)), (t.C_NoTerms, none), (t.C_NoSheet, none), (t.C_NoValue, none), (t.C_Full, none), (t.C_NoRoom, none), (t.C_WornOut, none), (t.C_NoRule, none), (t.C_NoRace, none), (t.C_NoPart, none), (t.C_NoRow, none), (t.C_WornError, none)]
def ExA (K : PySem.W.Frag) (t : Adr) (H : Hp) (v : V) (k : Nat) : Prop := ∃ d, ExF H v d ∧ KT K t d.1 k
theorem exA_at (T : Txt K mg t) {H : Hp} {v : V} : ∀ {k : Nat} {d : Addr × Option (Str × Int)}, (exL t)[k]? = some d → ExF H v d → ExA K t H v k
  | 0, d, e, h => by cases e; exact ⟨_, h, kt_NoChip T⟩
  | 1, d, e, h => by cases e; exact ⟨_, h, kt_NoPlace T⟩
  | 2, d, e, h => by cases e; exact ⟨_, h, kt_PowerGone T⟩
  | 3, d, e, h => by cases e; exact ⟨_, h, kt_BlockFailed T⟩
  | 4, d, e, h => by cases e; exact ⟨_, h, kt_NotClear T⟩
  | 5, d, e, h => by cases e; exact ⟨_, h, kt_NoTerms T⟩
  | 6, d, e, h => by cases e; exact ⟨_, h, kt_NoSheet T⟩
  | 7, d, e, h => by cases e; exact ⟨_, h, kt_NoValue T⟩
  | 8, d, e, h => by cases e; exact ⟨_, h, kt_Full T⟩
  | 9, d, e, h => by cases e; exact ⟨_, h, kt_NoRoom T⟩
  | 10, d, e, h => by cases e; exact ⟨_, h, kt_WornOut T⟩
  | 11, d, e, h => by cases e; exact ⟨_, h, kt_NoRule T⟩
  | 12, d, e, h => by cases e; exact ⟨_, h, kt_NoRace T⟩
  | 13, d, e, h => by cases e; exact ⟨_, h, kt_NoPart T⟩
  | 14, d, e, h => by cases e; exact ⟨_, h, kt_NoRow T⟩
  | 15, d, e, h => by cases e; exact ⟨_, h, kt_WornError T⟩
  | n + 16, d, e, h => nomatch e
theorem ExA.knd {H : Hp} {v : V} {k : Nat} (h : ExA K t H v k) : ∃ C, KndT K H v (.ref C) ∧ KT K t C k := by
  obtain ⟨⟨C, z⟩, ⟨ea, od, e1, e2, e3⟩, kt⟩ := h
  refine ⟨C, .inr ⟨ea, C, od, e1, rfl, e2, ?_, ?_⟩, kt⟩
  · obtain ⟨_, _, _, _, _, _, _, _, _, _, _, _, _, _, _, _, _, x⟩ := kt
    exact x
  · cases z with
    | none => exact .inl e3
    | some z => obtain ⟨dx, z1, z2⟩ := e3; exact .inr ⟨dx, _, z1, z2⟩
theorem ExA.same {H H' : Hp} {v : V} {k : Nat} (s : Same H H') (h : ExA K t H v k) : ExA K t H' v k := let ⟨d, f, k⟩ := h; ⟨d, ex_stay _ _ _ _ s f, k⟩
theorem KndT.same {H H' : Hp} {v : V} {x : Addr} (s : Same H H') (h : ∃ ea od, v = .ref ea ∧ XAny H ea (.ref x) od ∧ XRd K x ∧ (od = none ∨ ∃ dx fs, od = some dx ∧ H dx = some (.xd fs))) : KndT K H' v (.ref x) := by
  obtain ⟨ea, od, e1, e2, e3, e4⟩ := h
  refine .inr ⟨ea, x, od, e1, rfl, e2.same s, e3, ?_⟩
  rcases e4 with e | ⟨dx, fs, e, e'⟩
  · exact .inl e
  · exact .inr ⟨dx, fs, e, s _ _ e'⟩
def kdL (k : Nat) : List V := (List.range 15).map fun j => V.bl (decide (j = k))
def spOf (K : PySem.W.Frag) (t : Adr) : Sp := fun vs H Q E => ∃ v k, vs = [v] ∧ ExA K t H v k ∧ ∀ p H', H p = none → Same H H' → H' p = some (.lst (kdL k)) → Q (.ref p) H'
theorem ok_law_of (T : Txt K mg t) (S : Fns K t) : FnOk P w K mg base (CX0) 1 t.f_law_of S.fd_law_of ["_law_e"] (spOf K t) := by
  refine S.F_law_of.ok0 sc_law_of (fun vs H Q E h => ?_) (fun cdv A outer s H vs Q E hr h => ?_)
  · obtain ⟨v, k, rfl, _⟩ := h
    rfl
  · obtain ⟨v, k, rfl, hx, q⟩ := h
    refine ⟨_, (pss_cons (ps_set (i := 1) sc_law_of.nd rfl (Or.inl rfl) (pe_lstN (pa_cons (pe_callB call_isinstC (by rfl) T.b_isinstance (by kernel_rfl) (pa_cons (pv 0) (pa_cons (pe_glob rfl T.mg_NoChip rfl (v := .ref t.C_NoChip)) pa_nil))) (pa_cons (pe_callB call_isinstC (by rfl) T.b_isinstance (by kernel_rfl) (pa_cons (pv 0) (pa_cons (pe_glob rfl T.mg_NoPlace rfl (v := .ref t.C_NoPlace)) pa_nil))) (pa_cons (pe_callB call_isinstC (by rfl) T.b_isinstance (by kernel_rfl) (pa_cons (pv 0) (pa_cons (pe_glob rfl T.mg_PowerGone rfl (v := .ref t.C_PowerGone)) pa_nil))) (pa_cons (pe_callB call_isinstC (by rfl) T.b_isinstance (by kernel_rfl) (pa_cons (pv 0) (pa_cons (pe_glob rfl T.mg_BlockFailed rfl (v := .ref t.C_BlockFailed)) pa_nil))) pa_nil)))))) (pss_cons (ps_set (i := 1) sc_law_of.nd rfl (Or.inl rfl) (pe_op op_catN (pv 1) (pe_lstN (pa_cons (pe_callB call_isinstC (by rfl) T.b_isinstance (by kernel_rfl) (pa_cons (pv 0) (pa_cons (pe_glob rfl T.mg_NotClear rfl (v := .ref t.C_NotClear)) pa_nil))) (pa_cons (pe_callB call_isinstC (by rfl) T.b_isinstance (by kernel_rfl) (pa_cons (pv 0) (pa_cons (pe_glob rfl T.mg_NoTerms rfl (v := .ref t.C_NoTerms)) pa_nil))) (pa_cons (pe_callB call_isinstC (by rfl) T.b_isinstance (by kernel_rfl) (pa_cons (pv 0) (pa_cons (pe_glob rfl T.mg_NoSheet rfl (v := .ref t.C_NoSheet)) pa_nil))) (pa_cons (pe_callB call_isinstC (by rfl) T.b_isinstance (by kernel_rfl) (pa_cons (pv 0) (pa_cons (pe_glob rfl T.mg_NoValue rfl (v := .ref t.C_NoValue)) pa_nil))) pa_nil))))))) (pss_cons (ps_set (i := 1) sc_law_of.nd rfl (Or.inl rfl) (pe_op op_catN (pv 1) (pe_lstN (pa_cons (pe_callB call_isinstC (by rfl) T.b_isinstance (by kernel_rfl) (pa_cons (pv 0) (pa_cons (pe_glob rfl T.mg_Full rfl (v := .ref t.C_Full)) pa_nil))) (pa_cons (pe_callB call_isinstC (by rfl) T.b_isinstance (by kernel_rfl) (pa_cons (pv 0) (pa_cons (pe_glob rfl T.mg_NoRoom rfl (v := .ref t.C_NoRoom)) pa_nil))) (pa_cons (pe_callB call_isinstC (by rfl) T.b_isinstance (by kernel_rfl) (pa_cons (pv 0) (pa_cons (pe_glob rfl T.mg_WornOut rfl (v := .ref t.C_WornOut)) pa_nil))) (pa_cons (pe_callB call_isinstC (by rfl) T.b_isinstance (by kernel_rfl) (pa_cons (pv 0) (pa_cons (pe_glob rfl T.mg_NoRule rfl (v := .ref t.C_NoRule)) pa_nil))) pa_nil))))))) (pss_one (ps_ret (pe_op op_catN (pv 1) (pe_lstN (pa_cons (pe_callB call_isinstC (by rfl) T.b_isinstance (by kernel_rfl) (pa_cons (pv 0) (pa_cons (pe_glob rfl T.mg_NoRace rfl (v := .ref t.C_NoRace)) pa_nil))) (pa_cons (pe_callB call_isinstC (by rfl) T.b_isinstance (by kernel_rfl) (pa_cons (pv 0) (pa_cons (pe_glob rfl T.mg_NoPart rfl (v := .ref t.C_NoPart)) pa_nil))) (pa_cons (pe_callB call_isinstC (by rfl) T.b_isinstance (by kernel_rfl) (pa_cons (pv 0) (pa_cons (pe_glob rfl T.mg_NoRow rfl (v := .ref t.C_NoRow)) pa_nil))) pa_nil)))))))))), ?_⟩
    have kn : ∀ H', Same H H' → ∃ C', KndT K H' v (.ref C') ∧ KT K t C' k := fun H' s => (hx.same s).knd
    obtain ⟨C0, kn0, k0, k1, k2, k3, k4, k5, k6, k7, k8, k9, k10, k11, k12, k13, k14, _, _, _⟩ := kn H (Same.refl H)
    refine ⟨_, rfl, v, _, _, _, _, rfl, rfl, kn0, k0, _, rfl, v, _, _, _, _, rfl, rfl, kn0, k1, _, rfl, v, _, _, _, _, rfl, rfl, kn0, k2, _, rfl, v, _, _, _, _, rfl, rfl, kn0, k3, show 4 ≤ sizeLine by decide, fun p1 H1 n1 s1 e1 => ?_⟩
    obtain ⟨C1, kn1, k1_0, k1_1, k1_2, k1_3, k1_4, k1_5, k1_6, k1_7, k1_8, k1_9, k1_10, k1_11, k1_12, k1_13, k1_14, _, _, _⟩ := kn H1 s1
    refine ⟨_, rfl, _, rfl, v, _, _, _, _, rfl, rfl, kn1, k1_4, _, rfl, v, _, _, _, _, rfl, rfl, kn1, k1_5, _, rfl, v, _, _, _, _, rfl, rfl, kn1, k1_6, _, rfl, v, _, _, _, _, rfl, rfl, kn1, k1_7, show 4 ≤ sizeLine by decide, fun l1 L1 m1 t1 f1 => ?_⟩
    refine ⟨p1, l1, _, _, rfl, rfl, t1 _ _ e1, f1, show 4 + 4 ≤ sizeLine by decide, fun q1 G1 o1 u1 w1 => ?_⟩
    have z1 : Same H G1 := s1.trans (t1.trans u1)
    obtain ⟨C2, kn2, k2_0, k2_1, k2_2, k2_3, k2_4, k2_5, k2_6, k2_7, k2_8, k2_9, k2_10, k2_11, k2_12, k2_13, k2_14, _, _, _⟩ := kn G1 z1
    refine ⟨_, rfl, _, rfl, v, _, _, _, _, rfl, rfl, kn2, k2_8, _, rfl, v, _, _, _, _, rfl, rfl, kn2, k2_9, _, rfl, v, _, _, _, _, rfl, rfl, kn2, k2_10, _, rfl, v, _, _, _, _, rfl, rfl, kn2, k2_11, show 4 ≤ sizeLine by decide, fun l2 L2 m2 t2 f2 => ?_⟩
    refine ⟨q1, l2, _, _, rfl, rfl, t2 _ _ w1, f2, show 8 + 4 ≤ sizeLine by decide, fun q2 G2 o2 u2 w2 => ?_⟩
    have z2 : Same H G2 := z1.trans (t2.trans u2)
    obtain ⟨C3, kn3, k3_0, k3_1, k3_2, k3_3, k3_4, k3_5, k3_6, k3_7, k3_8, k3_9, k3_10, k3_11, k3_12, k3_13, k3_14, _, _, _⟩ := kn G2 z2
    refine ⟨_, rfl, _, rfl, v, _, _, _, _, rfl, rfl, kn3, k3_12, _, rfl, v, _, _, _, _, rfl, rfl, kn3, k3_13, _, rfl, v, _, _, _, _, rfl, rfl, kn3, k3_14, show 3 ≤ sizeLine by decide, fun l3 L3 m3 t3 f3 => ?_⟩
    refine ⟨q2, l3, _, _, rfl, rfl, t3 _ _ w2, f3, show 12 + 3 ≤ sizeLine by decide, fun q3 G3 o3 u3 w3 => ?_⟩
    have z3 : Same H G3 := z2.trans (t3.trans u3)
    exact q q3 G3 (z2.free (t3.free o3)) z3 w3
def spAll (t : Adr) : Sp := fun vs H Q E => vs = [] ∧ ∀ p H' ys, Same H H' → H' p = some (.lst ys) → Paired (ExF H') ys (exL t) → Q (.ref p) H'
theorem ok_law_all (T : Txt K mg t) (S : Fns K t) : FnOk P w K mg base (CX0) 3 t.f_law_all S.fd_law_all [] (spAll t) := by
  refine S.F_law_all.ok0 sc_law_all (fun vs H Q E h => ?_) (fun cdv A outer s H vs Q E hr h => ?_)
  · rw [h.1]
    rfl
  · obtain ⟨rfl, q⟩ := h
    refine ⟨_, (pss_cons (ps_set (i := 0) sc_law_all.nd rfl (Or.inl rfl) (pe_lstN (pa_cons (pe_makeX T.x_NoChip rfl T.mg_NoChip T.kp_NoChip (pa_cons pe_str pa_nil)) (pa_cons (pe_makeX T.x_NoPlace rfl T.mg_NoPlace T.kp_NoPlace (pa_cons pe_str pa_nil)) (pa_cons (pe_makeX T.x_PowerGone rfl T.mg_PowerGone T.kp_PowerGone (pa_cons pe_str pa_nil)) (pa_cons (pe_makeI takes_never T.xi_BlockFailed ((ok_BlockFailed_init T S).mono (by decide)) hr rfl T.mg_BlockFailed T.kp_BlockFailed S.b_BlockFailed_init .nil (pa_cons pe_int pa_nil)) (pa_cons (pe_makeI takes_never T.xi_NotClear ((ok_NotClear_init T S).mono (by decide)) hr rfl T.mg_NotClear T.kp_NotClear S.b_NotClear_init .nil (pa_cons pe_int pa_nil)) (pa_cons (pe_makeX T.x_NoTerms rfl T.mg_NoTerms T.kp_NoTerms (pa_cons pe_str pa_nil)) (pa_cons (pe_makeX T.x_NoSheet rfl T.mg_NoSheet T.kp_NoSheet (pa_cons pe_str pa_nil)) pa_nil))))))))) (pss_cons (ps_set (i := 0) sc_law_all.nd rfl (Or.inl rfl) (pe_op op_catN (pv 0) (pe_lstN (pa_cons (pe_makeX T.x_NoValue rfl T.mg_NoValue T.kp_NoValue (pa_cons pe_str pa_nil)) (pa_cons (pe_makeX T.x_Full rfl T.mg_Full T.kp_Full (pa_cons pe_str pa_nil)) (pa_cons (pe_makeX T.x_NoRoom rfl T.mg_NoRoom T.kp_NoRoom (pa_cons pe_str pa_nil)) (pa_cons (pe_makeX T.x_WornOut rfl T.mg_WornOut T.kp_WornOut (pa_cons pe_str pa_nil)) (pa_cons (pe_makeX T.x_NoRule rfl T.mg_NoRule T.kp_NoRule (pa_cons pe_str pa_nil)) (pa_cons (pe_makeX T.x_NoRace rfl T.mg_NoRace T.kp_NoRace (pa_cons pe_str pa_nil)) (pa_cons (pe_makeX T.x_NoPart rfl T.mg_NoPart T.kp_NoPart (pa_cons pe_str pa_nil)) pa_nil)))))))))) (pss_one (ps_ret (pe_op op_catN (pv 0) (pe_lstN (pa_cons (pe_makeX T.x_NoRow rfl T.mg_NoRow T.kp_NoRow (pa_cons pe_str pa_nil)) (pa_cons (pe_makeX T.x_WornError rfl T.mg_WornError T.kp_WornError (pa_cons pe_str pa_nil)) pa_nil)))))))), ?_⟩
    refine gv_lst (F := ExF) (ds := [(t.C_NoChip, none), (t.C_NoPlace, none), (t.C_PowerGone, none), (t.C_BlockFailed, some ("block", 3)), (t.C_NotClear, some ("page", 4)), (t.C_NoTerms, none), (t.C_NoSheet, none)]) (.cons ex_stay gv_makeX (.cons ex_stay gv_makeX (.cons ex_stay gv_makeX (.cons ex_stay (gv_makeI T.xi_BlockFailed T.xa_BlockFailed T.na_BlockFailed_block (by decide)) (.cons ex_stay (gv_makeI T.xi_NotClear T.xa_NotClear T.na_NotClear_page (by decide)) (.cons ex_stay gv_makeX (.cons ex_stay gv_makeX .nil))))))) ex_stay (show 7 ≤ sizeLine by decide) H _ (Same.refl H) fun v1 H1 s1 ⟨p1, x1, e1, h1, r1⟩ => ?_
    subst e1
    refine gv_cat (F := ExF) (ds := [(t.C_NoValue, none), (t.C_Full, none), (t.C_NoRoom, none), (t.C_WornOut, none), (t.C_NoRule, none), (t.C_NoRace, none), (t.C_NoPart, none)]) ex_stay (.cons ex_stay gv_makeX (.cons ex_stay gv_makeX (.cons ex_stay gv_makeX (.cons ex_stay gv_makeX (.cons ex_stay gv_makeX (.cons ex_stay gv_makeX (.cons ex_stay gv_makeX .nil))))))) rfl h1 r1 (show 7 + 7 ≤ sizeLine by decide) (show 7 ≤ sizeLine by decide) fun p2 H2 x2 s2 h2 r2 => ?_
    refine gv_cat (F := ExF) (ds := [(t.C_NoRow, none), (t.C_WornError, none)]) ex_stay (.cons ex_stay gv_makeX (.cons ex_stay gv_makeX .nil)) rfl h2 r2 (show 14 + 2 ≤ sizeLine by decide) (show 2 ≤ sizeLine by decide) fun p3 H3 x3 s3 h3 r3 => ?_
    exact q p3 H3 x3 (s1.trans (s2.trans s3)) h3 r3
def spCls : Sp := fun vs H Q E => vs = [] ∧ ∀ H', Same H H' → Q (.bl true) H'
theorem ok_law_classes (T : Txt K mg t) (S : Fns K t) : FnOk P w K mg base (CX0) 4 t.f_law_classes S.fd_law_classes [] spCls := by
  refine S.F_law_classes.ok0 sc_law_classes (fun vs H Q E h => ?_) (fun cdv A outer s H vs Q E hr h => ?_)
  · rw [h.1]
    rfl
  · obtain ⟨rfl, q⟩ := h
    refine ⟨_, (pss_cons (ps_set (i := 0) sc_law_classes.nd rfl (Or.inl rfl) (pe_call0 ((ok_law_all T S).mono (by decide)) hr rfl T.mg_law_all T.kp_law_all S.b_law_all .nil pass0)) (pss_cons (ps_for PassesOwn.never rfl (pi_range1 rfl T.b_range (pa_cons (pe_callB call_len_seq (by rfl) T.b_len PySem.boot_len (pa_cons (pv 0) pa_nil)) pa_nil)) (pg_name (i := 1) sc_law_classes.nd rfl (Or.inr rfl)) (pss_cons (ps_if (PW.pt (pw_or (pt_not (pt_val (pe_callB call_isinstC (by rfl) T.b_isinstance (by kernel_rfl) (pa_cons (pe_ix ix_list (pv 0) (pv 1) (fun _ _ => rfl)) (pa_cons (pe_glob rfl T.mg_WornError rfl (v := .ref t.C_WornError)) pa_nil))))) (pw_or1 (pt_not (pt_val (pe_callB call_isinstC (by rfl) T.b_isinstance (by kernel_rfl) (pa_cons (pe_ix ix_list (pv 0) (pv 1) (fun _ _ => rfl)) (pa_cons (pe_bltn rfl T.b_ValueError (by kernel_rfl) rfl (v := .ty "ValueError")) pa_nil)))))))) (pss_one (ps_ret pe_bl)) pss_nil) (pss_one (ps_if (pt_cmpR (op_neS hr.units) (pe_call ((ok_law_of T S).mono (by decide)) hr rfl T.mg_law_of T.kp_law_of S.b_law_of .nil pass0 (pa_cons (pe_ix ix_list (pv 0) (pv 1) (fun _ _ => rfl)) pa_nil)) (pe_comp ["_law_k", "_law_j"] [1] rfl (pi_range1 rfl T.b_range (pa_cons pe_int pa_nil)) (fun _ _ _ _ _ => (pg_name (i := 1) (show List.Nodup (["_law_k", "_law_j"] : List Str) from by decide) rfl (Or.inl rfl))) (fun _ _ _ _ _ => pif_nil) (fun _ _ _ _ _ => (pe_cmpR op_eq (pv 1) (pv 0) (nomark _))) (by kernel_rfl) (own_name (by decide))) (nomark _)) (pss_one (ps_ret pe_bl)) pss_nil)))) (pss_one (ps_ret (pe_and (pe_cmpR op_eq (pe_fldX (pe_ix ix_list (pv 0) pe_int (fun _ _ => rfl)) rfl) pe_int (nomark _)) (pe_one (pe_cmpR op_eq (pe_fldX (pe_ix ix_list (pv 0) pe_int (fun _ _ => rfl)) rfl) pe_int (nomark _)))))))), ?_⟩
    refine ⟨rfl, fun p H1 ys s1 h1 r1 => ?_⟩
    have ly : ys.length = 16 := r1.len
    refine ⟨_, rfl, p, _, rfl, .inl (SqL.of h1), _, rfl, by rw [ly]; decide, by rw [ly]; decide, ?_⟩
    refine for_range (fun j σ' H' => Same H1 H' ∧ ∃ y, σ' = [some (.ref p), y]) ⟨Same.refl H1, _, rfl⟩ (fun j σ' H' hj hp => ?_) (fun σ' H' hp => ?_)
    · obtain ⟨s2, y, rfl⟩ := hp
      have hj' : j < ys.length := by omega
      have e0 : ys[j]? = some (ys[j]) := List.getElem?_eq_getElem hj'
      obtain ⟨d, d1, d2⟩ := Paired.at r1 e0
      have xa : ExA K t H' ys[j] j := (exA_at T d1 d2).same s2
      have h2 := s2 _ _ h1
      have ej : atI ys (0 + (j : Int)) = some (ys[j]) := by rw [Int.zero_add]; exact atI_nat e0
      obtain ⟨C, kn, kt⟩ := xa.knd
      obtain ⟨_, _, _, _, _, _, _, _, _, _, _, _, _, _, _, w1, w2, w3⟩ := kt
      refine ⟨_, rfl, _, rfl, p, ys, _, _, rfl, rfl, SqL.of h2, ej, _, _, _, _, _, rfl, rfl, kn, w1, _, rfl, iteF ?_⟩
      refine ⟨_, rfl, _, rfl, p, ys, _, _, rfl, rfl, SqL.of h2, ej, _, _, _, _, _, rfl, rfl, kn, w2, _, rfl, iteF ?_⟩
      refine ⟨_, rfl, _, rfl, p, ys, _, _, rfl, rfl, SqL.of h2, ej, _, j, rfl, xa, fun p3 H3 n3 s3 e3 => ?_⟩
      refine ⟨15, rfl, by decide, by decide, fun D H4 n4 s4 e4 => ?_⟩
      refine lc_rangeR (lo := 0) (n := 15) (D := D) (k := 1) (fun i H5 => Same H3 H5 ∧ H5 D = some (.lst ((List.range i).map fun j' => V.bl (decide (j' = j))))) ⟨s4, e4⟩ (fun i H5 hi hp => ?_) (fun H5 hp => ?_)
      · refine ⟨_, rfl, _, rfl, rfl, _, hp.2, by rw [List.length_map, List.length_range, sizeLine_eq]; omega, fun b o e => by rw [upd_ne (ne_of_none e n4)]; exact hp.1 _ _ e, ?_⟩
        rw [List.range_succ, List.map_append]
        have z : decide (V.int (0 + (i : Int)) = V.int (0 + (j : Int))) = decide (i = j) := by
          rw [dec_ii]
          by_cases z : i = j
          · rw [decide_eq_true z, decide_eq_true (by omega)]
          · rw [decide_eq_false z, decide_eq_false (by omega)]
        rw [z]
        exact upd_same
      · refine ⟨?_, _, rfl, iteF ⟨s2.trans (s3.trans hp.1), _, rfl⟩⟩
        refine .lst (SqL.of (hp.1 _ _ e3)) (SqL.of hp.2) rfl fun i x y ex ey => ?_
        have exy : x = y := Option.some.inj (ex.symm.trans ey)
        subst exy
        refine .flat ?_
        have := List.mem_of_getElem? ey
        obtain ⟨i', _, z⟩ := List.mem_map.mp this
        rw [← z]
        rfl
    · obtain ⟨s2, y, rfl⟩ := hp
      have h2 := s2 _ _ h1
      have at3 : ∃ v, ys[3]? = some v ∧ ExF H' v (t.C_BlockFailed, some ("block", 3)) := by
        have e0 : ys[3]? = some (ys[3]) := List.getElem?_eq_getElem (by omega)
        obtain ⟨d, d1, d2⟩ := Paired.at r1 e0
        cases d1
        exact ⟨_, e0, ex_stay _ _ _ _ s2 d2⟩
      have at4 : ∃ v, ys[4]? = some v ∧ ExF H' v (t.C_NotClear, some ("page", 4)) := by
        have e0 : ys[4]? = some (ys[4]) := List.getElem?_eq_getElem (by omega)
        obtain ⟨d, d1, d2⟩ := Paired.at r1 e0
        cases d1
        exact ⟨_, e0, ex_stay _ _ _ _ s2 d2⟩
      obtain ⟨v3, g3, ea3, od3, rfl, x3, dx3, rfl, y3⟩ := at3
      obtain ⟨v4, g4, ea4, od4, rfl, x4, dx4, rfl, y4⟩ := at4
      refine ⟨_, rfl, p, ys, _, _, rfl, rfl, SqL.of h2, atI_nat (j := 3) g3, ea3, _, dx3, _, _, rfl, x3, y3, T.xr_BlockFailed, T.na_BlockFailed_block, rfl, rfl, _, rfl, ?_⟩
      rw [decide_eq_true rfl]
      refine iteT ?_
      refine ⟨_, rfl, p, ys, _, _, rfl, rfl, SqL.of h2, atI_nat (j := 4) g4, ea4, _, dx4, _, _, rfl, x4, y4, T.xr_NotClear, T.na_NotClear_page, rfl, rfl, ?_⟩
      rw [decide_eq_true rfl]
      exact q H' (s1.trans s2)
def _root_.L2.CM.ask (m : CM) (w : Int) (x : V) : CM × Out := if w = 0 then m.put x (.int 5) else if w = 1 then m.wipe x else if w = 2 then (m, (m.rd x).2) else (m, if inB x 0 (m.bl - 1) = true then .done else .noPlace)
def oA : Out → Int × V
  | .done => (-1, .non)
  | .noPlace => (1, .non)
  | .dark => (2, .non)
  | .failed b => (3, .int b)
  | .written p => (4, .int p)
def Cau (t : Adr) (H : Hp) (v : V) : Out → Prop
  | .done => v = .non
  | .noPlace => ExF H v (t.C_NoPlace, none)
  | .dark => ExF H v (t.C_PowerGone, none)
  | .failed b => ExF H v (t.C_BlockFailed, some ("block", b))
  | .written p => ExF H v (t.C_NotClear, some ("page", p))
theorem cau_kind (T : Txt K mg t) {H : Hp} {v : V} {o : Out} (h : Cau t H v o) : (o = .done ∧ v = .non) ∨ ∃ (k : Nat) (d : Addr × Option (Str × Int)), k < 15 ∧ ExF H v d ∧ KT K t d.1 k ∧
    (k = 3 → ∃ b : Int, d = (t.C_BlockFailed, some (("block" : Str), b)) ∧ oA o = (3, .int b)) ∧ (k = 4 → ∃ b : Int, d = (t.C_NotClear, some (("page" : Str), b)) ∧ oA o = (4, .int b)) ∧ (k ≠ 3 → k ≠ 4 → oA o = ((k : Int), .non)) := by
  cases o with
  | done => exact .inl ⟨rfl, h⟩
  | noPlace => exact .inr ⟨1, _, by decide, h, kt_NoPlace T, fun z => absurd z (by decide), fun z => absurd z (by decide), fun _ _ => rfl⟩
  | dark => exact .inr ⟨2, _, by decide, h, kt_PowerGone T, fun z => absurd z (by decide), fun z => absurd z (by decide), fun _ _ => rfl⟩
  | failed b => exact .inr ⟨3, _, by decide, h, kt_BlockFailed T, fun _ => ⟨b, rfl, rfl⟩, fun z => absurd z (by decide), fun z => absurd rfl z⟩
  | written p => exact .inr ⟨4, _, by decide, h, kt_NotClear T, fun z => absurd z (by decide), fun _ => ⟨p, rfl, rfl⟩, fun _ z => absurd rfl z⟩
theorem kdL_at {k i : Nat} {x : V} (h : (kdL k)[i]? = some x) : i < 15 ∧ x = .bl (decide (i = k)) := by
  have hi : i < (kdL k).length := (List.getElem?_eq_some_iff.mp h).1
  rw [kdL, List.length_map, List.length_range] at hi
  rw [kdL, List.getElem?_map, List.getElem?_range hi] at h
  exact ⟨hi, (Option.some.inj h).symm⟩
theorem kdL_flat {k : Nat} : (kdL k).all flatV = true := by
  refine List.all_eq_true.mpr fun x hx => ?_
  obtain ⟨i, _, z⟩ := List.mem_map.mp hx
  rw [← z]
  rfl
def spAsk (t : Adr) : Sp := fun vs H Q E => ∃ c a m w x, vs = [.ref c, .int w, x] ∧ ChipAt t.C_Chip H c a m ∧ m.Ok ∧ m.rc.length < 1000000 ∧ Knd H x ∧
  ∀ p H', ChipAt t.C_Chip H' c a (m.ask w x).1 → Keep (foot c a) H H' → H' p = some (.tup [.int (oA (m.ask w x).2).1, (oA (m.ask w x).2).2]) → Q (.ref p) H'
theorem ok_law_asked (T : Txt K mg t) (S : Fns K t) : FnOk P w K mg base (CX0) 5 t.f_law_asked S.fd_law_asked ["_law_chip", "_law_word", "_law_at"] (spAsk t) := by
  refine S.F_law_asked.ok0 sc_law_asked (fun vs H Q E h => ?_) (fun cdv A outer s H vs Q E hr h => ?_)
  · obtain ⟨c, a, m, w, x, rfl, _⟩ := h
    rfl
  · obtain ⟨c, a, m, w, x, rfl, hc, ok, hr1, kx, q⟩ := h
    refine ⟨_, (pss_cons (ps_set (i := 3) sc_law_asked.nd rfl (Or.inl rfl) pe_non) (pss_mid (ps_try (fun pins XE ES tk1 po1 => (pss_one (ps_if (pt_cmpR op_eq (pv 1) pe_int (nomark _)) (pss_one (ps_expr (pe_methS tk1 (pv 0) T.cl_Chip T.m_Chip_put ((ok_Chip_put T S).mono (by decide)) hr S.b_Chip_put .nil (pa_cons (pv 2) (pa_cons pe_int pa_nil))))) (pss_one (ps_if (pt_cmpR op_eq (pv 1) pe_int (nomark _)) (pss_one (ps_expr (pe_methS tk1 (pv 0) T.cl_Chip T.m_Chip_wipe ((ok_Chip_wipe T S).mono (by decide)) hr S.b_Chip_wipe .nil (pa_cons (pv 2) pa_nil)))) (pss_one (ps_if (pt_cmpR op_eq (pv 1) pe_int (nomark _)) (pss_one (ps_expr (pe_methS tk1 (pv 0) T.cl_Chip T.m_Chip_read ((ok_Chip_read T S).mono (by decide)) hr S.b_Chip_read .nil (pa_cons (pv 2) pa_nil)))) (pss_one (ps_if (pt_cmpR op_eq (pv 1) pe_int (nomark _)) (pss_one (ps_expr (pe_methS tk1 (pv 0) T.cl_Chip T.m_Chip_cleared ((ok_Chip_cleared T S).mono (by decide)) hr S.b_Chip_cleared .nil (pa_cons (pv 2) pa_nil)))) (pss_one (ps_expr (pe_methS tk1 (pv 0) T.cl_Chip T.m_Chip_failed ((ok_Chip_failed T S).mono (by decide)) hr S.b_Chip_failed .nil (pa_cons (pv 2) pa_nil))))))))))))) (ph_as (i := 4) sc_law_asked.nd rfl rfl rfl (fun ea => (pe_glob rfl T.mg_WornError rfl (v := .ref t.C_WornError))) rfl (fun ea => (pss_one (ps_set (i := 3) sc_law_asked.nd rfl (Or.inl rfl) (pv 4)))) (ph_nil takes_never))) (pss_cons (ps_if (pt_cmpR op_isN (pv 3) pe_non (nomark _)) (pss_one (ps_ret (pe_tupN (pa_cons (pe_un un_neg pe_int) (pa_cons pe_non pa_nil))))) pss_nil) (pss_cons (ps_set (i := 5) sc_law_asked.nd rfl (Or.inl rfl) (pe_call ((ok_law_of T S).mono (by decide)) hr rfl T.mg_law_of T.kp_law_of S.b_law_of .nil pass0 (pa_cons (pv 3) pa_nil))) (pss_cons (ps_if (pt_cmpR op_ne (pe_callB call_len_seq (by rfl) T.b_len PySem.boot_len (pa_cons (pe_comp ["_law_kind"] [] rfl (pi_list (pv 5)) (fun _ _ _ _ _ => (pg_name (i := 0) (show List.Nodup (["_law_kind"] : List Str) from by decide) rfl (Or.inl rfl))) (fun _ _ _ _ _ => (pif_one (pt_val (pv 0)))) (fun _ _ _ _ _ => (pv 0)) (by kernel_rfl) (own_name (by decide))) pa_nil)) pe_int (nomark _)) (pss_one (ps_ret (pe_tupN (pa_cons (pe_un un_neg pe_int) (pa_cons pe_non pa_nil))))) pss_nil) (pss_cons (ps_if (pt_val (pe_callB call_isinstC (by rfl) T.b_isinstance (by kernel_rfl) (pa_cons (pv 3) (pa_cons (pe_glob rfl T.mg_BlockFailed rfl (v := .ref t.C_BlockFailed)) pa_nil)))) (pss_one (ps_ret (pe_tupN (pa_cons pe_int (pa_cons (pe_fldX (pv 3) rfl) pa_nil))))) pss_nil) (pss_cons (ps_if (pt_val (pe_callB call_isinstC (by rfl) T.b_isinstance (by kernel_rfl) (pa_cons (pv 3) (pa_cons (pe_glob rfl T.mg_NotClear rfl (v := .ref t.C_NotClear)) pa_nil)))) (pss_one (ps_ret (pe_tupN (pa_cons pe_int (pa_cons (pe_fldX (pv 3) rfl) pa_nil))))) pss_nil) (pss_one (ps_ret (pe_tupN (pa_cons (pe_bm PySem.F.plainAttrs_list PySem.F.slot_list_index PySem.F.type_list_index mt_index (pv 5) (pa_cons pe_bl pa_nil)) (pa_cons pe_non pa_nil)))))))))))), ?_⟩
    refine ⟨fun σ' H' => ∃ v, σ' = [some (.ref c), some (.int w), some x, some v, none, none] ∧ ChipAt t.C_Chip H' c a (m.ask w x).1 ∧ Keep (foot c a) H H' ∧ Cau t H' v (m.ask w x).2, ?_, ?_⟩
    · refine ⟨_, rfl, rfl, _, rfl, ?_⟩
      rw [dec_ii]
      by_cases w0 : w = 0
      · rw [decide_eq_true w0]
        refine iteT ?_
        have ra : m.ask w x = m.put x (.int 5) := if_pos w0
        rw [ra]
        refine ⟨_, rfl, c, a.dx, _, rfl, hc.ins, rfl, _, rfl, c, a, m, x, .int 5, rfl, hc, ok, hr1, kx, fun H1 h1 k1 => ?_⟩
        generalize m.put x (.int 5) = r at h1 ⊢
        obtain ⟨m', o⟩ := r
        cases o with
        | done => exact ⟨_, rfl, h1, k1, rfl⟩
        | noPlace => exact fun ea hea => ⟨_, T.xm_NoPlace_WornError, iteT ⟨_, rfl, _, rfl, h1.same (Same.upd hea), k1.trans (Keep.same (Same.upd hea)), ea, none, rfl, .inl upd_same, rfl⟩⟩
        | dark => exact fun ea hea => ⟨_, T.xm_PowerGone_WornError, iteT ⟨_, rfl, _, rfl, h1.same (Same.upd hea), k1.trans (Keep.same (Same.upd hea)), ea, none, rfl, .inl upd_same, rfl⟩⟩
        | failed b => exact fun dx hdx ea hea => ⟨_, T.xm_BlockFailed_WornError, iteT ⟨_, rfl, _, rfl, h1.same (Same.upd hea), k1.trans (Keep.same (Same.upd hea)), ea, some dx, rfl, .inl upd_same, dx, rfl, Same.upd hea _ _ hdx⟩⟩
        | written p' => exact fun dx hdx ea hea => ⟨_, T.xm_NotClear_WornError, iteT ⟨_, rfl, _, rfl, h1.same (Same.upd hea), k1.trans (Keep.same (Same.upd hea)), ea, some dx, rfl, .inl upd_same, dx, rfl, Same.upd hea _ _ hdx⟩⟩
      · rw [decide_eq_false w0]
        refine iteF ?_
        refine ⟨_, rfl, rfl, _, rfl, ?_⟩
        rw [dec_ii]
        by_cases w1 : w = 1
        · rw [decide_eq_true w1]
          refine iteT ?_
          have ra : m.ask w x = m.wipe x := (if_neg w0).trans (if_pos w1)
          rw [ra]
          refine ⟨_, rfl, c, a.dx, _, rfl, hc.ins, rfl, _, rfl, c, a, m, x, rfl, hc, ok, hr1, kx, fun H1 h1 k1 => ?_⟩
          generalize m.wipe x = r at h1 ⊢
          obtain ⟨m', o⟩ := r
          cases o with
          | done => exact ⟨_, rfl, h1, k1, rfl⟩
          | noPlace => exact fun ea hea => ⟨_, T.xm_NoPlace_WornError, iteT ⟨_, rfl, _, rfl, h1.same (Same.upd hea), k1.trans (Keep.same (Same.upd hea)), ea, none, rfl, .inl upd_same, rfl⟩⟩
          | dark => exact fun ea hea => ⟨_, T.xm_PowerGone_WornError, iteT ⟨_, rfl, _, rfl, h1.same (Same.upd hea), k1.trans (Keep.same (Same.upd hea)), ea, none, rfl, .inl upd_same, rfl⟩⟩
          | failed b => exact fun dx hdx ea hea => ⟨_, T.xm_BlockFailed_WornError, iteT ⟨_, rfl, _, rfl, h1.same (Same.upd hea), k1.trans (Keep.same (Same.upd hea)), ea, some dx, rfl, .inl upd_same, dx, rfl, Same.upd hea _ _ hdx⟩⟩
          | written p' => exact fun dx hdx ea hea => ⟨_, T.xm_NotClear_WornError, iteT ⟨_, rfl, _, rfl, h1.same (Same.upd hea), k1.trans (Keep.same (Same.upd hea)), ea, some dx, rfl, .inl upd_same, dx, rfl, Same.upd hea _ _ hdx⟩⟩
        · rw [decide_eq_false w1]
          refine iteF ?_
          refine ⟨_, rfl, rfl, _, rfl, ?_⟩
          rw [dec_ii]
          by_cases w2 : w = 2
          · rw [decide_eq_true w2]
            refine iteT ?_
            have ra : m.ask w x = (m, (m.rd x).2) := (if_neg w0).trans ((if_neg w1).trans (if_pos w2))
            rw [ra]
            refine ⟨_, rfl, c, a.dx, _, rfl, hc.ins, rfl, _, rfl, c, a, m, x, rfl, hc, ok, kx, ?_⟩
            have k1 : Keep (foot c a) H H := Keep.refl
            generalize m.rd x = r
            obtain ⟨v, o⟩ := r
            cases o with
            | done => exact ⟨_, rfl, hc, k1, rfl⟩
            | noPlace => exact fun ea hea => ⟨_, T.xm_NoPlace_WornError, iteT ⟨_, rfl, _, rfl, hc.same (Same.upd hea), k1.trans (Keep.same (Same.upd hea)), ea, none, rfl, .inl upd_same, rfl⟩⟩
            | dark => exact fun ea hea => ⟨_, T.xm_PowerGone_WornError, iteT ⟨_, rfl, _, rfl, hc.same (Same.upd hea), k1.trans (Keep.same (Same.upd hea)), ea, none, rfl, .inl upd_same, rfl⟩⟩
            | failed b => exact fun dx hdx ea hea => ⟨_, T.xm_BlockFailed_WornError, iteT ⟨_, rfl, _, rfl, hc.same (Same.upd hea), k1.trans (Keep.same (Same.upd hea)), ea, some dx, rfl, .inl upd_same, dx, rfl, Same.upd hea _ _ hdx⟩⟩
            | written p' => exact fun dx hdx ea hea => ⟨_, T.xm_NotClear_WornError, iteT ⟨_, rfl, _, rfl, hc.same (Same.upd hea), k1.trans (Keep.same (Same.upd hea)), ea, some dx, rfl, .inl upd_same, dx, rfl, Same.upd hea _ _ hdx⟩⟩
          · rw [decide_eq_false w2]
            refine iteF ?_
            have ra : m.ask w x = (m, if inB x 0 (m.bl - 1) = true then .done else .noPlace) := (if_neg w0).trans ((if_neg w1).trans (if_neg w2))
            refine ⟨_, rfl, rfl, _, rfl, ?_⟩
            rw [dec_ii]
            by_cases w3 : w = 3
            · rw [decide_eq_true w3]
              refine iteT ?_
              refine ⟨_, rfl, c, a.dx, _, rfl, hc.ins, rfl, _, rfl, c, a, m, x, rfl, hc, ok, kx, ?_⟩
              by_cases hb : inB x 0 (m.bl - 1) = true
              · rw [ra, if_pos hb]
                obtain ⟨b, rfl, b0, b1⟩ := inB_int hb
                show if 0 ≤ b ∧ b ≤ m.bl - 1 then _ else _
                rw [if_pos ⟨b0, b1⟩]
                exact ⟨_, rfl, hc, Keep.refl, rfl⟩
              · rw [ra, if_neg hb]
                cases x with
                | int b =>
                  show if 0 ≤ b ∧ b ≤ m.bl - 1 then _ else _
                  rw [if_neg (inB_no hb)]
                  exact fun ea hea => ⟨_, T.xm_NoPlace_WornError, iteT ⟨_, rfl, _, rfl, hc.same (Same.upd hea), Keep.same (Same.upd hea), ea, none, rfl, .inl upd_same, rfl⟩⟩
                | _ => exact fun ea hea => ⟨_, T.xm_NoPlace_WornError, iteT ⟨_, rfl, _, rfl, hc.same (Same.upd hea), Keep.same (Same.upd hea), ea, none, rfl, .inl upd_same, rfl⟩⟩
            · rw [decide_eq_false w3]
              refine iteF ?_
              refine ⟨_, rfl, c, a.dx, _, rfl, hc.ins, rfl, _, rfl, c, a, m, x, rfl, hc, ok, kx, ?_⟩
              by_cases hb : inB x 0 (m.bl - 1) = true
              · rw [ra, if_pos hb]
                obtain ⟨b, rfl, b0, b1⟩ := inB_int hb
                show if 0 ≤ b ∧ b ≤ m.bl - 1 then _ else _
                rw [if_pos ⟨b0, b1⟩]
                exact ⟨_, rfl, hc, Keep.refl, rfl⟩
              · rw [ra, if_neg hb]
                cases x with
                | int b =>
                  show if 0 ≤ b ∧ b ≤ m.bl - 1 then _ else _
                  rw [if_neg (inB_no hb)]
                  exact fun ea hea => ⟨_, T.xm_NoPlace_WornError, iteT ⟨_, rfl, _, rfl, hc.same (Same.upd hea), Keep.same (Same.upd hea), ea, none, rfl, .inl upd_same, rfl⟩⟩
                | _ => exact fun ea hea => ⟨_, T.xm_NoPlace_WornError, iteT ⟨_, rfl, _, rfl, hc.same (Same.upd hea), Keep.same (Same.upd hea), ea, none, rfl, .inl upd_same, rfl⟩⟩
    · rintro σ' H1 ⟨v, rfl, h1, k1, cau⟩
      rcases cau_kind T cau with ⟨eo, rfl⟩ | ⟨k, d, hk, xf, kt, f3, f4, f5⟩
      · refine ⟨_, rfl, rfl, _, rfl, ?_⟩
        rw [decide_eq_true rfl]
        refine iteT ?_
        rw [eo] at q
        exact ⟨1, rfl, show 2 ≤ sizeLine by decide, fun p H2 n2 s2 e2 => q p H2 (h1.same s2) (k1.trans (Keep.same s2)) e2⟩
      · have vn : v ≠ .non := by
          obtain ⟨ea, od, rfl, _⟩ := xf
          intro z
          cases z
        refine ⟨_, rfl, rfl, _, rfl, ?_⟩
        rw [decide_eq_false vn]
        refine iteF ?_
        refine ⟨_, rfl, v, k, rfl, ⟨d, xf, kt⟩, fun p H2 n2 s2 e2 => ?_⟩
        have h2 := h1.same s2
        have k2 := k1.trans (Keep.same s2 (F := foot c a))
        have xf2 := ex_stay _ _ _ _ s2 xf
        refine ⟨_, rfl, p, rfl, ⟨_, SqL.of e2⟩, fun D H3 n3 s3 e3 => ?_⟩
        refine lc_listX (K := K) (a := p) (xs := kdL k) (D := D) (fun i H4 => Same H2 H4 ∧ ∃ vs, H4 D = some (.lst vs) ∧ vs.length = if k < i then 1 else 0) ⟨s3, [], e3, (if_neg (Nat.not_lt_zero _)).symm⟩ (fun i H4 hp => SqL.of (hp.1 _ _ e2)) (fun i y H4 hy hp => ?_) (fun H4 hp => ?_)
        · obtain ⟨s4, vs, e4, l4⟩ := hp
          obtain ⟨hi, rfl⟩ := kdL_at hy
          refine ⟨_, rfl, _, rfl, ?_⟩
          by_cases z : i = k
          · rw [decide_eq_true z]
            refine iteT ⟨_, rfl, vs, e4, by rw [l4, sizeLine_eq]; split <;> omega, fun b o e => by rw [upd_ne (ne_of_none e n3)]; exact s4 _ _ e, _, upd_same, ?_⟩
            rw [List.length_append, l4, if_neg (by omega), if_pos (by omega)]
            rfl
          · rw [decide_eq_false z]
            refine iteF ⟨s4, vs, e4, ?_⟩
            rw [l4]
            by_cases z2 : k < i
            · rw [if_pos z2, if_pos (by omega)]
            · rw [if_neg z2, if_neg (by omega)]
        · obtain ⟨s4, vs, e4, l4⟩ := hp
          have lk : (kdL k).length = 15 := by rw [kdL, List.length_map, List.length_range]
          rw [lk, if_pos hk] at l4
          refine ⟨D, vs, rfl, .inl (SqL.of e4), rfl, _, rfl, ?_⟩
          rw [l4, dec_ii, decide_eq_true (by rfl)]
          refine iteF ?_
          have h4 := h2.same s4
          have k4 := k2.trans (Keep.same s4 (F := foot c a))
          have xf4 := ex_stay _ _ _ _ s4 xf2
          obtain ⟨C, kn, kt'⟩ := ExA.knd ⟨d, xf4, kt⟩
          obtain ⟨_, _, _, b3, b4, _, _, _, _, _, _, _, _, _, _, _, _, _⟩ := kt'
          refine ⟨_, rfl, v, _, _, _, _, rfl, rfl, kn, b3, _, rfl, ?_⟩
          by_cases z3 : k = 3
          · obtain ⟨b, rfl, eo⟩ := f3 z3
            rw [decide_eq_true z3.symm]
            refine iteT ?_
            obtain ⟨ea, od, rfl, x3, dx, rfl, y3⟩ := xf4
            rw [eo] at q
            exact ⟨_, rfl, ea, _, dx, _, _, rfl, x3, y3, T.xr_BlockFailed, T.na_BlockFailed_block, rfl, show 2 ≤ sizeLine by decide, fun p5 H5 n5 s5 e5 => q p5 H5 (h4.same s5) (k4.trans (Keep.same s5)) e5⟩
          · rw [decide_eq_false (Ne.symm z3)]
            refine iteF ?_
            refine ⟨_, rfl, v, _, _, _, _, rfl, rfl, kn, b4, _, rfl, ?_⟩
            by_cases z4 : k = 4
            · obtain ⟨b, rfl, eo⟩ := f4 z4
              rw [decide_eq_true z4.symm]
              refine iteT ?_
              obtain ⟨ea, od, rfl, x3, dx, rfl, y3⟩ := xf4
              rw [eo] at q
              exact ⟨_, rfl, ea, _, dx, _, _, rfl, x3, y3, T.xr_NotClear, T.na_NotClear_page, rfl, show 2 ≤ sizeLine by decide, fun p5 H5 n5 s5 e5 => q p5 H5 (h4.same s5) (k4.trans (Keep.same s5)) e5⟩
            · rw [decide_eq_false (Ne.symm z4)]
              refine iteF ?_
              rw [f5 z3 z4] at q
              refine ⟨_, rfl, .inl ⟨rfl, _, SqL.of (s4 _ _ e2)⟩, p, kdL k, _, k, rfl, rfl, s4 _ _ e2, rfl, kdL_flat, ⟨.bl true, ?_, rfl⟩, fun i y hi hy => ?_, show 2 ≤ sizeLine by decide, fun p5 H5 n5 s5 e5 => q p5 H5 (h4.same s5) (k4.trans (Keep.same s5)) e5⟩
              · rw [kdL, List.getElem?_map, List.getElem?_range hk]
                show some (V.bl (decide (k = k))) = _
                rw [decide_eq_true rfl]
              · obtain ⟨_, rfl⟩ := kdL_at hy
                rw [decide_eq_false (show ¬ i = k by omega)]
                rfl
def dueA (w : Int) (x : V) (many sick full pages : Int) (dark : Bool) : Int × V := match x with
  | .int i => if 0 ≤ i ∧ i < many then (if 2 < w then (-1, .non) else if dark = true then (2, .non) else if w = 2 then (-1, .non) else
      if (if w = 0 then i / pages else i) = sick then (3, .int (if w = 0 then i / pages else i)) else if w = 0 ∧ i = full then (4, .int i) else (-1, .non)) else (1, .non)
  | _ => (1, .non)
def spDue : Sp := fun vs H Q E => ∃ w x many sick full pages dark, vs = [.int w, x, .int many, .int sick, .int full, .int pages, .bl dark] ∧ Knd H x ∧ (0 < pages ∧ pages ≤ 16) ∧
  ∀ p H', Same H H' → H' p = some (.tup [.int (dueA w x many sick full pages dark).1, (dueA w x many sick full pages dark).2]) → Q (.ref p) H'
theorem ok_law_due (T : Txt K mg t) (S : Fns K t) : FnOk P w K mg base (CX0) 1 t.f_law_due S.fd_law_due ["_law_word", "_law_at", "_law_many", "_law_sick", "_law_full", "_law_pages", "_law_dark"] spDue := by
  refine S.F_law_due.ok0 sc_law_due (fun vs H Q E h => ?_) (fun cdv A outer s H vs Q E hr h => ?_)
  · obtain ⟨_, _, _, _, _, _, _, rfl, _⟩ := h
    rfl
  · obtain ⟨w, x, many, sick, full, pages, dark, rfl, kn, pp, q⟩ := h
    refine ⟨_, (pss_cons (ps_if (PW.pt (pw_or (pt_not (pt_val (pe_callB call_isinstC (by rfl) T.b_isinstance (by kernel_rfl) (pa_cons (pv 1) (pa_cons (pe_bltn rfl T.b_int (by kernel_rfl) rfl (v := .ty "int")) pa_nil))))) (pw_or (pt_val (pe_callB call_isinstC (by rfl) T.b_isinstance (by kernel_rfl) (pa_cons (pv 1) (pa_cons (pe_bltn rfl T.b_bool (by kernel_rfl) rfl (v := .ty "bool")) pa_nil)))) (pw_or1 (pt_not (pt_chain op_le op_lt pe_int (pv 1) (pv 2))))))) (pss_one (ps_ret (pe_tupN (pa_cons pe_int (pa_cons pe_non pa_nil))))) pss_nil) (pss_cons (ps_if (pt_cmpR op_gt (pv 0) pe_int (nomark _)) (pss_one (ps_ret (pe_tupN (pa_cons (pe_un un_neg pe_int) (pa_cons pe_non pa_nil))))) pss_nil) (pss_cons (ps_if (pt_val (pv 6)) (pss_one (ps_ret (pe_tupN (pa_cons pe_int (pa_cons pe_non pa_nil))))) pss_nil) (pss_cons (ps_if (pt_cmpR op_eq (pv 0) pe_int (nomark _)) (pss_one (ps_ret (pe_tupN (pa_cons (pe_un un_neg pe_int) (pa_cons pe_non pa_nil))))) pss_nil) (pss_cons (ps_set (i := 7) sc_law_due.nd rfl (Or.inl rfl) (pv 1)) (pss_mid (ps_if (pt_cmpR op_eq (pv 0) pe_int (nomark _)) (pss_one (ps_set (i := 7) sc_law_due.nd rfl (Or.inl rfl) (pe_op op_fdiv (pv 1) (pv 5)))) pss_nil) (pss_cons (ps_if (pt_cmpR op_eq (pv 7) (pv 3) (nomark _)) (pss_one (ps_ret (pe_tupN (pa_cons pe_int (pa_cons (pv 7) pa_nil))))) pss_nil) (pss_cons (ps_if (PW.pt (pw_and (pt_cmpR op_eq (pv 0) pe_int (nomark _)) (pw_and1 (pt_cmpR op_eq (pv 1) (pv 4) (nomark _))))) (pss_one (ps_ret (pe_tupN (pa_cons pe_int (pa_cons (pv 1) pa_nil))))) pss_nil) (pss_one (ps_ret (pe_tupN (pa_cons (pe_un un_neg pe_int) (pa_cons pe_non pa_nil))))))))))))), ?_⟩
    cases kn with
    | non =>
      refine ⟨_, rfl, _, _, _, _, _, rfl, rfl, .inl .non, kit_nI, _, rfl, iteT ?_⟩
      exact iteT ⟨show 2 ≤ sizeLine by decide, fun p H2 n2 s2 e2 => q p H2 s2 e2⟩
    | str y =>
      refine ⟨_, rfl, _, _, _, _, _, rfl, rfl, .inl (.str y), kit_sI, _, rfl, iteT ?_⟩
      exact iteT ⟨show 2 ≤ sizeLine by decide, fun p H2 n2 s2 e2 => q p H2 s2 e2⟩
    | lst e =>
      refine ⟨_, rfl, _, _, _, _, _, rfl, rfl, .inl (.lst e), kit_lI, _, rfl, iteT ?_⟩
      exact iteT ⟨show 2 ≤ sizeLine by decide, fun p H2 n2 s2 e2 => q p H2 s2 e2⟩
    | tup e =>
      refine ⟨_, rfl, _, _, _, _, _, rfl, rfl, .inl (.tup e), kit_tI, _, rfl, iteT ?_⟩
      exact iteT ⟨show 2 ≤ sizeLine by decide, fun p H2 n2 s2 e2 => q p H2 s2 e2⟩
    | bl b =>
      refine ⟨_, rfl, _, _, _, _, _, rfl, rfl, .inl (.bl b), kit_bI, _, rfl, iteF ?_⟩
      refine ⟨_, rfl, _, _, _, _, _, rfl, rfl, .inl (.bl b), kit_bB, _, rfl, iteT ?_⟩
      exact iteT ⟨show 2 ≤ sizeLine by decide, fun p H2 n2 s2 e2 => q p H2 s2 e2⟩
    | int i =>
      refine ⟨_, rfl, _, _, _, _, _, rfl, rfl, .inl (.int i), kit_iI, _, rfl, iteF ?_⟩
      refine ⟨_, rfl, _, _, _, _, _, rfl, rfl, .inl (.int i), kit_iB, _, rfl, iteF ?_⟩
      have q : ∀ p H', Same H H' → H' p = some (.tup [.int (if 0 ≤ i ∧ i < many then (if 2 < w then (-1, V.non) else if dark = true then (2, .non) else if w = 2 then (-1, .non) else
        if (if w = 0 then i / pages else i) = sick then (3, .int (if w = 0 then i / pages else i)) else if w = 0 ∧ i = full then (4, .int i) else (-1, .non)) else (1, .non)).1, (if 0 ≤ i ∧ i < many then (if 2 < w then ((-1 : Int), V.non) else if dark = true then (2, .non) else if w = 2 then (-1, .non) else
        if (if w = 0 then i / pages else i) = sick then (3, .int (if w = 0 then i / pages else i)) else if w = 0 ∧ i = full then (4, .int i) else (-1, .non)) else (1, .non)).2]) → Q (.ref p) H' := q
      by_cases hb : 0 ≤ i ∧ i < many
      · rw [if_pos hb] at q
        refine ⟨_, rfl, _, _, rfl, rfl, _, rfl, ?_⟩
        rw [decide_eq_true hb.1]
        refine iteT ⟨_, rfl, _, _, rfl, rfl, _, rfl, ?_⟩
        rw [decide_eq_true hb.2]
        refine iteF ?_
        refine ⟨_, rfl, _, _, rfl, rfl, _, rfl, ?_⟩
        by_cases h3 : 2 < w
        · rw [if_pos h3] at q
          rw [decide_eq_true h3]
          exact iteT ⟨1, rfl, show 2 ≤ sizeLine by decide, fun p H2 n2 s2 e2 => q p H2 s2 e2⟩
        · rw [if_neg h3] at q
          rw [decide_eq_false h3]
          refine iteF ⟨_, rfl, _, rfl, ?_⟩
          cases dark with
          | true =>
            rw [if_pos rfl] at q
            exact iteT ⟨show 2 ≤ sizeLine by decide, fun p H2 n2 s2 e2 => q p H2 s2 e2⟩
          | false =>
            rw [if_neg (by simp)] at q
            refine iteF ⟨_, rfl, rfl, _, rfl, ?_⟩
            rw [dec_ii]
            by_cases h2 : w = 2
            · rw [if_pos h2] at q
              rw [decide_eq_true h2]
              exact iteT ⟨1, rfl, show 2 ≤ sizeLine by decide, fun p H2 n2 s2 e2 => q p H2 s2 e2⟩
            · rw [if_neg h2] at q
              rw [decide_eq_false h2]
              refine iteF ⟨_, rfl, ?_⟩
              refine ⟨fun σ' H' => σ' = [some (.int w), some (.int i), some (.int many), some (.int sick), some (.int full), some (.int pages), some (.bl false), some (.int (if w = 0 then i / pages else i))] ∧ H' = H, ?_, ?_⟩
              · refine ⟨_, rfl, rfl, _, rfl, ?_⟩
                rw [dec_ii]
                by_cases h0 : w = 0
                · rw [decide_eq_true h0, if_pos h0]
                  exact iteT ⟨_, rfl, _, rfl, _, _, rfl, rfl, ⟨pp.1, by omega⟩, rfl, rfl⟩
                · rw [decide_eq_false h0, if_neg h0]
                  exact iteF ⟨rfl, rfl⟩
              · rintro σ' H1 ⟨rfl, rfl⟩
                generalize hbk : (if w = 0 then i / pages else i) = bk at q ⊢
                refine ⟨_, rfl, _, rfl, rfl, _, rfl, ?_⟩
                rw [dec_ii]
                by_cases hs : bk = sick
                · rw [if_pos hs] at q
                  rw [decide_eq_true hs]
                  exact iteT ⟨_, rfl, show 2 ≤ sizeLine by decide, fun p H2 n2 s2 e2 => q p H2 s2 e2⟩
                · rw [if_neg hs] at q
                  rw [decide_eq_false hs]
                  refine iteF ?_
                  refine ⟨_, rfl, rfl, _, rfl, ?_⟩
                  rw [dec_ii]
                  by_cases h0 : w = 0
                  · rw [decide_eq_true h0]
                    refine iteT ⟨_, rfl, _, rfl, rfl, _, rfl, ?_⟩
                    rw [dec_ii]
                    by_cases hf : i = full
                    · rw [if_pos ⟨h0, hf⟩] at q
                      rw [decide_eq_true hf]
                      exact iteT ⟨_, rfl, show 2 ≤ sizeLine by decide, fun p H2 n2 s2 e2 => q p H2 s2 e2⟩
                    · rw [if_neg (fun z => hf z.2)] at q
                      rw [decide_eq_false hf]
                      exact iteF ⟨1, rfl, show 2 ≤ sizeLine by decide, fun p H2 n2 s2 e2 => q p H2 s2 e2⟩
                  · rw [if_neg (fun z => h0 z.1)] at q
                    rw [decide_eq_false h0]
                    refine iteF ?_
                    exact iteF ⟨1, rfl, show 2 ≤ sizeLine by decide, fun p H2 n2 s2 e2 => q p H2 s2 e2⟩
      · rw [if_neg hb] at q
        refine ⟨_, rfl, _, _, rfl, rfl, _, rfl, ?_⟩
        by_cases h0 : 0 ≤ i
        · rw [decide_eq_true h0]
          refine iteT ⟨_, rfl, _, _, rfl, rfl, _, rfl, ?_⟩
          rw [decide_eq_false (fun z => hb ⟨h0, z⟩)]
          exact iteT ⟨show 2 ≤ sizeLine by decide, fun p H2 n2 s2 e2 => q p H2 s2 e2⟩
        · rw [decide_eq_false h0]
          refine iteF ⟨_, rfl, ?_⟩
          exact iteT ⟨show 2 ≤ sizeLine by decide, fun p H2 n2 s2 e2 => q p H2 s2 e2⟩
theorem gv_subF {H0 : Hp} {σ : St} {i : Nat} {n far : Int} (h : σ[i]? = some (some (.int far))) : Gv H0 σ (tOp (rI0 fun i j => .int (i - j)) (tC (.int n)) (tVar i)) (fun x H => IsV H x (.int (n - far))) := gv_op (g := fun i j => V.int (i - j)) gv_c (gv_v h)
theorem gv_addF {H0 : Hp} {σ : St} {i : Nat} {n far : Int} (h : σ[i]? = some (some (.int far))) : Gv H0 σ (tOp (rI0 fun i j => .int (i + j)) (tC (.int n)) (tVar i)) (fun x H => IsV H x (.int (n + far))) := gv_op (g := fun i j => V.int (i + j)) gv_c (gv_v h)
abbrev Row := V × V × V × List (V × V)
def rw0 (far : Int) : List Row := [(.int 1, .int 2, .int 3, []), (.int 17, .int 2, .int 3, []), (.int 2, .int 0, .int 3, []), (.int 2, .int 17, .int 3, []), (.int 2, .int 2, .int (-1), []), (.int 2, .int 2, .int 1000001, [])]
def rw1 (far : Int) : List Row := [(.int 2, .int 2, .int 3, [(.int 2, .int 1)]), (.int 2, .int 2, .int 3, [(.int (-1), .int 1)]), (.int 2, .int 2, .int 3, [(.int 0, .int (-1))]), (.int 2, .int 2, .int 3, [(.int 0, .int 1000001)])]
def rw2 (far : Int) : List Row := [(.int 3, .int 2, .int 3, [(.int 1, .int 4), (.int 1, .int 5)]), (.int (0 - far), .int 2, .int 3, []), (.int 2, .int (17 + far), .int 3, []), (.bl true, .int 2, .int 3, [])]
def rw3 (far : Int) : List Row := [(.int 2, .non, .int 3, []), (.int 2, .int 2, .str "3", []), (.int 4, .int 2, .int 3, [(.int 2, .int 4), (.int 0, .int 1), (.int 2, .int 4)]), (.int 2, .int 2, .int 3, [(.bl true, .int 4)])]
def rw4 (far : Int) : List Row := [(.int 2, .int 2, .int 3, [(.int 1, .int 4), (.int 0, .non)]), (.int 3, .int 1, .int 0, [(.int 0, .int 0), (.int 1, .int 0), (.int 3, .int 0)])]
def rw5 (far : Int) : List Row := [(.int 2, .bl true, .int 3, []), (.int 2, .int 2, .bl true, [])]
def rwA (far : Int) : List Row := rw0 far ++ rw1 far ++ rw2 far ++ rw3 far ++ rw4 far ++ rw5 far
def BadRow (r : Row) : Prop := (∀ H, Knd H r.1) ∧ (∀ H, Knd H r.2.1) ∧ (∀ H, Knd H r.2.2.1) ∧ r.2.2.2.length ≤ 1000 ∧ CM.made r.1 r.2.1 r.2.2.1 r.2.2.2 = none
theorem inB_gt {n : Int} {lo hi : Int} (h : ¬ (lo ≤ n ∧ n ≤ hi)) : ¬ inB (.int n) lo hi = true := fun z => by
  obtain ⟨p, e, a, b⟩ := inB_int z
  cases e
  exact h ⟨a, b⟩
theorem rwA_bad {far : Int} (hf : 0 ≤ far) : ∀ {k : Nat} {r : Row}, (rwA far)[k]? = some r → BadRow r
  | 0, r, e => by cases e; exact ⟨fun _ => .int _, fun _ => .int _, fun _ => .int _, by decide, rfl⟩
  | 1, r, e => by cases e; exact ⟨fun _ => .int _, fun _ => .int _, fun _ => .int _, by decide, rfl⟩
  | 2, r, e => by cases e; exact ⟨fun _ => .int _, fun _ => .int _, fun _ => .int _, by decide, rfl⟩
  | 3, r, e => by cases e; exact ⟨fun _ => .int _, fun _ => .int _, fun _ => .int _, by decide, rfl⟩
  | 4, r, e => by cases e; exact ⟨fun _ => .int _, fun _ => .int _, fun _ => .int _, by decide, rfl⟩
  | 5, r, e => by cases e; exact ⟨fun _ => .int _, fun _ => .int _, fun _ => .int _, by decide, rfl⟩
  | 6, r, e => by cases e; exact ⟨fun _ => .int _, fun _ => .int _, fun _ => .int _, by decide, rfl⟩
  | 7, r, e => by cases e; exact ⟨fun _ => .int _, fun _ => .int _, fun _ => .int _, by decide, rfl⟩
  | 8, r, e => by cases e; exact ⟨fun _ => .int _, fun _ => .int _, fun _ => .int _, by decide, rfl⟩
  | 9, r, e => by cases e; exact ⟨fun _ => .int _, fun _ => .int _, fun _ => .int _, by decide, rfl⟩
  | 10, r, e => by cases e; exact ⟨fun _ => .int _, fun _ => .int _, fun _ => .int _, by decide, rfl⟩
  | 11, r, e => by cases e; exact ⟨fun _ => .int _, fun _ => .int _, fun _ => .int _, Nat.zero_le _, if_neg fun z => inB_gt (by omega) z.1⟩
  | 12, r, e => by cases e; exact ⟨fun _ => .int _, fun _ => .int _, fun _ => .int _, Nat.zero_le _, if_neg fun z => inB_gt (by omega) z.2⟩
  | 13, r, e => by cases e; exact ⟨fun _ => .bl _, fun _ => .int _, fun _ => .int _, by decide, rfl⟩
  | 14, r, e => by cases e; exact ⟨fun _ => .int _, fun _ => .non, fun _ => .int _, by decide, rfl⟩
  | 15, r, e => by cases e; exact ⟨fun _ => .int _, fun _ => .int _, fun _ => .str _, by decide, rfl⟩
  | 16, r, e => by cases e; exact ⟨fun _ => .int _, fun _ => .int _, fun _ => .int _, by decide, rfl⟩
  | 17, r, e => by cases e; exact ⟨fun _ => .int _, fun _ => .int _, fun _ => .int _, by decide, rfl⟩
  | 18, r, e => by cases e; exact ⟨fun _ => .int _, fun _ => .int _, fun _ => .int _, by decide, rfl⟩
  | 19, r, e => by cases e; exact ⟨fun _ => .int _, fun _ => .int _, fun _ => .int _, by decide, rfl⟩
  | 20, r, e => by cases e; exact ⟨fun _ => .int _, fun _ => .bl _, fun _ => .int _, by decide, rfl⟩
  | 21, r, e => by cases e; exact ⟨fun _ => .int _, fun _ => .int _, fun _ => .bl _, by decide, rfl⟩
  | n + 22, r, e => nomatch e
def spNo : Sp := fun vs H Q E => ∃ way far, vs = [.int way, .int far] ∧ 0 ≤ far ∧ ∀ H', Same H H' → Q (.bl true) H'
theorem ok_law_no_chip (T : Txt K mg t) (S : Fns K t) : FnOk P w K mg base (CX0) 6 t.f_law_no_chip S.fd_law_no_chip ["_law_way", "_law_far"] spNo := by
  refine S.F_law_no_chip.ok0 sc_law_no_chip (fun vs H Q E h => ?_) (fun cdv A outer s H vs Q E hr h => ?_)
  · obtain ⟨way, far, rfl, _⟩ := h
    rfl
  · obtain ⟨way, far, rfl, hf, q⟩ := h
    refine fin_w ⟨_, (pss_consW (ps_setW (i := 2) sc_law_no_chip.nd rfl (Or.inl rfl) (pe_lstNW (pa_consW (pe_tupNW (pa_consW pe_intW (pa_consW pe_intW (pa_consW pe_intW (pa_consW (pe_tupNW pa_nilW) pa_nilW star_tup))))) (pa_consW (pe_tupNW (pa_consW pe_intW (pa_consW pe_intW (pa_consW pe_intW (pa_consW (pe_lstNW pa_nilW) pa_nilW star_lst))))) (pa_consW (pe_tupNW (pa_consW pe_intW (pa_consW pe_intW (pa_consW pe_intW (pa_consW (pe_tupNW pa_nilW) pa_nilW star_tup))))) (pa_consW (pe_tupNW (pa_consW pe_intW (pa_consW pe_intW (pa_consW pe_intW (pa_consW (pe_lstNW pa_nilW) pa_nilW star_lst))))) (pa_consW (pe_tupNW (pa_consW pe_intW (pa_consW pe_intW (pa_consW (pe_unW un_neg pe_intW) (pa_consW (pe_tupNW pa_nilW) pa_nilW star_tup))))) (pa_consW (pe_tupNW (pa_consW pe_intW (pa_consW pe_intW (pa_consW pe_intW (pa_consW (pe_tupNW pa_nilW) pa_nilW star_tup))))) pa_nilW star_tup) star_tup) star_tup) star_tup) star_tup) star_tup)) swap_lst) (pss_consW (ps_setW (i := 2) sc_law_no_chip.nd rfl (Or.inl rfl) (pe_opW op_catN (pvW 2) (pe_lstNW (pa_consW (pe_tupNW (pa_consW pe_intW (pa_consW pe_intW (pa_consW pe_intW (pa_consW (pe_lstNW (pa_consW (pe_tupNW (pa_consW pe_intW (pa_consW pe_intW pa_nilW))) pa_nilW star_tup)) pa_nilW star_lst))))) (pa_consW (pe_tupNW (pa_consW pe_intW (pa_consW pe_intW (pa_consW pe_intW (pa_consW (pe_tupNW (pa_consW (pe_tupNW (pa_consW (pe_unW un_neg pe_intW) (pa_consW pe_intW pa_nilW))) pa_nilW star_tup)) pa_nilW star_tup))))) (pa_consW (pe_tupNW (pa_consW pe_intW (pa_consW pe_intW (pa_consW pe_intW (pa_consW (pe_lstNW (pa_consW (pe_tupNW (pa_consW pe_intW (pa_consW (pe_unW un_neg pe_intW) pa_nilW))) pa_nilW star_tup)) pa_nilW star_lst))))) (pa_consW (pe_tupNW (pa_consW pe_intW (pa_consW pe_intW (pa_consW pe_intW (pa_consW (pe_lstNW (pa_consW (pe_tupNW (pa_consW pe_intW (pa_consW pe_intW pa_nilW))) pa_nilW star_tup)) pa_nilW star_lst))))) pa_nilW star_tup) star_tup) star_tup) star_tup))) swap_op) (pss_consW (ps_setW (i := 2) sc_law_no_chip.nd rfl (Or.inl rfl) (pe_opW op_catN (pvW 2) (pe_lstNW (pa_consW (pe_tupNW (pa_consW pe_intW (pa_consW pe_intW (pa_consW pe_intW (pa_consW (pe_lstNW (pa_consW (pe_tupNW (pa_consW pe_intW (pa_consW pe_intW pa_nilW))) (pa_consW (pe_tupNW (pa_consW pe_intW (pa_consW pe_intW pa_nilW))) pa_nilW star_tup) star_tup)) pa_nilW star_lst))))) (pa_consW (pe_tupNW (pa_consW (pe_opW op_sub pe_intW (pvW 1)) (pa_consW pe_intW (pa_consW pe_intW (pa_consW (pe_tupNW pa_nilW) pa_nilW star_tup))))) (pa_consW (pe_tupNW (pa_consW pe_intW (pa_consW (pe_opW op_add pe_intW (pvW 1)) (pa_consW pe_intW (pa_consW (pe_tupNW pa_nilW) pa_nilW star_tup))))) (pa_consW (pe_tupNW (pa_consW pe_blW (pa_consW pe_intW (pa_consW pe_intW (pa_consW (pe_tupNW pa_nilW) pa_nilW star_tup))))) pa_nilW star_tup) star_tup) star_tup) star_tup))) swap_op) (pss_consW (ps_setW (i := 2) sc_law_no_chip.nd rfl (Or.inl rfl) (pe_opW op_catN (pvW 2) (pe_lstNW (pa_consW (pe_tupNW (pa_consW pe_intW (pa_consW pe_nonW (pa_consW pe_intW (pa_consW (pe_tupNW pa_nilW) pa_nilW star_tup))))) (pa_consW (pe_tupNW (pa_consW pe_intW (pa_consW pe_intW (pa_consW pe_strW (pa_consW (pe_tupNW pa_nilW) pa_nilW star_tup))))) (pa_consW (pe_tupNW (pa_consW pe_intW (pa_consW pe_intW (pa_consW pe_intW (pa_consW (pe_lstNW (pa_consW (pe_tupNW (pa_consW pe_intW (pa_consW pe_intW pa_nilW))) (pa_consW (pe_tupNW (pa_consW pe_intW (pa_consW pe_intW pa_nilW))) (pa_consW (pe_tupNW (pa_consW pe_intW (pa_consW pe_intW pa_nilW))) pa_nilW star_tup) star_tup) star_tup)) pa_nilW star_lst))))) (pa_consW (pe_tupNW (pa_consW pe_intW (pa_consW pe_intW (pa_consW pe_intW (pa_consW (pe_lstNW (pa_consW (pe_tupNW (pa_consW pe_blW (pa_consW pe_intW pa_nilW))) pa_nilW star_tup)) pa_nilW star_lst))))) pa_nilW star_tup) star_tup) star_tup) star_tup))) swap_op) (pss_consW (ps_setW (i := 2) sc_law_no_chip.nd rfl (Or.inl rfl) (pe_opW op_catN (pvW 2) (pe_lstNW (pa_consW (pe_tupNW (pa_consW pe_intW (pa_consW pe_intW (pa_consW pe_intW (pa_consW (pe_lstNW (pa_consW (pe_tupNW (pa_consW pe_intW (pa_consW pe_intW pa_nilW))) (pa_consW (pe_tupNW (pa_consW pe_intW (pa_consW pe_nonW pa_nilW))) pa_nilW star_tup) star_tup)) pa_nilW star_lst))))) (pa_consW (pe_tupNW (pa_consW pe_intW (pa_consW pe_intW (pa_consW pe_intW (pa_consW (pe_tupNW (pa_consW (pe_tupNW (pa_consW pe_intW (pa_consW pe_intW pa_nilW))) (pa_consW (pe_tupNW (pa_consW pe_intW (pa_consW pe_intW pa_nilW))) (pa_consW (pe_tupNW (pa_consW pe_intW (pa_consW pe_intW pa_nilW))) pa_nilW star_tup) star_tup) star_tup)) pa_nilW star_tup))))) pa_nilW star_tup) star_tup))) swap_op) (pss_consW (ps_setW (i := 2) sc_law_no_chip.nd rfl (Or.inl rfl) (pe_opW op_catN (pvW 2) (pe_lstNW (pa_consW (pe_tupNW (pa_consW pe_intW (pa_consW pe_blW (pa_consW pe_intW (pa_consW (pe_tupNW pa_nilW) pa_nilW star_tup))))) (pa_consW (pe_tupNW (pa_consW pe_intW (pa_consW pe_intW (pa_consW pe_blW (pa_consW (pe_lstNW pa_nilW) pa_nilW star_lst))))) pa_nilW star_tup) star_tup))) swap_op) ⟨(pss_cons (ps_set (i := 3) sc_law_no_chip.nd rfl (Or.inl rfl) (pe_ix ix_list (pv 2) (pe_op op_mod (pv 0) pe_int) (fun _ _ => rfl))) (pss_cons (ps_set (i := 4) sc_law_no_chip.nd rfl (Or.inl rfl) pe_bl) (pss_cons (ps_try (fun pins XE ES tk1 po1 => (pss_one (ps_expr (pe_makeS tk1 T.mk_Chip ((ok_Chip_init T S).mono (by decide)) hr rfl T.mg_Chip S.b_Chip_init .nil (pa_cons (pe_ix (ix_tupT (K := K) rfl) (pv 3) pe_int (fun _ _ => rfl)) (pa_cons (pe_ix (ix_tupT (K := K) rfl) (pv 3) pe_int (fun _ _ => rfl)) (pa_cons (pe_ix (ix_tupT (K := K) rfl) (pv 3) pe_int (fun _ _ => rfl)) (pa_cons (pe_ix (ix_tupT (K := K) rfl) (pv 3) pe_int (fun _ _ => rfl)) pa_nil)))))))) (ph_cons (fun ea => (pe_glob rfl T.mg_NoChip rfl (v := .ref t.C_NoChip))) rfl (fun ea => (pss_one (ps_set (i := 4) sc_law_no_chip.nd rfl (Or.inl rfl) pe_bl))) (ph_nil takes_never))) (pss_one (ps_ret (pv 4))))))⟩)))))), ?_⟩
    refine gv_lst (F := RowAt) (ds := [(.int 1, .int 2, .int 3, []), (.int 17, .int 2, .int 3, []), (.int 2, .int 0, .int 3, []), (.int 2, .int 17, .int 3, []), (.int 2, .int 2, .int (-1), []), (.int 2, .int 2, .int 1000001, [])]) (.cons row_stay (gv_row gv_c gv_c gv_c (gv_it .nil (show 0 ≤ sizeLine by decide))) (.cons row_stay (gv_row gv_c gv_c gv_c (gv_il .nil (show 0 ≤ sizeLine by decide))) (.cons row_stay (gv_row gv_c gv_c gv_c (gv_it .nil (show 0 ≤ sizeLine by decide))) (.cons row_stay (gv_row gv_c gv_c gv_c (gv_il .nil (show 0 ≤ sizeLine by decide))) (.cons row_stay (gv_row gv_c gv_c gv_neg (gv_it .nil (show 0 ≤ sizeLine by decide))) (.cons row_stay (gv_row gv_c gv_c gv_c (gv_it .nil (show 0 ≤ sizeLine by decide))) .nil)))))) row_stay (show 6 ≤ sizeLine by decide) H _ (Same.refl H) fun v1 H1 s1 ⟨p0, x0, e1, h0, r0⟩ => ?_
    subst e1
    refine gv_cat (F := RowAt) (ds := [(.int 2, .int 2, .int 3, [(.int 2, .int 1)]), (.int 2, .int 2, .int 3, [(.int (-1), .int 1)]), (.int 2, .int 2, .int 3, [(.int 0, .int (-1))]), (.int 2, .int 2, .int 3, [(.int 0, .int 1000001)])]) row_stay (.cons row_stay (gv_row gv_c gv_c gv_c (gv_il (.cons pair_stay (gv_pair gv_c gv_c (fun _ => .int _) (fun _ => .int _)) .nil) (show 1 ≤ sizeLine by decide))) (.cons row_stay (gv_row gv_c gv_c gv_c (gv_it (.cons pair_stay (gv_pair gv_neg gv_c (fun _ => .int _) (fun _ => .int _)) .nil) (show 1 ≤ sizeLine by decide))) (.cons row_stay (gv_row gv_c gv_c gv_c (gv_il (.cons pair_stay (gv_pair gv_c gv_neg (fun _ => .int _) (fun _ => .int _)) .nil) (show 1 ≤ sizeLine by decide))) (.cons row_stay (gv_row gv_c gv_c gv_c (gv_il (.cons pair_stay (gv_pair gv_c gv_c (fun _ => .int _) (fun _ => .int _)) .nil) (show 1 ≤ sizeLine by decide))) .nil)))) rfl h0 r0 (show 6 + 4 ≤ sizeLine by decide) (show 4 ≤ sizeLine by decide) fun p1 G1 x1 t1 h1 r1 => ?_
    refine gv_cat (F := RowAt) (ds := [(.int 3, .int 2, .int 3, [(.int 1, .int 4), (.int 1, .int 5)]), (.int (0 - far), .int 2, .int 3, []), (.int 2, .int (17 + far), .int 3, []), (.bl true, .int 2, .int 3, [])]) row_stay (.cons row_stay (gv_row gv_c gv_c gv_c (gv_il (.cons pair_stay (gv_pair gv_c gv_c (fun _ => .int _) (fun _ => .int _)) (.cons pair_stay (gv_pair gv_c gv_c (fun _ => .int _) (fun _ => .int _)) .nil)) (show 2 ≤ sizeLine by decide))) (.cons row_stay (gv_row (gv_subF rfl) gv_c gv_c (gv_it .nil (show 0 ≤ sizeLine by decide))) (.cons row_stay (gv_row gv_c (gv_addF rfl) gv_c (gv_it .nil (show 0 ≤ sizeLine by decide))) (.cons row_stay (gv_row gv_c gv_c gv_c (gv_it .nil (show 0 ≤ sizeLine by decide))) .nil)))) rfl h1 r1 (show 10 + 4 ≤ sizeLine by decide) (show 4 ≤ sizeLine by decide) fun p2 G2 x2 t2 h2 r2 => ?_
    refine gv_cat (F := RowAt) (ds := [(.int 2, .non, .int 3, []), (.int 2, .int 2, .str "3", []), (.int 4, .int 2, .int 3, [(.int 2, .int 4), (.int 0, .int 1), (.int 2, .int 4)]), (.int 2, .int 2, .int 3, [(.bl true, .int 4)])]) row_stay (.cons row_stay (gv_row gv_c gv_c gv_c (gv_it .nil (show 0 ≤ sizeLine by decide))) (.cons row_stay (gv_row gv_c gv_c gv_c (gv_it .nil (show 0 ≤ sizeLine by decide))) (.cons row_stay (gv_row gv_c gv_c gv_c (gv_il (.cons pair_stay (gv_pair gv_c gv_c (fun _ => .int _) (fun _ => .int _)) (.cons pair_stay (gv_pair gv_c gv_c (fun _ => .int _) (fun _ => .int _)) (.cons pair_stay (gv_pair gv_c gv_c (fun _ => .int _) (fun _ => .int _)) .nil))) (show 3 ≤ sizeLine by decide))) (.cons row_stay (gv_row gv_c gv_c gv_c (gv_il (.cons pair_stay (gv_pair gv_c gv_c (fun _ => .bl _) (fun _ => .int _)) .nil) (show 1 ≤ sizeLine by decide))) .nil)))) rfl h2 r2 (show 14 + 4 ≤ sizeLine by decide) (show 4 ≤ sizeLine by decide) fun p3 G3 x3 t3 h3 r3 => ?_
    refine gv_cat (F := RowAt) (ds := [(.int 2, .int 2, .int 3, [(.int 1, .int 4), (.int 0, .non)]), (.int 3, .int 1, .int 0, [(.int 0, .int 0), (.int 1, .int 0), (.int 3, .int 0)])]) row_stay (.cons row_stay (gv_row gv_c gv_c gv_c (gv_il (.cons pair_stay (gv_pair gv_c gv_c (fun _ => .int _) (fun _ => .int _)) (.cons pair_stay (gv_pair gv_c gv_c (fun _ => .int _) (fun _ => .non)) .nil)) (show 2 ≤ sizeLine by decide))) (.cons row_stay (gv_row gv_c gv_c gv_c (gv_it (.cons pair_stay (gv_pair gv_c gv_c (fun _ => .int _) (fun _ => .int _)) (.cons pair_stay (gv_pair gv_c gv_c (fun _ => .int _) (fun _ => .int _)) (.cons pair_stay (gv_pair gv_c gv_c (fun _ => .int _) (fun _ => .int _)) .nil))) (show 3 ≤ sizeLine by decide))) .nil)) rfl h3 r3 (show 18 + 2 ≤ sizeLine by decide) (show 2 ≤ sizeLine by decide) fun p4 G4 x4 t4 h4 r4 => ?_
    refine gv_cat (F := RowAt) (ds := [(.int 2, .bl true, .int 3, []), (.int 2, .int 2, .bl true, [])]) row_stay (.cons row_stay (gv_row gv_c gv_c gv_c (gv_it .nil (show 0 ≤ sizeLine by decide))) (.cons row_stay (gv_row gv_c gv_c gv_c (gv_il .nil (show 0 ≤ sizeLine by decide))) .nil)) rfl h4 r4 (show 20 + 2 ≤ sizeLine by decide) (show 2 ≤ sizeLine by decide) fun p5 G5 x5 t5 h5 r5 => ?_
    have sA : Same H G5 := s1.trans (t1.trans (t2.trans (t3.trans (t4.trans t5))))
    have r5 : Paired (RowAt G5) x5 (rwA far) := r5
    have l5 : x5.length = 22 := r5.len
    have hw := mod_in way 22 (by decide)
    refine ⟨_, rfl, _, rfl, _, _, rfl, rfl, (by show (0 : Int) < 22; decide), p5, x5, _, _, rfl, rfl, SqL.of h5, getV hw.1 (by rw [l5]; exact hw.2), ?_⟩
    have e0 : x5[(way % 22).toNat]? = some (x5.getD (way % 22).toNat .non) := by
      rw [List.getD_eq_getElem?_getD, List.getElem?_eq_getElem (by omega)]
      rfl
    generalize x5.getD (way % 22).toNat .non = v at e0 ⊢
    obtain ⟨⟨r1, r2, r3, its⟩, d1, p, q', xs, rfl, hp, hq, hi⟩ := Paired.at r5 e0
    obtain ⟨k1, k2, k3, ln, bad⟩ := rwA_bad hf d1
    refine ⟨_, rfl, p, _, 0, _, rfl, rfl, SqT.of hp, rfl, _, rfl, p, _, 1, _, rfl, rfl, SqT.of hp, rfl, _, rfl, p, _, 2, _, rfl, rfl, SqT.of hp, rfl, _, rfl, p, _, 3, _, rfl, rfl, SqT.of hp, rfl, ?_⟩
    refine mk_ok (its := its) (k1 _) (k2 _) (k3 _) (.inr ⟨q', xs, rfl, hq.imp SqL.of SqT.of, hi, ln⟩) ?_
    rw [show CM.made r1 r2 r3 its = none from bad]
    exact fun H' s' ea hea => ⟨_, T.xm_NoChip_NoChip, iteT ⟨_, rfl, q H' (sA.trans s')⟩⟩
theorem fb_ne {bl s j : Int} (b : bl = 2 ∨ bl = 3 ∨ bl = 4 ∨ bl = 5) (s0 : 0 ≤ s) (s1 : s < bl) (j0 : 0 ≤ j) (j1 : j < bl - 1) : (s + 1 + j) % bl ≠ s := by
  rcases b with rfl | rfl | rfl | rfl <;> omega
theorem full_in {bl pg f g : Int} (b1 : 2 ≤ bl) (p : pg = 1 ∨ pg = 2 ∨ pg = 3 ∨ pg = 4) (f0 : 0 ≤ f) (f1 : f < bl) (g0 : 0 ≤ g) (g1 : g < pg) : 0 ≤ f * pg + g ∧ f * pg + g < bl * pg ∧ (f * pg + g) / pg = f := by
  rcases p with rfl | rfl | rfl | rfl <;> omega
structure S7 (m : CM) (bl pg sick full : Int) (dark : Bool) : Prop where
  ok : m.Ok
  ebl : m.bl = bl
  epg : m.pg = pg
  emo : m.mo = 9
  lf : m.lf = if dark = true then some 0 else none
  br : ∀ b : Int, 0 ≤ b → m.br.getD b.toNat false = decide (b = sick)
  bo : ∀ p : Int, 0 ≤ p → m.bo.getD p.toNat .non = if p = full then .int 5 else .non
  sp : ∀ b : Int, b ≠ sick → m.spent b = false
  cl : ∀ b : Nat, m.cl.getD b 0 = 0
  rc : m.rc = [(("put" : Str), sick * pg, false), (("put" : Str), full, true)]
def Agree (m : CM) (w : Int) (x : V) (r : CM × Out) (d : Int × V) : Prop := oA r.2 = d ∧ ((d.1 = -1 ∧ w = 0 ∧ ∃ i, x = .int i ∧ r.1.rc = m.rc ++ [(("put" : Str), i, true)]) ∨ (d.1 = -1 ∧ w = 1 ∧ ∃ i, x = .int i ∧ r.1.rc = m.rc ++ [(("wipe" : Str), i, true)]) ∨ (¬ (d.1 = -1 ∧ (w = 0 ∨ w = 1)) ∧ r.1.rc = m.rc))
section
variable {m : CM} {bl pg sick full : Int} {dark : Bool}
theorem agree0 (h : S7 m bl pg sick full dark) (x : V) : Agree m 0 x (m.ask 0 x) (dueA 0 x (bl * pg) sick full pg dark) := by
  have ra : m.ask 0 x = m.put x (.int 5) := if_pos rfl
  rw [ra]
  have no : ∀ y, m.put y (.int 5) = (m, .noPlace) → dueA 0 y (bl * pg) sick full pg dark = (1, .non) → Agree m 0 y (m.put y (.int 5)) (dueA 0 y (bl * pg) sick full pg dark) := fun y e1 e2 => by
    rw [e1, e2]
    exact ⟨rfl, .inr (.inr ⟨fun z => absurd z.1 (by intro z; cases z), rfl⟩)⟩
  cases x with
  | int i =>
    have pg0 : 0 < pg := by rw [← h.epg]; have := h.ok.pg1; omega
    by_cases hb : 0 ≤ i ∧ i < bl * pg
    · have hb' : 0 ≤ i ∧ i ≤ m.bl * m.pg - 1 := by rw [h.ebl, h.epg]; omega
      have eb : m.put (.int i) (.int 5) = if m.lf = some 0 then (m, .dark) else if m.br.getD (i / m.pg).toNat false then (m, .failed (i / m.pg)) else if m.bo.getD i.toNat .non ≠ .non then (m, .written i) else
        (if m.spent (i / m.pg) then (m.deed "put" i (i / m.pg) true, .failed (i / m.pg)) else ({ m.deed "put" i (i / m.pg) false with bo := m.bo.set i.toNat (.int 5) }, .done)) := if_pos hb'
      have ed : dueA 0 (.int i) (bl * pg) sick full pg dark = if dark = true then (2, .non) else if i / pg = sick then (3, .int (i / pg)) else if i = full then (4, .int i) else (-1, .non) := by
        show (if 0 ≤ i ∧ i < bl * pg then (if (2 : Int) < 0 then ((-1 : Int), V.non) else if dark = true then (2, .non) else if (0 : Int) = 2 then (-1, .non) else if (if (0 : Int) = 0 then i / pg else i) = sick then (3, .int (if (0 : Int) = 0 then i / pg else i)) else if (0 : Int) = 0 ∧ i = full then (4, .int i) else (-1, .non)) else (1, .non)) = _
        rw [if_pos hb, if_neg (by decide), if_neg (show ¬ (0 : Int) = 2 by decide), if_pos (show (0 : Int) = 0 from rfl)]
        simp
      have bq : 0 ≤ i / pg := Int.ediv_nonneg hb.1 (by omega)
      rw [eb, ed, h.lf, h.epg, h.br _ bq, h.bo _ hb.1]
      cases dark with
      | true =>
        rw [if_pos (if_pos rfl), if_pos rfl]
        exact ⟨rfl, .inr (.inr ⟨fun z => absurd z.1 (by intro z; cases z), rfl⟩)⟩
      | false =>
        rw [if_neg (show ¬ (if false = true then some (0 : Int) else none) = some 0 by simp), if_neg (show ¬ (false = true) by decide)]
        by_cases hs : i / pg = sick
        · rw [decide_eq_true hs, if_pos rfl, if_pos hs]
          exact ⟨rfl, .inr (.inr ⟨fun z => absurd z.1 (by intro z; cases z), rfl⟩)⟩
        · rw [decide_eq_false hs, if_neg (by decide), if_neg hs]
          by_cases hf : i = full
          · rw [if_pos hf, if_pos hf, if_pos (by intro z; cases z)]
            exact ⟨rfl, .inr (.inr ⟨fun z => absurd z.1 (by intro z; cases z), rfl⟩)⟩
          · rw [if_neg hf, if_neg hf, if_neg (fun z => z rfl), h.sp _ hs, if_neg (by decide)]
            exact ⟨rfl, .inl ⟨rfl, rfl, i, rfl, rfl⟩⟩
    · refine no _ (if_neg (by rw [h.ebl, h.epg]; omega)) (if_neg hb)
  | _ => exact no _ rfl rfl
theorem agree1 (h : S7 m bl pg sick full dark) (x : V) : Agree m 1 x (m.ask 1 x) (dueA 1 x bl sick full pg dark) := by
  have ra : m.ask 1 x = m.wipe x := (if_neg (by decide)).trans (if_pos rfl)
  rw [ra]
  have no : ∀ y, m.wipe y = (m, .noPlace) → dueA 1 y bl sick full pg dark = (1, .non) → Agree m 1 y (m.wipe y) (dueA 1 y bl sick full pg dark) := fun y e1 e2 => by
    rw [e1, e2]
    exact ⟨rfl, .inr (.inr ⟨fun z => absurd z.1 (by intro z; cases z), rfl⟩)⟩
  cases x with
  | int i =>
    by_cases hb : 0 ≤ i ∧ i < bl
    · have hb' : 0 ≤ i ∧ i ≤ m.bl - 1 := by rw [h.ebl]; omega
      have eb : m.wipe (.int i) = if m.lf = some 0 then (m, .dark) else if m.br.getD i.toNat false then (m, .failed i) else
        (if m.spent i || decide (m.mo ≤ m.cl.getD i.toNat 0) then (m.deed "wipe" i i true, .failed i) else
          ({ m.deed "wipe" i i false with bo := clr m.bo (i * m.pg).toNat m.pg.toNat, cl := m.cl.set i.toNat (m.cl.getD i.toNat 0 + 1) }, .done)) := if_pos hb'
      have ed : dueA 1 (.int i) bl sick full pg dark = if dark = true then (2, .non) else if i = sick then (3, .int i) else (-1, .non) := by
        show (if 0 ≤ i ∧ i < bl then (if (2 : Int) < 1 then ((-1 : Int), V.non) else if dark = true then (2, .non) else if (1 : Int) = 2 then (-1, .non) else if (if (1 : Int) = 0 then i / pg else i) = sick then (3, .int (if (1 : Int) = 0 then i / pg else i)) else if (1 : Int) = 0 ∧ i = full then (4, .int i) else (-1, .non)) else (1, .non)) = _
        rw [if_pos hb, if_neg (by decide), if_neg (show ¬ (1 : Int) = 2 by decide), if_neg (show ¬ (1 : Int) = 0 by decide)]
        simp
      rw [eb, ed, h.lf, h.br _ hb.1, h.emo, h.cl]
      cases dark with
      | true =>
        rw [if_pos (if_pos rfl), if_pos rfl]
        exact ⟨rfl, .inr (.inr ⟨fun z => absurd z.1 (by intro z; cases z), rfl⟩)⟩
      | false =>
        rw [if_neg (show ¬ (if false = true then some (0 : Int) else none) = some 0 by simp), if_neg (show ¬ (false = true) by decide)]
        by_cases hs : i = sick
        · rw [decide_eq_true hs, if_pos rfl, if_pos hs]
          exact ⟨rfl, .inr (.inr ⟨fun z => absurd z.1 (by intro z; cases z), rfl⟩)⟩
        · rw [decide_eq_false hs, if_neg (by decide), if_neg hs, h.sp _ hs, if_neg (by decide)]
          exact ⟨rfl, .inr (.inl ⟨rfl, rfl, i, rfl, rfl⟩)⟩
    · refine no _ (if_neg (by rw [h.ebl]; omega)) (if_neg hb)
  | _ => exact no _ rfl rfl
theorem agree2 (h : S7 m bl pg sick full dark) (x : V) : Agree m 2 x (m.ask 2 x) (dueA 2 x (bl * pg) sick full pg dark) := by
  have ra : m.ask 2 x = (m, (m.rd x).2) := (if_neg (by decide)).trans ((if_neg (by decide)).trans (if_pos rfl))
  rw [ra]
  have fin : ∀ o d, oA o = d → Agree m 2 x (m, o) d := fun o d e => ⟨e, .inr (.inr ⟨fun z => z.2.elim (by decide) (by decide), rfl⟩)⟩
  refine fin _ _ ?_
  cases x with
  | int i =>
    by_cases hb : 0 ≤ i ∧ i < bl * pg
    · have hb' : 0 ≤ i ∧ i ≤ m.bl * m.pg - 1 := by rw [h.ebl, h.epg]; omega
      have eb : m.rd (.int i) = if m.lf = some 0 then (.non, .dark) else (m.bo.getD i.toNat .non, .done) := if_pos hb'
      have ed : dueA 2 (.int i) (bl * pg) sick full pg dark = if dark = true then (2, .non) else (-1, .non) := by
        show (if 0 ≤ i ∧ i < bl * pg then (if (2 : Int) < 2 then ((-1 : Int), V.non) else if dark = true then (2, .non) else if (2 : Int) = 2 then (-1, .non) else _) else (1, .non)) = _
        rw [if_pos hb, if_neg (by decide), if_pos (show (2 : Int) = 2 from rfl)]
      rw [eb, ed, h.lf]
      cases dark with
      | true => rw [if_pos (if_pos rfl), if_pos rfl]; rfl
      | false => rw [if_neg (by simp), if_neg (by simp)]; rfl
    · rw [show m.rd (.int i) = (.non, .noPlace) from if_neg (by rw [h.ebl, h.epg]; omega), show dueA 2 (.int i) (bl * pg) sick full pg dark = (1, .non) from if_neg hb]
      rfl
  | _ => rfl
theorem agree3 (h : S7 m bl pg sick full dark) {w : Int} (hw : 2 < w) (x : V) : Agree m w x (m.ask w x) (dueA w x bl sick full pg dark) := by
  have ra : m.ask w x = (m, if inB x 0 (m.bl - 1) = true then .done else .noPlace) := (if_neg (by omega)).trans ((if_neg (by omega)).trans (if_neg (by omega)))
  rw [ra]
  have fin : ∀ o d, oA o = d → Agree m w x (m, o) d := fun o d e => ⟨e, .inr (.inr ⟨fun z => z.2.elim (by omega) (by omega), rfl⟩)⟩
  refine fin _ _ ?_
  by_cases hb : inB x 0 (m.bl - 1) = true
  · rw [if_pos hb]
    obtain ⟨i, rfl, i0, i1⟩ := inB_int hb
    show _ = (if 0 ≤ i ∧ i < bl then (if 2 < w then ((-1 : Int), V.non) else _) else (1, .non))
    rw [if_pos ⟨i0, by rw [← h.ebl]; omega⟩, if_pos hw]
    rfl
  · rw [if_neg hb]
    cases x with
    | int i =>
      have z := inB_no hb
      rw [h.ebl] at z
      rw [show dueA w (.int i) bl sick full pg dark = (1, .non) from if_neg (by omega)]
      rfl
    | _ => rfl
theorem agree (h : S7 m bl pg sick full dark) {w : Int} (w0 : 0 ≤ w) (x : V) : Agree m w x (m.ask w x) (dueA w x (if w = 0 ∨ w = 2 then bl * pg else bl) sick full pg dark) := by
  by_cases a : w = 0
  · rw [if_pos (.inl a)]; subst a; exact agree0 h x
  · by_cases b : w = 2
    · rw [if_pos (.inr b)]; subst b; exact agree2 h x
    · rw [if_neg (fun z => z.elim a b)]
      by_cases c : w = 1
      · subst c; exact agree1 h x
      · exact agree3 h (by omega) x
end
theorem first7 {bl pg sick full : Int} {lim : List (Key × V)} (hl : ∀ b : Int, valV lim (Sum.inl b) = if b = sick then some (.int 0) else none) (b1 : 2 ≤ bl) (b2 : bl ≤ 16) (p1 : 1 ≤ pg) (p2 : pg ≤ 16) (s0 : 0 ≤ sick) (s1 : sick < bl) (f0 : 0 ≤ full) (f1 : full < bl * pg) (fn : full / pg ≠ sick) (sp0 : 0 ≤ sick * pg) (sp1 : sick * pg ≤ bl * pg - 1) :
    ∃ m1 m2, (CM.new bl pg 9 lim).Ok ∧ (CM.new bl pg 9 lim).put (.int (sick * pg)) (.int 5) = (m1, .failed sick) ∧ m1.Ok ∧ m1.rc.length < 10 ∧ m1.put (.int full) (.int 5) = (m2, .done) ∧ S7 m2 bl pg sick full false := by
  have ok0 : (CM.new bl pg 9 lim).Ok := new_ok b1 b2 p1 p2 fun b v e => by
    rw [hl] at e
    by_cases z : b = sick
    · rw [if_pos z] at e; cases e; exact ⟨0, rfl⟩
    · rw [if_neg z] at e; cases e
  have eq : sick * pg / pg = sick := Int.mul_ediv_cancel _ (by omega)
  have spn : ∀ (m : CM) (b : Int), m.lim = lim → b ≠ sick → m.spent b = false := fun m b e n => by
    unfold CM.spent
    rw [e, hl, if_neg n]
  have sps : (CM.new bl pg 9 lim).spent sick = true := by
    unfold CM.spent
    show (match valV lim (Sum.inl sick) with | some (.int n) => decide (n ≤ (List.replicate bl.toNat (0 : Int)).getD sick.toNat 0) | _ => false) = true
    rw [hl, if_pos rfl, getD_rep]
    simp
  have e1 : (CM.new bl pg 9 lim).put (.int (sick * pg)) (.int 5) = ((CM.new bl pg 9 lim).deed "put" (sick * pg) sick true, .failed sick) := by
    show (if 0 ≤ sick * pg ∧ sick * pg ≤ bl * pg - 1 then (if (none : Option Int) = some 0 then _ else if (List.replicate bl.toNat false).getD (sick * pg / pg).toNat false then _ else if (List.replicate (bl * pg).toNat V.non).getD (sick * pg).toNat .non ≠ .non then _ else (if (CM.new bl pg 9 lim).spent (sick * pg / pg) then _ else _)) else _) = _
    rw [if_pos ⟨sp0, sp1⟩, if_neg (by intro z; cases z), getD_rep, getD_rep, eq, sps]
    rw [if_neg (by split <;> decide), if_neg (by split <;> exact fun z => z rfl), if_pos rfl, show (CM.new bl pg 9 lim).pg = pg from rfl, eq]
  have ok1 : ((CM.new bl pg 9 lim).deed "put" (sick * pg) sick true).Ok := ok0.deed (by show 0 < 1000000; decide)
  have brs : ∀ b : Int, 0 ≤ b → ((List.replicate bl.toNat false).set sick.toNat true).getD b.toNat false = decide (b = sick) := fun b b0 => by
    rw [getD_set, List.length_replicate, getD_rep]
    by_cases z : b = sick
    · rw [if_pos ⟨by omega, by omega⟩, decide_eq_true z]
    · rw [if_neg (by omega), decide_eq_false z]
      split <;> rfl
  have bq : 0 ≤ full / pg := Int.ediv_nonneg f0 (by omega)
  refine ⟨_, _, ok0, e1, ok1, by show 1 < 10; decide, put_ok f0 (by show full ≤ bl * pg - 1; omega) (by intro z; cases z) ?_ ?_ (spn _ _ rfl fn), ?_⟩
  · show ((List.replicate bl.toNat false).set sick.toNat true).getD (full / pg).toNat false = false
    rw [brs _ bq, decide_eq_false fn]
  · show (List.replicate (bl * pg).toNat V.non).getD full.toNat .non = .non
    rw [getD_rep]
    split <;> rfl
  · have ok2 := ok1.deed (w := "put") (pl := full) (b := full / pg) (f := false) (by show 1 < 1000000; decide)
    refine ⟨⟨ok2.bl1, ok2.bl2, ok2.pg1, ok2.pg2, ?_, ok2.ncl, ok2.ndc, ok2.nbr, ok2.lim, ok2.nrc⟩, rfl, rfl, rfl, rfl, brs, fun p p0 => ?_, fun b n => spn _ b rfl n, fun b => ?_, rfl⟩
    · show (((List.replicate (bl * pg).toNat V.non).set full.toNat (.int 5)).length : Int) = bl * pg
      rw [List.length_set, List.length_replicate]
      omega
    · show ((List.replicate (bl * pg).toNat V.non).set full.toNat (.int 5)).getD p.toNat .non = _
      rw [getD_set, List.length_replicate, getD_rep]
      by_cases z : p = full
      · rw [if_pos ⟨by omega, by omega⟩, if_pos z]
      · rw [if_neg (by omega), if_neg z]
        split <;> rfl
    · show (List.replicate bl.toNat (0 : Int)).getD b 0 = 0
      rw [getD_rep]
      split <;> rfl
theorem vl1 (sick : Int) : ∀ b : Int, valV (putK ([] : List (Key × V)) (Sum.inl sick) (V.int 0)) (Sum.inl b) = if b = sick then some (.int 0) else none := fun b => by
  have e := valV_put ([] : List (Key × V)) (Sum.inl sick) (Sum.inl b) (.int 0)
  rw [e]
  by_cases z : b = sick
  · subst z
    rw [if_pos rfl, if_pos rfl]
  · rw [if_neg z, if_neg (by intro q; injection q with q; exact z q)]
    rfl
theorem kn_flat {x : V} (f : flatV x = true) (H : Hp) : Knd H x := by
  cases x with
  | non => exact .non
  | bl b => exact .bl b
  | int i => exact .int i
  | str y => exact .str y
  | _ => exact absurd (show false = true from f) Bool.false_ne_true
theorem getD_flat {xs : List V} (h : xs.all flatV = true) (k : Nat) : flatV (xs.getD k .non) = true := by
  rw [List.getD_eq_getElem?_getD]
  cases e : xs[k]? with
  | none => rfl
  | some v => exact List.all_eq_true.mp h v (List.mem_of_getElem? e)
theorem oA_flat (o : Out) : flatV (oA o).2 = true := by cases o <;> rfl
theorem eqv_two {H : Hp} {p q : Addr} {i : Int} {v : V} (h1 : H p = some (.tup [.int i, v])) (h2 : H q = some (.tup [.int i, v])) (f : flatV v = true) : Eqv K H 6 (.ref p) (.ref q) :=
  eqv_flatT (SqT.of h1) (SqT.of h2) fun x hx => by
    rcases List.mem_cons.mp hx with rfl | hx
    · rfl
    · rw [List.mem_singleton.mp hx]
      exact f
theorem S7.lfs {m : CM} {bl pg sick full : Int} (h : S7 m bl pg sick full false) : S7 { m with lf := some 0 } bl pg sick full true :=
  ⟨⟨h.ok.bl1, h.ok.bl2, h.ok.pg1, h.ok.pg2, h.ok.nbo, h.ok.ncl, h.ok.ndc, h.ok.nbr, h.ok.lim, h.ok.nrc⟩, h.ebl, h.epg, h.emo, rfl, h.br, h.bo, h.sp, h.cl, h.rc⟩
theorem rec_same {H H' : Hp} (s : Same H H') {rs : List V} {ds : List (Str × Int × Bool)} (r : Recd H rs ds) : Recd H' rs ds := r.keep (F := []) (Keep.same s)
set_option maxHeartbeats 0 in
theorem ok_law (T : Txt K mg t) (S : Fns K t) : FnOk P w K mg base (CX0) 7 t.f_law S.fd_law ["_law_script"] (spLaw K) := by
  refine S.F_law.ok0 sc_law (fun vs H Q E h => ?_) (fun cdv A outer s H vs Q E hr h => ?_)
  · obtain ⟨sa, ns, rfl, _⟩ := h
    rfl
  · obtain ⟨sa, ns, rfl, hS, hl, q⟩ := h
    refine ⟨_, (pss_cons (ps_set (i := 1) sc_law.nd rfl (Or.inl rfl) (pe_op op_add pe_int (pe_op op_mod (pe_call ((ok_law_cell_at T S).mono (by decide)) hr rfl T.mg_law_cell_at T.kp_law_cell_at S.b_law_cell_at .nil pass0 (pa_cons (pv 0) (pa_cons pe_int pa_nil))) pe_int))) (pss_cons (ps_set (i := 2) sc_law.nd rfl (Or.inl rfl) (pe_op op_add pe_int (pe_op op_mod (pe_call ((ok_law_cell_at T S).mono (by decide)) hr rfl T.mg_law_cell_at T.kp_law_cell_at S.b_law_cell_at .nil pass0 (pa_cons (pv 0) (pa_cons pe_int pa_nil))) pe_int))) (pss_cons (ps_set (i := 3) sc_law.nd rfl (Or.inl rfl) (pe_op op_mod (pe_call ((ok_law_cell_at T S).mono (by decide)) hr rfl T.mg_law_cell_at T.kp_law_cell_at S.b_law_cell_at .nil pass0 (pa_cons (pv 0) (pa_cons pe_int pa_nil))) (pv 1))) (pss_cons (ps_set (i := 4) sc_law.nd rfl (Or.inl rfl) (pe_op op_add (pe_op op_mul (pe_op op_mod (pe_op op_add (pe_op op_add (pv 3) pe_int) (pe_op op_mod (pe_call ((ok_law_cell_at T S).mono (by decide)) hr rfl T.mg_law_cell_at T.kp_law_cell_at S.b_law_cell_at .nil pass0 (pa_cons (pv 0) (pa_cons pe_int pa_nil))) (pe_op op_sub (pv 1) pe_int))) (pv 1)) (pv 2)) (pe_op op_mod (pe_call ((ok_law_cell_at T S).mono (by decide)) hr rfl T.mg_law_cell_at T.kp_law_cell_at S.b_law_cell_at .nil pass0 (pa_cons (pv 0) (pa_cons pe_int pa_nil))) (pv 2)))) (pss_cons (ps_set (i := 5) sc_law.nd rfl (Or.inl rfl) (pe_makeS takes_never T.mk_Chip ((ok_Chip_init T S).mono (by decide)) hr rfl T.mg_Chip S.b_Chip_init .nil (pa_cons (pv 1) (pa_cons (pv 2) (pa_cons pe_int (pa_cons (pe_lstN (pa_cons (pe_tupN (pa_cons (pv 3) (pa_cons pe_int pa_nil))) pa_nil star_tup)) pa_nil star_lst)))))) (pss_cons (ps_set (i := 6) sc_law.nd rfl (Or.inl rfl) (pe_op op_mod (pe_call ((ok_law_cell_at T S).mono (by decide)) hr rfl T.mg_law_cell_at T.kp_law_cell_at S.b_law_cell_at .nil pass0 (pa_cons (pv 0) (pa_cons pe_int pa_nil))) pe_int)) (pss_cons (ps_set (i := 7) sc_law.nd rfl (Or.inl rfl) (pv 1)) (pss_mid (ps_if (PW.pt (pw_or (pt_cmpR op_eq (pv 6) pe_int (nomark _)) (pw_or1 (pt_cmpR op_eq (pv 6) pe_int (nomark _))))) (pss_one (ps_set (i := 7) sc_law.nd rfl (Or.inl rfl) (pe_op op_mul (pv 1) (pv 2)))) pss_nil) (pss_cons (ps_if (PW.pt (pw_or (pt_cmpR (op_neS hr.units) (pe_call ((ok_law_asked T S).mono (by decide)) hr rfl T.mg_law_asked T.kp_law_asked S.b_law_asked .nil pass0 (pa_cons (pv 5) (pa_cons pe_int (pa_cons (pe_op op_mul (pv 3) (pv 2)) pa_nil)))) (pe_tupN (pa_cons pe_int (pa_cons (pv 3) pa_nil))) (nomark _)) (pw_or1 (pt_cmpR (op_neS hr.units) (pe_call ((ok_law_asked T S).mono (by decide)) hr rfl T.mg_law_asked T.kp_law_asked S.b_law_asked .nil pass0 (pa_cons (pv 5) (pa_cons pe_int (pa_cons (pv 4) pa_nil)))) (pe_tupN (pa_cons (pe_un un_neg pe_int) (pa_cons pe_non pa_nil))) (nomark _))))) (pss_one (ps_ret pe_bl)) pss_nil) (pss_cons (ps_set (i := 8) sc_law.nd rfl (Or.inl rfl) (pe_cmpR op_eq (pe_op op_mod (pe_call ((ok_law_cell_at T S).mono (by decide)) hr rfl T.mg_law_cell_at T.kp_law_cell_at S.b_law_cell_at .nil pass0 (pa_cons (pv 0) (pa_cons pe_int pa_nil))) pe_int) pe_int (nomark _))) (pss_mid (ps_if (pt_val (pv 8)) (pss_one (ps_expr (pe_methS takes_never (pv 5) T.cl_Chip T.m_Chip_cut_after ((ok_Chip_cut_after T S).mono (by decide)) hr S.b_Chip_cut_after .nil (pa_cons pe_int pa_nil)))) pss_nil) (pss_cons (ps_set (i := 9) sc_law.nd rfl (Or.inl rfl) (pe_op op_mod (pe_call ((ok_law_cell_at T S).mono (by decide)) hr rfl T.mg_law_cell_at T.kp_law_cell_at S.b_law_cell_at .nil pass0 (pa_cons (pv 0) (pa_cons pe_int pa_nil))) (pe_op op_pow pe_int pe_int))) (pss_cons (ps_set (i := 10) sc_law.nd rfl (Or.inl rfl) (pe_lstN (pa_cons (pv 4) (pa_cons (pv 3) (pa_cons (pe_op op_mul (pv 3) (pv 2)) (pa_cons (pv 7) (pa_cons (pe_op op_sub (pv 7) pe_int) (pa_cons (pe_un un_neg pe_int) (pa_cons (pe_op op_sub pe_int (pv 9)) (pa_cons (pe_op op_add (pv 7) (pv 9)) (pa_cons pe_bl (pa_cons pe_non (pa_cons pe_str pa_nil))))))))))))) (pss_cons (ps_set (i := 10) sc_law.nd rfl (Or.inl rfl) (pe_op op_catN (pv 10) (pe_lstN (pa_cons (pe_op op_mod (pv 9) (pv 7)) (pa_cons (pe_op op_fdiv (pv 4) (pv 2)) pa_nil))))) (pss_cons (ps_set (i := 11) sc_law.nd rfl (Or.inl rfl) (pe_ix ix_list (pv 10) (pe_op op_mod (pe_call ((ok_law_cell_at T S).mono (by decide)) hr rfl T.mg_law_cell_at T.kp_law_cell_at S.b_law_cell_at .nil pass0 (pa_cons (pv 0) (pa_cons pe_int pa_nil))) pe_int) (fun _ _ => rfl))) (pss_cons (ps_set (i := 12) sc_law.nd rfl (Or.inl rfl) (pe_call ((ok_law_due T S).mono (by decide)) hr rfl T.mg_law_due T.kp_law_due S.b_law_due .nil pass0 (pa_cons (pv 6) (pa_cons (pv 11) (pa_cons (pv 7) (pa_cons (pv 3) (pa_cons (pv 4) (pa_cons (pv 2) (pa_cons (pv 8) pa_nil))))))))) (pss_cons (ps_if (pt_cmpR (op_neS hr.units) (pe_call ((ok_law_asked T S).mono (by decide)) hr rfl T.mg_law_asked T.kp_law_asked S.b_law_asked .nil pass0 (pa_cons (pv 5) (pa_cons (pv 6) (pa_cons (pv 11) pa_nil)))) (pv 12) (nomark _)) (pss_one (ps_ret pe_bl)) pss_nil) (pss_cons (ps_set (i := 13) sc_law.nd rfl (Or.inl rfl) (pe_lstN (pa_cons (pe_tupN (pa_cons pe_str (pa_cons (pe_op op_mul (pv 3) (pv 2)) (pa_cons pe_bl pa_nil)))) (pa_cons (pe_tupN (pa_cons pe_str (pa_cons (pv 4) (pa_cons pe_bl pa_nil)))) pa_nil star_tup) star_tup))) (pss_mid (ps_if (PW.pt (pw_and (pt_cmpR op_eq (pe_ix ix_tup (pv 12) pe_int (fun _ _ => rfl)) (pe_un un_neg pe_int) (nomark _)) (pw_and1 (pt_cmpR op_eq (pv 6) pe_int (nomark _))))) (pss_one (ps_set (i := 13) sc_law.nd rfl (Or.inl rfl) (pe_op op_catN (pv 13) (pe_lstN (pa_cons (pe_tupN (pa_cons pe_str (pa_cons (pv 11) (pa_cons pe_bl pa_nil)))) pa_nil star_tup))))) pss_nil) (pss_mid (ps_if (PW.pt (pw_and (pt_cmpR op_eq (pe_ix ix_tup (pv 12) pe_int (fun _ _ => rfl)) (pe_un un_neg pe_int) (nomark _)) (pw_and1 (pt_cmpR op_eq (pv 6) pe_int (nomark _))))) (pss_one (ps_set (i := 13) sc_law.nd rfl (Or.inl rfl) (pe_op op_catN (pv 13) (pe_lstN (pa_cons (pe_tupN (pa_cons pe_str (pa_cons (pv 11) (pa_cons pe_bl pa_nil)))) pa_nil star_tup))))) pss_nil) (pss_one (ps_ret (pe_and (pe_cmpR (op_eqS hr.units) (pe_meth0 (pv 5) T.cl_Chip T.m_Chip_deeds ((ok_Chip_deeds T S).mono (by decide)) hr S.b_Chip_deeds .nil pass0) (pv 13) (nomark _)) (pe_and (pe_call ((ok_law_no_chip T S).mono (by decide)) hr rfl T.mg_law_no_chip T.kp_law_no_chip S.b_law_no_chip .nil pass0 (pa_cons (pe_call ((ok_law_cell_at T S).mono (by decide)) hr rfl T.mg_law_cell_at T.kp_law_cell_at S.b_law_cell_at .nil pass0 (pa_cons (pv 0) (pa_cons pe_int pa_nil))) (pa_cons (pv 9) pa_nil))) (pe_one (pe_call0 ((ok_law_classes T S).mono (by decide)) hr rfl T.mg_law_classes T.kp_law_classes S.b_law_classes .nil pass0)))))))))))))))))))))))))), ?_⟩
    refine ⟨_, rfl, sa, ns, 0, rfl, hS, by decide, _, _, rfl, rfl, (by show (0 : Int) < 4; decide), _, _, rfl, rfl, ?_⟩
    refine ⟨_, rfl, sa, ns, 1, rfl, hS, by decide, _, _, rfl, rfl, (by show (0 : Int) < 4; decide), _, _, rfl, rfl, ?_⟩
    dsimp only
    have a0 := mod_in (cellAt ns 0) 4 (by decide)
    have a1 := mod_in (cellAt ns 1) 4 (by decide)
    have hb : 2 + cellAt ns 0 % 4 = 2 ∨ 2 + cellAt ns 0 % 4 = 3 ∨ 2 + cellAt ns 0 % 4 = 4 ∨ 2 + cellAt ns 0 % 4 = 5 := by omega
    have hp : 1 + cellAt ns 1 % 4 = 1 ∨ 1 + cellAt ns 1 % 4 = 2 ∨ 1 + cellAt ns 1 % 4 = 3 ∨ 1 + cellAt ns 1 % 4 = 4 := by omega
    generalize 2 + cellAt ns 0 % 4 = bl at hb ⊢
    generalize 1 + cellAt ns 1 % 4 = pg at hp ⊢
    have b1 : 2 ≤ bl := by omega
    have b2 : bl ≤ 5 := by omega
    have p1 : 1 ≤ pg := by omega
    have p2 : pg ≤ 4 := by omega
    refine ⟨_, rfl, sa, ns, 2, rfl, hS, by decide, _, rfl, _, _, rfl, rfl, (by show (0 : Int) < bl; omega), ?_⟩
    dsimp only
    have s01 := mod_in (cellAt ns 2) bl (by omega)
    generalize cellAt ns 2 % bl = sick at s01 ⊢
    refine ⟨_, rfl, _, _, rfl, rfl, _, rfl, sa, ns, 3, rfl, hS, by decide, _, rfl, _, _, rfl, rfl, _, _, rfl, rfl, (by show (0 : Int) < bl - 1; omega), _, _, rfl, rfl, ?_⟩
    have c3 := mod_in (cellAt ns 3) (bl - 1) (by omega)
    have fbi := mod_in (sick + 1 + cellAt ns 3 % (bl - 1)) bl (by omega)
    have fbn := fb_ne hb s01.1 s01.2 c3.1 c3.2
    have c4 := mod_in (cellAt ns 4) pg (by omega)
    refine ⟨_, rfl, _, _, rfl, rfl, (by show (0 : Int) < bl; omega), _, rfl, _, _, rfl, rfl, .inr ⟨by omega, by omega⟩, _, rfl, sa, ns, 4, rfl, hS, by decide, _, rfl, _, _, rfl, rfl, (by show (0 : Int) < pg; omega), _, _, rfl, rfl, ?_⟩
    dsimp only
    have fi := full_in b1 hp fbi.1 fbi.2 c4.1 c4.2
    have fn : ((sick + 1 + cellAt ns 3 % (bl - 1)) % bl * pg + cellAt ns 4 % pg) / pg ≠ sick := by rw [fi.2.2]; exact fbn
    have fi : 0 ≤ (sick + 1 + cellAt ns 3 % (bl - 1)) % bl * pg + cellAt ns 4 % pg ∧ (sick + 1 + cellAt ns 3 % (bl - 1)) % bl * pg + cellAt ns 4 % pg < bl * pg := ⟨fi.1, fi.2.1⟩
    generalize (sick + 1 + cellAt ns 3 % (bl - 1)) % bl * pg + cellAt ns 4 % pg = full at fi fn ⊢
    clear fbn fbi c3 c4 a0 a1
    have bp : bl * pg ≤ 5 * 4 := Int.mul_le_mul b2 p2 (by omega) (by decide)
    have sp0 : 0 ≤ sick * pg := Int.mul_nonneg s01.1 (by omega)
    have sp1 : sick * pg ≤ bl * pg - 1 := by
      have : (sick + 1) * pg ≤ bl * pg := Int.mul_le_mul_of_nonneg_right (by omega) (by omega)
      rw [Int.add_mul] at this
      omega
    obtain ⟨m1, m2, ok0, e1', ok1, rc1, e2', g2⟩ := first7 (vl1 sick) b1 (by omega) p1 (by omega) s01.1 s01.2 fi.1 fi.2 fn sp0 sp1
    refine ⟨_, rfl, _, rfl, _, rfl, by show 2 ≤ sizeLine; decide, fun tp H1 n1 s1 e1 => ⟨by show 1 ≤ sizeLine; decide, fun lb H2 n2 s2 e2 => ?_⟩⟩
    have em : CM.made (.int bl) (.int pg) (.int 9) [(.int sick, .int 0)] = some (CM.new bl pg 9 (putK [] (Sum.inl sick) (.int 0))) := by
      rw [made_int b1 (by omega) p1 (by omega) (by decide) (by decide), limM_next ⟨s01.1, by omega⟩ (by intro z; cases z) rfl]
      rfl
    refine mk_ok (K := K) (t := t) (its := [(.int sick, .int 0)]) (.int _) (.int _) (.int _) (.inr ⟨lb, _, rfl, .inl (SqL.of e2), .cons ⟨tp, rfl, s2 _ _ e1, .int _, .int _⟩ .nil, by show 1 ≤ 1000; decide⟩) ?_
    rw [em]
    refine fun c a H3 hc s3 f3 => ?_
    have s12 : Same H H2 := s1.trans s2
    have s13 : Same H H3 := s12.trans s3
    have fF : ∀ b ∈ foot c a, H b = none := fun b hb => s12.free (f3 b (.tail _ hb))
    have K3 : Keep (foot c a) H H3 := Keep.same s13
    refine ⟨_, rfl, sa, ns, 5, rfl, s13.seq hS, by decide, _, _, rfl, rfl, (by show (0 : Int) < 5; decide), ?_⟩
    dsimp only
    have w01 := mod_in (cellAt ns 5) 5 (by decide)
    generalize cellAt ns 5 % 5 = w at w01 ⊢
    refine ⟨_, rfl, ?_⟩
    refine ⟨fun σ' H' => σ' = [some (.ref sa), some (.int bl), some (.int pg), some (.int sick), some (.int full), some (.ref c), some (.int w), some (.int (if w = 0 ∨ w = 2 then bl * pg else bl)), none, none, none, none, none, none] ∧ H3 = H', ?_, ?_⟩
    · refine ⟨_, rfl, rfl, _, rfl, ?_⟩
      rw [dec_ii]
      by_cases z0 : w = 0
      · rw [decide_eq_true z0]
        refine iteT (iteT ⟨_, rfl, _, rfl, _, _, rfl, rfl, .inr ⟨by omega, by omega⟩, ?_⟩)
        rw [if_pos (.inl z0)]
        exact ⟨rfl, rfl⟩
      · rw [decide_eq_false z0]
        refine iteF ⟨_, rfl, rfl, _, rfl, ?_⟩
        rw [dec_ii]
        by_cases z2 : w = 2
        · rw [decide_eq_true z2]
          refine iteT ⟨_, rfl, _, rfl, _, _, rfl, rfl, .inr ⟨by omega, by omega⟩, ?_⟩
          rw [if_pos (.inr z2)]
          exact ⟨rfl, rfl⟩
        · rw [decide_eq_false z2]
          refine iteF ?_
          rw [if_neg (fun z => z.elim z0 z2)]
          exact ⟨rfl, rfl⟩
    rintro σ' H' ⟨rfl, rfl⟩
    have mb : 0 < (if w = 0 ∨ w = 2 then bl * pg else bl) := by
      have := Int.mul_le_mul b1 p1 (by decide) (by omega)
      split <;> omega
    have Ag := fun d x (g : S7 d bl pg sick full x) => agree g w01.1
    generalize (if w = 0 ∨ w = 2 then bl * pg else bl) = many at mb Ag ⊢
    -- the first two puts
    refine ⟨_, rfl, _, rfl, _, rfl, _, _, rfl, rfl, .inr ⟨by omega, by omega⟩, c, a, _, 0, _, rfl, hc, ok0, by show 0 < 1000000; decide, .int _, fun p H4 h4 k4 e4 => ?_⟩
    have r1 : (CM.new bl pg 9 (putK [] (Sum.inl sick) (.int 0))).ask 0 (.int (sick * pg)) = (m1, .failed sick) := (if_pos rfl).trans e1'
    rw [r1] at h4 e4
    refine ⟨_, rfl, by show 2 ≤ sizeLine; decide, fun p5 H5 n5 s5 e5 => ⟨eqv_two (s5 _ _ e4) e5 rfl, _, rfl, iteF ?_⟩⟩
    refine ⟨_, rfl, _, rfl, c, a, _, 0, _, rfl, h4.same s5, ok1, Nat.lt_trans rc1 (by decide), .int _, fun p6 H6 h6 k6 e6 => ?_⟩
    have r2 : m1.ask 0 (.int full) = (m2, .done) := (if_pos rfl).trans e2'
    rw [r2] at h6 e6
    refine ⟨1, rfl, by show 2 ≤ sizeLine; decide, fun p7 H7 n7 s7 e7 => ⟨eqv_two (s7 _ _ e6) e7 rfl, _, rfl, iteF ?_⟩⟩
    have h7 := h6.same s7
    have K7 : Keep (foot c a) H H7 := ((((K3.trans k4).trans (Keep.same s5)).trans k6).trans (Keep.same s7))
    refine ⟨_, rfl, sa, ns, 6, rfl, SqL.through hS fF K7, by decide, _, _, rfl, rfl, (by show (0 : Int) < 3; decide), rfl, ?_⟩
    dsimp only
    generalize decide (V.int (cellAt ns 6 % 3) = V.int 1) = dark
    refine ⟨fun σ' H' => ∃ m3, σ' = [some (.ref sa), some (.int bl), some (.int pg), some (.int sick), some (.int full), some (.ref c), some (.int w), some (.int many), some (.bl dark), none, none, none, none, none] ∧ ChipAt t.C_Chip H' c a m3 ∧ S7 m3 bl pg sick full dark ∧ Keep (foot c a) H H', ?_, ?_⟩
    · refine ⟨_, rfl, _, rfl, ?_⟩
      cases dark with
      | true =>
        refine iteT ⟨_, rfl, c, a.dx, _, rfl, h7.ins, rfl, c, a, m2, .int 0, rfl, h7, .int _, ?_⟩
        show if (0 : Int) ≤ 0 ∧ (0 : Int) ≤ 1000000 then _ else _
        rw [if_pos ⟨by decide, by decide⟩]
        intro H8 h8 k8
        exact ⟨_, rfl, h8, g2.lfs, K7.trans k8⟩
      | false => exact iteF ⟨_, rfl, h7, g2, K7⟩
    rintro σ' H8 ⟨m3, rfl, h8, g3, K8⟩
    have Ag := Ag m3 dark g3
    refine ⟨_, rfl, sa, ns, 8, rfl, SqL.through hS fF K8, by decide, _, _, rfl, rfl, ⟨by decide, by decide, by decide⟩, _, _, rfl, rfl, (by show (0 : Int) < 10 ^ Int.toNat 30; decide), ?_⟩
    dsimp only
    have far0 := (mod_in (cellAt ns 8) (10 ^ Int.toNat 30) (by decide)).1
    generalize cellAt ns 8 % 10 ^ Int.toNat 30 = far at far0 ⊢
    refine ⟨_, rfl, _, rfl, _, rfl, _, rfl, _, _, rfl, rfl, .inr ⟨by omega, by omega⟩, _, rfl, _, rfl, _, _, rfl, rfl, 1, rfl, _, rfl, _, _, rfl, rfl, _, rfl, _, rfl, _, _, rfl, rfl, by show 11 ≤ sizeLine; decide, fun l1 G1 o1 u1 q1 => ?_⟩
    refine ⟨_, rfl, _, rfl, _, rfl, _, _, rfl, rfl, mb, _, rfl, _, rfl, _, _, rfl, rfl, ⟨by omega, by omega⟩, by show 2 ≤ sizeLine; decide, fun l2 G2 o2 u2 q2 => ?_⟩
    refine ⟨l1, l2, _, _, rfl, rfl, u2 _ _ q1, q2, by show 11 + 2 ≤ sizeLine; decide, fun l3 G3 o3 u3 q3 => ?_⟩
    have s83 : Same H8 G3 := u1.trans (u2.trans u3)
    have KG : Keep (foot c a) H G3 := K8.trans (Keep.same s83)
    have hG := h8.same s83
    have c7 := mod_in (cellAt ns 7) 13 (by decide)
    refine ⟨_, rfl, _, rfl, sa, ns, 7, rfl, SqL.through hS fF KG, by decide, _, _, rfl, rfl, (by show (0 : Int) < 13; decide), l3, _, _, _, rfl, rfl, SqL.of q3, getV c7.1 c7.2, ?_⟩
    have fx := getD_flat (xs := [V.int full, .int sick, .int (sick * pg), .int many, .int (many - 1), .int (-1), .int (0 - far), .int (many + far), .bl true, .non, .str "1"] ++ [.int (far % many), .int (full / pg)]) rfl (cellAt ns 7 % 13).toNat
    dsimp only at fx ⊢
    generalize List.getD _ (cellAt ns 7 % 13).toNat V.non = x at fx ⊢
    have kx : ∀ H, Knd H x := kn_flat fx
    have Ag := Ag x
    refine ⟨_, rfl, _, rfl, _, rfl, _, rfl, _, rfl, _, rfl, _, rfl, w, x, many, sick, full, pg, dark, rfl, kx _, ⟨by omega, by omega⟩, fun pd G4 u4 q4 => ?_⟩
    generalize dueA w x many sick full pg dark = d at q4 Ag ⊢
    have h4' := hG.same u4
    refine ⟨_, rfl, _, rfl, _, rfl, c, a, m3, w, x, rfl, h4', g3.ok, by rw [g3.rc]; show 2 < 1000000; decide, kx _, fun pa G5 h5 k5 e5' => ?_⟩
    obtain ⟨eo, lg3⟩ := Ag
    rw [eo] at e5'
    have fd : flatV d.2 = true := by rw [← eo]; exact oA_flat _
    have q5 := k5.tp _ _ q4
    refine ⟨_, rfl, eqv_two e5' q5 fd, _, rfl, iteF ?_⟩
    generalize m3.ask w x = r at h5 lg3 ⊢
    obtain ⟨m4, o4⟩ := r
    have K5 : Keep (foot c a) H G5 := (KG.trans (Keep.same u4)).trans k5
    refine ⟨_, rfl, _, rfl, _, _, rfl, rfl, .inr ⟨by omega, by omega⟩, by show 3 ≤ sizeLine; decide, fun t1 E1 v1 y1 z1 => ⟨_, rfl, by show 3 ≤ sizeLine; decide, fun t2 E2 v2 y2 z2 => ⟨by show 2 ≤ sizeLine; decide, fun lg E3 v3 y3 z3 => ?_⟩⟩⟩
    have sE : Same G5 E3 := y1.trans (y2.trans y3)
    have rc3 : Recd E3 [.ref t1, .ref t2] m3.rc := by
      rw [g3.rc]
      exact .cons ⟨t1, rfl, y3 _ _ (y2 _ _ z1)⟩ (.cons ⟨t2, rfl, y3 _ _ z2⟩ .nil)
    have qE := sE _ _ q5
    refine ⟨fun σ' H' => ∃ lg rs L, σ' = [some (.ref sa), some (.int bl), some (.int pg), some (.int sick), some (.int full), some (.ref c), some (.int w), some (.int many), some (.bl dark), some (.int far), some (.ref l3), some x, some (.ref pd), some (.ref lg)] ∧ Same E3 H' ∧ H' lg = some (.lst rs) ∧ Recd H' rs L ∧ rs.length ≤ 5 ∧ (¬ (d.1 = -1 ∧ w = 1) → L = m4.rc) ∧ (d.1 = -1 ∧ w = 1 → L = m3.rc), ?_, ?_⟩
    · refine ⟨_, rfl, pd, _, 0, _, rfl, rfl, SqT.of qE, rfl, 1, rfl, rfl, _, rfl, ?_⟩
      rw [dec_ii]
      by_cases d1 : d.1 = -1
      · rw [decide_eq_true d1]
        refine iteT ⟨_, rfl, rfl, _, rfl, ?_⟩
        rw [dec_ii]
        by_cases w0 : w = 0
        · rw [decide_eq_true w0]
          rcases lg3 with ⟨_, _, i, rfl, rc4⟩ | ⟨_, w1, _⟩ | ⟨no, _⟩
          · refine iteT ⟨_, rfl, _, rfl, by show 3 ≤ sizeLine; decide, fun t3 F1 a1 b1' c1 => ⟨by show 1 ≤ sizeLine; decide, fun l4 F2 a2 b2' c2 => ⟨lg, l4, _, _, rfl, rfl, b2' _ _ (b1' _ _ z3), c2, by show 2 + 1 ≤ sizeLine; decide, fun l5 F3 a3 b3 c3 => ?_⟩⟩⟩
            have sF : Same E3 F3 := b1'.trans (b2'.trans b3)
            refine ⟨l5, _, _, rfl, sF, c3, L2.Paired.snoc (rec_same sF rc3) ⟨t3, rfl, b3 _ _ (b2' _ _ c1)⟩, by show 3 ≤ 5; decide, fun _ => rc4.symm, fun z => ?_⟩
            omega
          · omega
          · exact absurd ⟨d1, .inl w0⟩ no
        · rw [decide_eq_false w0]
          refine iteF ⟨lg, _, _, rfl, Same.refl _, z3, rc3, by show 2 ≤ 5; decide, fun z => ?_, fun _ => rfl⟩
          rcases lg3 with ⟨_, w0', _⟩ | ⟨_, w1, _⟩ | ⟨_, e⟩
          · exact absurd w0' w0
          · exact absurd ⟨d1, w1⟩ z
          · exact e.symm
      · rw [decide_eq_false d1]
        refine iteF (iteF ⟨lg, _, _, rfl, Same.refl _, z3, rc3, by show 2 ≤ 5; decide, fun z => ?_, fun _ => rfl⟩)
        rcases lg3 with ⟨z', _⟩ | ⟨z', _⟩ | ⟨_, e⟩
        · exact absurd z' d1
        · exact absurd z' d1
        · exact e.symm
    rintro σ' E4 ⟨lg', rs, L, rfl, sE4, zl, rl, ln, L0, L1⟩
    have qE4 := sE4 _ _ qE
    refine ⟨fun σ' H' => ∃ lg rs, σ' = [some (.ref sa), some (.int bl), some (.int pg), some (.int sick), some (.int full), some (.ref c), some (.int w), some (.int many), some (.bl dark), some (.int far), some (.ref l3), some x, some (.ref pd), some (.ref lg)] ∧ Same E4 H' ∧ H' lg = some (.lst rs) ∧ Recd H' rs m4.rc, ?_, ?_⟩
    · refine ⟨_, rfl, pd, _, 0, _, rfl, rfl, SqT.of qE4, rfl, 1, rfl, rfl, _, rfl, ?_⟩
      rw [dec_ii]
      by_cases d1 : d.1 = -1
      · rw [decide_eq_true d1]
        refine iteT ⟨_, rfl, rfl, _, rfl, ?_⟩
        rw [dec_ii]
        by_cases w1 : w = 1
        · rw [decide_eq_true w1]
          rcases lg3 with ⟨_, w0, _⟩ | ⟨_, _, i, rfl, rc4⟩ | ⟨no, _⟩
          · omega
          · refine iteT ⟨_, rfl, _, rfl, by show 3 ≤ sizeLine; decide, fun t3 F1 a1 b1' c1 => ⟨by show 1 ≤ sizeLine; decide, fun l4 F2 a2 b2' c2 => ⟨lg', l4, _, _, rfl, rfl, b2' _ _ (b1' _ _ zl), c2, by rw [sizeLine_eq]; show rs.length + 1 ≤ _; omega, fun l5 F3 a3 b3 c3 => ?_⟩⟩⟩
            have sF : Same E4 F3 := b1'.trans (b2'.trans b3)
            rw [L1 ⟨d1, w1⟩] at rl
            have e4 : m4.rc = m3.rc ++ [(("wipe" : Str), i, true)] := rc4
            rw [e4]
            exact ⟨l5, _, rfl, sF, c3, L2.Paired.snoc (rec_same sF rl) ⟨t3, rfl, b3 _ _ (b2' _ _ c1)⟩⟩
          · exact absurd ⟨d1, .inr w1⟩ no
        · rw [decide_eq_false w1]
          rw [L0 (fun z => w1 z.2)] at rl
          exact iteF ⟨lg', _, rfl, Same.refl _, zl, rl⟩
      · rw [decide_eq_false d1]
        rw [L0 (fun z => d1 z.1)] at rl
        exact iteF (iteF ⟨lg', _, rfl, Same.refl _, zl, rl⟩)
    rintro σ' E5 ⟨lg5, rs5, rfl, sE5, zl5, rl5⟩
    have s5E : Same G5 E5 := sE.trans (sE4.trans sE5)
    have hE5 := h5.same s5E
    have K9 : Keep (foot c a) H E5 := K5.trans (Keep.same s5E)
    refine ⟨_, rfl, c, a.dx, _, rfl, hE5.ins, rfl, c, a, _, rfl, hE5, fun rs6 er rr p6' E6 n6 s6 e6' => ?_⟩
    refine ⟨_, rfl, eqv_log e6' (s6 _ _ zl5) (rec_same s6 rr) (rec_same s6 rl5), _, rfl, iteT ?_⟩
    have K10 : Keep (foot c a) H E6 := K9.trans (Keep.same s6)
    refine ⟨_, rfl, sa, ns, 9, rfl, SqL.through hS fF K10, by decide, _, rfl, _, far, rfl, far0, fun E7 s7' => ⟨_, rfl, iteT ?_⟩⟩
    exact ⟨rfl, fun E8 s8 => q E8⟩
end
end W1

namespace W1
open PySem L2
set_option maxHeartbeats 0 in
theorem all_mk {l : PySem.W.OpenLaw} {w : World} {K : PySem.W.Frag} {h : Heap} {mg : Str → Option Value} {fa f_BlockFailed_init f_NotClear_init f_is_whole f_is_within f_is_shape f_limits_of f_Chip_init f_Chip_put f_Chip_wipe f_Chip_read f_Chip_cut_after f_Chip_is_dark f_Chip_cleared f_Chip_failed f_Chip_deeds f_Chip_check_page f_Chip_check_block f_Chip_check_power f_Chip_check_deed f_Chip_is_spent f_Chip_do_deed f_law_cell_at f_law_all f_law_of f_law_classes f_law_asked f_law_due f_law_no_chip f_law C_Chip C_WornError C_NoChip C_NoPlace C_PowerGone C_BlockFailed C_NotClear C_NoTerms C_NoSheet C_NoValue C_Full C_NoRoom C_WornOut C_NoRule C_NoRace C_NoPart C_NoRow d_Chip_init : Addr} (X : K.In h) (G : h.Ns mainGlobals mg) (hfa : mg "law" = some (.ref fa))
    {od_BlockFailed_init an_BlockFailed_init od_NotClear_init an_NotClear_init od_is_whole an_is_whole od_is_within an_is_within od_is_shape an_is_shape od_limits_of an_limits_of od_Chip_init an_Chip_init od_Chip_put an_Chip_put od_Chip_wipe an_Chip_wipe od_Chip_read an_Chip_read od_Chip_cut_after an_Chip_cut_after od_Chip_is_dark an_Chip_is_dark od_Chip_cleared an_Chip_cleared od_Chip_failed an_Chip_failed od_Chip_deeds an_Chip_deeds od_Chip_check_page an_Chip_check_page od_Chip_check_block an_Chip_check_block od_Chip_check_power an_Chip_check_power od_Chip_check_deed an_Chip_check_deed od_Chip_is_spent an_Chip_is_spent od_Chip_do_deed an_Chip_do_deed od_law_cell_at an_law_cell_at od_law_all an_law_all od_law_of an_law_of od_law_classes an_law_classes od_law_asked an_law_asked od_law_due an_law_due od_law_no_chip an_law_no_chip od_law an_law : Option Addr} {sl_BlockFailed_init sl_NotClear_init sl_is_whole sl_is_within sl_is_shape sl_limits_of sl_Chip_init sl_Chip_put sl_Chip_wipe sl_Chip_read sl_Chip_cut_after sl_Chip_is_dark sl_Chip_cleared sl_Chip_failed sl_Chip_deeds sl_Chip_check_page sl_Chip_check_block sl_Chip_check_power sl_Chip_check_deed sl_Chip_is_spent sl_Chip_do_deed sl_law_cell_at sl_law_all sl_law_of sl_law_classes sl_law_asked sl_law_due sl_law_no_chip sl_law : Array (Option Value)} {oc_BlockFailed_init kV_BlockFailed_init dc_BlockFailed_init pm_BlockFailed_init cd_BlockFailed_init ct_BlockFailed_init oc_NotClear_init kV_NotClear_init dc_NotClear_init pm_NotClear_init cd_NotClear_init ct_NotClear_init oc_is_whole kV_is_whole dc_is_whole pm_is_whole cd_is_whole ct_is_whole oc_is_within kV_is_within dc_is_within pm_is_within cd_is_within ct_is_within oc_is_shape kV_is_shape dc_is_shape pm_is_shape cd_is_shape ct_is_shape oc_limits_of kV_limits_of dc_limits_of pm_limits_of cd_limits_of ct_limits_of oc_Chip_init kV_Chip_init dc_Chip_init pm_Chip_init cd_Chip_init ct_Chip_init oc_Chip_put kV_Chip_put dc_Chip_put pm_Chip_put cd_Chip_put ct_Chip_put oc_Chip_wipe kV_Chip_wipe dc_Chip_wipe pm_Chip_wipe cd_Chip_wipe ct_Chip_wipe oc_Chip_read kV_Chip_read dc_Chip_read pm_Chip_read cd_Chip_read ct_Chip_read oc_Chip_cut_after kV_Chip_cut_after dc_Chip_cut_after pm_Chip_cut_after cd_Chip_cut_after ct_Chip_cut_after oc_Chip_is_dark kV_Chip_is_dark dc_Chip_is_dark pm_Chip_is_dark cd_Chip_is_dark ct_Chip_is_dark oc_Chip_cleared kV_Chip_cleared dc_Chip_cleared pm_Chip_cleared cd_Chip_cleared ct_Chip_cleared oc_Chip_failed kV_Chip_failed dc_Chip_failed pm_Chip_failed cd_Chip_failed ct_Chip_failed oc_Chip_deeds kV_Chip_deeds dc_Chip_deeds pm_Chip_deeds cd_Chip_deeds ct_Chip_deeds oc_Chip_check_page kV_Chip_check_page dc_Chip_check_page pm_Chip_check_page cd_Chip_check_page ct_Chip_check_page oc_Chip_check_block kV_Chip_check_block dc_Chip_check_block pm_Chip_check_block cd_Chip_check_block ct_Chip_check_block oc_Chip_check_power kV_Chip_check_power dc_Chip_check_power pm_Chip_check_power cd_Chip_check_power ct_Chip_check_power oc_Chip_check_deed kV_Chip_check_deed dc_Chip_check_deed pm_Chip_check_deed cd_Chip_check_deed ct_Chip_check_deed oc_Chip_is_spent kV_Chip_is_spent dc_Chip_is_spent pm_Chip_is_spent cd_Chip_is_spent ct_Chip_is_spent oc_Chip_do_deed kV_Chip_do_deed dc_Chip_do_deed pm_Chip_do_deed cd_Chip_do_deed ct_Chip_do_deed oc_law_cell_at kV_law_cell_at dc_law_cell_at pm_law_cell_at cd_law_cell_at ct_law_cell_at oc_law_all kV_law_all dc_law_all pm_law_all cd_law_all ct_law_all oc_law_of kV_law_of dc_law_of pm_law_of cd_law_of ct_law_of oc_law_classes kV_law_classes dc_law_classes pm_law_classes cd_law_classes ct_law_classes oc_law_asked kV_law_asked dc_law_asked pm_law_asked cd_law_asked ct_law_asked oc_law_due kV_law_due dc_law_due pm_law_due cd_law_due ct_law_due oc_law_no_chip kV_law_no_chip dc_law_no_chip pm_law_no_chip cd_law_no_chip ct_law_no_chip oc_law kV_law dc_law pm_law cd_law ct_law : Value} {dd_Chip_init : Option Addr} {dn_Chip_init : Nat} {ds_Chip_init : Array (Option Value)} {e0_Chip_init : Tok} {tk_MOST_TOLD : Tok}
    (aC_Chip : PySem.W.nsIn K mainGlobals "Chip" = some (some (.ref C_Chip)))
    (pg_Chip : PySem.W.plainGet K C_Chip Str.empty = true)
    (hd_Chip : PySem.W.hasDictIn K C_Chip = true)
    (po_Chip : PySem.W.plainOver K C_Chip = true)
    (sa_Chip : PySem.W.findIn K (.ref C_Chip) "__setattr__" = some (some (.builtin "object.__setattr__")))
    (kc_Chip : PySem.W.keepIn K (.ref C_Chip) = true)
    (n_Chip_blocks : PySem.W.findIn K (.ref C_Chip) "blocks" = some none)
    (n_Chip_pages : PySem.W.findIn K (.ref C_Chip) "pages" = some none)
    (n_Chip_most : PySem.W.findIn K (.ref C_Chip) "most" = some none)
    (n_Chip_limits : PySem.W.findIn K (.ref C_Chip) "limits" = some none)
    (n_Chip_borne : PySem.W.findIn K (.ref C_Chip) "borne" = some none)
    (n_Chip_clearings : PySem.W.findIn K (.ref C_Chip) "clearings" = some none)
    (n_Chip_deed_counts : PySem.W.findIn K (.ref C_Chip) "deed_counts" = some none)
    (n_Chip_broken : PySem.W.findIn K (.ref C_Chip) "broken" = some none)
    (n_Chip_deeds_left : PySem.W.findIn K (.ref C_Chip) "deeds_left" = some none)
    (n_Chip_record : PySem.W.findIn K (.ref C_Chip) "record" = some none)
    (a_Chip_init : PySem.W.findIn K (.ref C_Chip) "__init__" = some (some (.ref f_Chip_init)))
    (i_Chip_init : PySem.W.isFn K (.ref f_Chip_init) = true)
    (k_Chip_init : PySem.W.keepIn K (.ref f_Chip_init) = true)
    (a_Chip_put : PySem.W.findIn K (.ref C_Chip) "put" = some (some (.ref f_Chip_put)))
    (i_Chip_put : PySem.W.isFn K (.ref f_Chip_put) = true)
    (k_Chip_put : PySem.W.keepIn K (.ref f_Chip_put) = true)
    (a_Chip_wipe : PySem.W.findIn K (.ref C_Chip) "wipe" = some (some (.ref f_Chip_wipe)))
    (i_Chip_wipe : PySem.W.isFn K (.ref f_Chip_wipe) = true)
    (k_Chip_wipe : PySem.W.keepIn K (.ref f_Chip_wipe) = true)
    (a_Chip_read : PySem.W.findIn K (.ref C_Chip) "read" = some (some (.ref f_Chip_read)))
    (i_Chip_read : PySem.W.isFn K (.ref f_Chip_read) = true)
    (k_Chip_read : PySem.W.keepIn K (.ref f_Chip_read) = true)
    (a_Chip_cut_after : PySem.W.findIn K (.ref C_Chip) "cut_after" = some (some (.ref f_Chip_cut_after)))
    (i_Chip_cut_after : PySem.W.isFn K (.ref f_Chip_cut_after) = true)
    (k_Chip_cut_after : PySem.W.keepIn K (.ref f_Chip_cut_after) = true)
    (a_Chip_is_dark : PySem.W.findIn K (.ref C_Chip) "is_dark" = some (some (.ref f_Chip_is_dark)))
    (i_Chip_is_dark : PySem.W.isFn K (.ref f_Chip_is_dark) = true)
    (k_Chip_is_dark : PySem.W.keepIn K (.ref f_Chip_is_dark) = true)
    (a_Chip_cleared : PySem.W.findIn K (.ref C_Chip) "cleared" = some (some (.ref f_Chip_cleared)))
    (i_Chip_cleared : PySem.W.isFn K (.ref f_Chip_cleared) = true)
    (k_Chip_cleared : PySem.W.keepIn K (.ref f_Chip_cleared) = true)
    (a_Chip_failed : PySem.W.findIn K (.ref C_Chip) "failed" = some (some (.ref f_Chip_failed)))
    (i_Chip_failed : PySem.W.isFn K (.ref f_Chip_failed) = true)
    (k_Chip_failed : PySem.W.keepIn K (.ref f_Chip_failed) = true)
    (a_Chip_deeds : PySem.W.findIn K (.ref C_Chip) "deeds" = some (some (.ref f_Chip_deeds)))
    (i_Chip_deeds : PySem.W.isFn K (.ref f_Chip_deeds) = true)
    (k_Chip_deeds : PySem.W.keepIn K (.ref f_Chip_deeds) = true)
    (a_Chip_check_page : PySem.W.findIn K (.ref C_Chip) "check_page" = some (some (.ref f_Chip_check_page)))
    (i_Chip_check_page : PySem.W.isFn K (.ref f_Chip_check_page) = true)
    (k_Chip_check_page : PySem.W.keepIn K (.ref f_Chip_check_page) = true)
    (a_Chip_check_block : PySem.W.findIn K (.ref C_Chip) "check_block" = some (some (.ref f_Chip_check_block)))
    (i_Chip_check_block : PySem.W.isFn K (.ref f_Chip_check_block) = true)
    (k_Chip_check_block : PySem.W.keepIn K (.ref f_Chip_check_block) = true)
    (a_Chip_check_power : PySem.W.findIn K (.ref C_Chip) "check_power" = some (some (.ref f_Chip_check_power)))
    (i_Chip_check_power : PySem.W.isFn K (.ref f_Chip_check_power) = true)
    (k_Chip_check_power : PySem.W.keepIn K (.ref f_Chip_check_power) = true)
    (a_Chip_check_deed : PySem.W.findIn K (.ref C_Chip) "check_deed" = some (some (.ref f_Chip_check_deed)))
    (i_Chip_check_deed : PySem.W.isFn K (.ref f_Chip_check_deed) = true)
    (k_Chip_check_deed : PySem.W.keepIn K (.ref f_Chip_check_deed) = true)
    (a_Chip_is_spent : PySem.W.findIn K (.ref C_Chip) "is_spent" = some (some (.ref f_Chip_is_spent)))
    (i_Chip_is_spent : PySem.W.isFn K (.ref f_Chip_is_spent) = true)
    (k_Chip_is_spent : PySem.W.keepIn K (.ref f_Chip_is_spent) = true)
    (a_Chip_do_deed : PySem.W.findIn K (.ref C_Chip) "do_deed" = some (some (.ref f_Chip_do_deed)))
    (i_Chip_do_deed : PySem.W.isFn K (.ref f_Chip_do_deed) = true)
    (k_Chip_do_deed : PySem.W.keepIn K (.ref f_Chip_do_deed) = true)
    (mk_Chip : PySem.W.makesIn K C_Chip = true)
    (aC_WornError : PySem.W.nsIn K mainGlobals "WornError" = some (some (.ref C_WornError)))
    (kc_WornError : PySem.W.keepIn K (.ref C_WornError) = true)
    (rga_WornError : PySem.W.findIn K (.ref C_WornError) "__getattribute__" = some (some (.builtin "BaseException.__getattribute__")))
    (rgn_WornError : PySem.W.findIn K (.ref C_WornError) "__getattr__" = some none)
    (rmb_WornError : PySem.W.mroIn K C_WornError (.type "BaseException") = some true)
    (rhd_WornError : PySem.W.hasDictIn K C_WornError = true)
    (rcl_WornError : PySem.W.findIn K (.ref C_WornError) "__class__" = some (some (.builtin "object.__class__")))
    (rcg_WornError : PySem.W.specialIn K (.builtin "object.__class__") "__get__" = some (some (.builtin "getset_descriptor.__get__")))
    (rct_WornError : PySem.W.takesIn K (.builtin "object.__class__") = some true)
    (rmo_WornError : PySem.W.mroIn K C_WornError (.type "object") = some true)
    (x_WornError : PySem.W.excIn K C_WornError bmVE "ValueError.__new__" = true)
    (aC_NoChip : PySem.W.nsIn K mainGlobals "NoChip" = some (some (.ref C_NoChip)))
    (kc_NoChip : PySem.W.keepIn K (.ref C_NoChip) = true)
    (rga_NoChip : PySem.W.findIn K (.ref C_NoChip) "__getattribute__" = some (some (.builtin "BaseException.__getattribute__")))
    (rgn_NoChip : PySem.W.findIn K (.ref C_NoChip) "__getattr__" = some none)
    (rmb_NoChip : PySem.W.mroIn K C_NoChip (.type "BaseException") = some true)
    (rhd_NoChip : PySem.W.hasDictIn K C_NoChip = true)
    (rcl_NoChip : PySem.W.findIn K (.ref C_NoChip) "__class__" = some (some (.builtin "object.__class__")))
    (rcg_NoChip : PySem.W.specialIn K (.builtin "object.__class__") "__get__" = some (some (.builtin "getset_descriptor.__get__")))
    (rct_NoChip : PySem.W.takesIn K (.builtin "object.__class__") = some true)
    (rmo_NoChip : PySem.W.mroIn K C_NoChip (.type "object") = some true)
    (x_NoChip : PySem.W.excIn K C_NoChip bmVE "ValueError.__new__" = true)
    (aC_NoPlace : PySem.W.nsIn K mainGlobals "NoPlace" = some (some (.ref C_NoPlace)))
    (kc_NoPlace : PySem.W.keepIn K (.ref C_NoPlace) = true)
    (rga_NoPlace : PySem.W.findIn K (.ref C_NoPlace) "__getattribute__" = some (some (.builtin "BaseException.__getattribute__")))
    (rgn_NoPlace : PySem.W.findIn K (.ref C_NoPlace) "__getattr__" = some none)
    (rmb_NoPlace : PySem.W.mroIn K C_NoPlace (.type "BaseException") = some true)
    (rhd_NoPlace : PySem.W.hasDictIn K C_NoPlace = true)
    (rcl_NoPlace : PySem.W.findIn K (.ref C_NoPlace) "__class__" = some (some (.builtin "object.__class__")))
    (rcg_NoPlace : PySem.W.specialIn K (.builtin "object.__class__") "__get__" = some (some (.builtin "getset_descriptor.__get__")))
    (rct_NoPlace : PySem.W.takesIn K (.builtin "object.__class__") = some true)
    (rmo_NoPlace : PySem.W.mroIn K C_NoPlace (.type "object") = some true)
    (x_NoPlace : PySem.W.excIn K C_NoPlace bmVE "ValueError.__new__" = true)
    (aC_PowerGone : PySem.W.nsIn K mainGlobals "PowerGone" = some (some (.ref C_PowerGone)))
    (kc_PowerGone : PySem.W.keepIn K (.ref C_PowerGone) = true)
    (rga_PowerGone : PySem.W.findIn K (.ref C_PowerGone) "__getattribute__" = some (some (.builtin "BaseException.__getattribute__")))
    (rgn_PowerGone : PySem.W.findIn K (.ref C_PowerGone) "__getattr__" = some none)
    (rmb_PowerGone : PySem.W.mroIn K C_PowerGone (.type "BaseException") = some true)
    (rhd_PowerGone : PySem.W.hasDictIn K C_PowerGone = true)
    (rcl_PowerGone : PySem.W.findIn K (.ref C_PowerGone) "__class__" = some (some (.builtin "object.__class__")))
    (rcg_PowerGone : PySem.W.specialIn K (.builtin "object.__class__") "__get__" = some (some (.builtin "getset_descriptor.__get__")))
    (rct_PowerGone : PySem.W.takesIn K (.builtin "object.__class__") = some true)
    (rmo_PowerGone : PySem.W.mroIn K C_PowerGone (.type "object") = some true)
    (x_PowerGone : PySem.W.excIn K C_PowerGone bmVE "ValueError.__new__" = true)
    (aC_BlockFailed : PySem.W.nsIn K mainGlobals "BlockFailed" = some (some (.ref C_BlockFailed)))
    (kc_BlockFailed : PySem.W.keepIn K (.ref C_BlockFailed) = true)
    (rga_BlockFailed : PySem.W.findIn K (.ref C_BlockFailed) "__getattribute__" = some (some (.builtin "BaseException.__getattribute__")))
    (rgn_BlockFailed : PySem.W.findIn K (.ref C_BlockFailed) "__getattr__" = some none)
    (rmb_BlockFailed : PySem.W.mroIn K C_BlockFailed (.type "BaseException") = some true)
    (rhd_BlockFailed : PySem.W.hasDictIn K C_BlockFailed = true)
    (rcl_BlockFailed : PySem.W.findIn K (.ref C_BlockFailed) "__class__" = some (some (.builtin "object.__class__")))
    (rcg_BlockFailed : PySem.W.specialIn K (.builtin "object.__class__") "__get__" = some (some (.builtin "getset_descriptor.__get__")))
    (rct_BlockFailed : PySem.W.takesIn K (.builtin "object.__class__") = some true)
    (rmo_BlockFailed : PySem.W.mroIn K C_BlockFailed (.type "object") = some true)
    (xhd_BlockFailed : PySem.W.hasDictIn K C_BlockFailed = true)
    (xsa_BlockFailed : PySem.W.findIn K (.ref C_BlockFailed) "__setattr__" = some (some (.builtin "object.__setattr__")))
    (xmr_BlockFailed : veIn K C_BlockFailed = true)
    (fi_BlockFailed : PySem.W.findIn K (.ref C_BlockFailed) "__init__" = some (some (.ref f_BlockFailed_init)))
    (xi_BlockFailed : xinI K C_BlockFailed f_BlockFailed_init = true)
    (n_BlockFailed_block : PySem.W.findIn K (.ref C_BlockFailed) "block" = some none)
    (aC_NotClear : PySem.W.nsIn K mainGlobals "NotClear" = some (some (.ref C_NotClear)))
    (kc_NotClear : PySem.W.keepIn K (.ref C_NotClear) = true)
    (rga_NotClear : PySem.W.findIn K (.ref C_NotClear) "__getattribute__" = some (some (.builtin "BaseException.__getattribute__")))
    (rgn_NotClear : PySem.W.findIn K (.ref C_NotClear) "__getattr__" = some none)
    (rmb_NotClear : PySem.W.mroIn K C_NotClear (.type "BaseException") = some true)
    (rhd_NotClear : PySem.W.hasDictIn K C_NotClear = true)
    (rcl_NotClear : PySem.W.findIn K (.ref C_NotClear) "__class__" = some (some (.builtin "object.__class__")))
    (rcg_NotClear : PySem.W.specialIn K (.builtin "object.__class__") "__get__" = some (some (.builtin "getset_descriptor.__get__")))
    (rct_NotClear : PySem.W.takesIn K (.builtin "object.__class__") = some true)
    (rmo_NotClear : PySem.W.mroIn K C_NotClear (.type "object") = some true)
    (xhd_NotClear : PySem.W.hasDictIn K C_NotClear = true)
    (xsa_NotClear : PySem.W.findIn K (.ref C_NotClear) "__setattr__" = some (some (.builtin "object.__setattr__")))
    (xmr_NotClear : veIn K C_NotClear = true)
    (fi_NotClear : PySem.W.findIn K (.ref C_NotClear) "__init__" = some (some (.ref f_NotClear_init)))
    (xi_NotClear : xinI K C_NotClear f_NotClear_init = true)
    (n_NotClear_page : PySem.W.findIn K (.ref C_NotClear) "page" = some none)
    (aC_NoTerms : PySem.W.nsIn K mainGlobals "NoTerms" = some (some (.ref C_NoTerms)))
    (kc_NoTerms : PySem.W.keepIn K (.ref C_NoTerms) = true)
    (rga_NoTerms : PySem.W.findIn K (.ref C_NoTerms) "__getattribute__" = some (some (.builtin "BaseException.__getattribute__")))
    (rgn_NoTerms : PySem.W.findIn K (.ref C_NoTerms) "__getattr__" = some none)
    (rmb_NoTerms : PySem.W.mroIn K C_NoTerms (.type "BaseException") = some true)
    (rhd_NoTerms : PySem.W.hasDictIn K C_NoTerms = true)
    (rcl_NoTerms : PySem.W.findIn K (.ref C_NoTerms) "__class__" = some (some (.builtin "object.__class__")))
    (rcg_NoTerms : PySem.W.specialIn K (.builtin "object.__class__") "__get__" = some (some (.builtin "getset_descriptor.__get__")))
    (rct_NoTerms : PySem.W.takesIn K (.builtin "object.__class__") = some true)
    (rmo_NoTerms : PySem.W.mroIn K C_NoTerms (.type "object") = some true)
    (x_NoTerms : PySem.W.excIn K C_NoTerms bmVE "ValueError.__new__" = true)
    (aC_NoSheet : PySem.W.nsIn K mainGlobals "NoSheet" = some (some (.ref C_NoSheet)))
    (kc_NoSheet : PySem.W.keepIn K (.ref C_NoSheet) = true)
    (rga_NoSheet : PySem.W.findIn K (.ref C_NoSheet) "__getattribute__" = some (some (.builtin "BaseException.__getattribute__")))
    (rgn_NoSheet : PySem.W.findIn K (.ref C_NoSheet) "__getattr__" = some none)
    (rmb_NoSheet : PySem.W.mroIn K C_NoSheet (.type "BaseException") = some true)
    (rhd_NoSheet : PySem.W.hasDictIn K C_NoSheet = true)
    (rcl_NoSheet : PySem.W.findIn K (.ref C_NoSheet) "__class__" = some (some (.builtin "object.__class__")))
    (rcg_NoSheet : PySem.W.specialIn K (.builtin "object.__class__") "__get__" = some (some (.builtin "getset_descriptor.__get__")))
    (rct_NoSheet : PySem.W.takesIn K (.builtin "object.__class__") = some true)
    (rmo_NoSheet : PySem.W.mroIn K C_NoSheet (.type "object") = some true)
    (x_NoSheet : PySem.W.excIn K C_NoSheet bmVE "ValueError.__new__" = true)
    (aC_NoValue : PySem.W.nsIn K mainGlobals "NoValue" = some (some (.ref C_NoValue)))
    (kc_NoValue : PySem.W.keepIn K (.ref C_NoValue) = true)
    (rga_NoValue : PySem.W.findIn K (.ref C_NoValue) "__getattribute__" = some (some (.builtin "BaseException.__getattribute__")))
    (rgn_NoValue : PySem.W.findIn K (.ref C_NoValue) "__getattr__" = some none)
    (rmb_NoValue : PySem.W.mroIn K C_NoValue (.type "BaseException") = some true)
    (rhd_NoValue : PySem.W.hasDictIn K C_NoValue = true)
    (rcl_NoValue : PySem.W.findIn K (.ref C_NoValue) "__class__" = some (some (.builtin "object.__class__")))
    (rcg_NoValue : PySem.W.specialIn K (.builtin "object.__class__") "__get__" = some (some (.builtin "getset_descriptor.__get__")))
    (rct_NoValue : PySem.W.takesIn K (.builtin "object.__class__") = some true)
    (rmo_NoValue : PySem.W.mroIn K C_NoValue (.type "object") = some true)
    (x_NoValue : PySem.W.excIn K C_NoValue bmVE "ValueError.__new__" = true)
    (aC_Full : PySem.W.nsIn K mainGlobals "Full" = some (some (.ref C_Full)))
    (kc_Full : PySem.W.keepIn K (.ref C_Full) = true)
    (rga_Full : PySem.W.findIn K (.ref C_Full) "__getattribute__" = some (some (.builtin "BaseException.__getattribute__")))
    (rgn_Full : PySem.W.findIn K (.ref C_Full) "__getattr__" = some none)
    (rmb_Full : PySem.W.mroIn K C_Full (.type "BaseException") = some true)
    (rhd_Full : PySem.W.hasDictIn K C_Full = true)
    (rcl_Full : PySem.W.findIn K (.ref C_Full) "__class__" = some (some (.builtin "object.__class__")))
    (rcg_Full : PySem.W.specialIn K (.builtin "object.__class__") "__get__" = some (some (.builtin "getset_descriptor.__get__")))
    (rct_Full : PySem.W.takesIn K (.builtin "object.__class__") = some true)
    (rmo_Full : PySem.W.mroIn K C_Full (.type "object") = some true)
    (x_Full : PySem.W.excIn K C_Full bmVE "ValueError.__new__" = true)
    (aC_NoRoom : PySem.W.nsIn K mainGlobals "NoRoom" = some (some (.ref C_NoRoom)))
    (kc_NoRoom : PySem.W.keepIn K (.ref C_NoRoom) = true)
    (rga_NoRoom : PySem.W.findIn K (.ref C_NoRoom) "__getattribute__" = some (some (.builtin "BaseException.__getattribute__")))
    (rgn_NoRoom : PySem.W.findIn K (.ref C_NoRoom) "__getattr__" = some none)
    (rmb_NoRoom : PySem.W.mroIn K C_NoRoom (.type "BaseException") = some true)
    (rhd_NoRoom : PySem.W.hasDictIn K C_NoRoom = true)
    (rcl_NoRoom : PySem.W.findIn K (.ref C_NoRoom) "__class__" = some (some (.builtin "object.__class__")))
    (rcg_NoRoom : PySem.W.specialIn K (.builtin "object.__class__") "__get__" = some (some (.builtin "getset_descriptor.__get__")))
    (rct_NoRoom : PySem.W.takesIn K (.builtin "object.__class__") = some true)
    (rmo_NoRoom : PySem.W.mroIn K C_NoRoom (.type "object") = some true)
    (x_NoRoom : PySem.W.excIn K C_NoRoom bmVE "ValueError.__new__" = true)
    (aC_WornOut : PySem.W.nsIn K mainGlobals "WornOut" = some (some (.ref C_WornOut)))
    (kc_WornOut : PySem.W.keepIn K (.ref C_WornOut) = true)
    (rga_WornOut : PySem.W.findIn K (.ref C_WornOut) "__getattribute__" = some (some (.builtin "BaseException.__getattribute__")))
    (rgn_WornOut : PySem.W.findIn K (.ref C_WornOut) "__getattr__" = some none)
    (rmb_WornOut : PySem.W.mroIn K C_WornOut (.type "BaseException") = some true)
    (rhd_WornOut : PySem.W.hasDictIn K C_WornOut = true)
    (rcl_WornOut : PySem.W.findIn K (.ref C_WornOut) "__class__" = some (some (.builtin "object.__class__")))
    (rcg_WornOut : PySem.W.specialIn K (.builtin "object.__class__") "__get__" = some (some (.builtin "getset_descriptor.__get__")))
    (rct_WornOut : PySem.W.takesIn K (.builtin "object.__class__") = some true)
    (rmo_WornOut : PySem.W.mroIn K C_WornOut (.type "object") = some true)
    (x_WornOut : PySem.W.excIn K C_WornOut bmVE "ValueError.__new__" = true)
    (aC_NoRule : PySem.W.nsIn K mainGlobals "NoRule" = some (some (.ref C_NoRule)))
    (kc_NoRule : PySem.W.keepIn K (.ref C_NoRule) = true)
    (rga_NoRule : PySem.W.findIn K (.ref C_NoRule) "__getattribute__" = some (some (.builtin "BaseException.__getattribute__")))
    (rgn_NoRule : PySem.W.findIn K (.ref C_NoRule) "__getattr__" = some none)
    (rmb_NoRule : PySem.W.mroIn K C_NoRule (.type "BaseException") = some true)
    (rhd_NoRule : PySem.W.hasDictIn K C_NoRule = true)
    (rcl_NoRule : PySem.W.findIn K (.ref C_NoRule) "__class__" = some (some (.builtin "object.__class__")))
    (rcg_NoRule : PySem.W.specialIn K (.builtin "object.__class__") "__get__" = some (some (.builtin "getset_descriptor.__get__")))
    (rct_NoRule : PySem.W.takesIn K (.builtin "object.__class__") = some true)
    (rmo_NoRule : PySem.W.mroIn K C_NoRule (.type "object") = some true)
    (x_NoRule : PySem.W.excIn K C_NoRule bmVE "ValueError.__new__" = true)
    (aC_NoRace : PySem.W.nsIn K mainGlobals "NoRace" = some (some (.ref C_NoRace)))
    (kc_NoRace : PySem.W.keepIn K (.ref C_NoRace) = true)
    (rga_NoRace : PySem.W.findIn K (.ref C_NoRace) "__getattribute__" = some (some (.builtin "BaseException.__getattribute__")))
    (rgn_NoRace : PySem.W.findIn K (.ref C_NoRace) "__getattr__" = some none)
    (rmb_NoRace : PySem.W.mroIn K C_NoRace (.type "BaseException") = some true)
    (rhd_NoRace : PySem.W.hasDictIn K C_NoRace = true)
    (rcl_NoRace : PySem.W.findIn K (.ref C_NoRace) "__class__" = some (some (.builtin "object.__class__")))
    (rcg_NoRace : PySem.W.specialIn K (.builtin "object.__class__") "__get__" = some (some (.builtin "getset_descriptor.__get__")))
    (rct_NoRace : PySem.W.takesIn K (.builtin "object.__class__") = some true)
    (rmo_NoRace : PySem.W.mroIn K C_NoRace (.type "object") = some true)
    (x_NoRace : PySem.W.excIn K C_NoRace bmVE "ValueError.__new__" = true)
    (aC_NoPart : PySem.W.nsIn K mainGlobals "NoPart" = some (some (.ref C_NoPart)))
    (kc_NoPart : PySem.W.keepIn K (.ref C_NoPart) = true)
    (rga_NoPart : PySem.W.findIn K (.ref C_NoPart) "__getattribute__" = some (some (.builtin "BaseException.__getattribute__")))
    (rgn_NoPart : PySem.W.findIn K (.ref C_NoPart) "__getattr__" = some none)
    (rmb_NoPart : PySem.W.mroIn K C_NoPart (.type "BaseException") = some true)
    (rhd_NoPart : PySem.W.hasDictIn K C_NoPart = true)
    (rcl_NoPart : PySem.W.findIn K (.ref C_NoPart) "__class__" = some (some (.builtin "object.__class__")))
    (rcg_NoPart : PySem.W.specialIn K (.builtin "object.__class__") "__get__" = some (some (.builtin "getset_descriptor.__get__")))
    (rct_NoPart : PySem.W.takesIn K (.builtin "object.__class__") = some true)
    (rmo_NoPart : PySem.W.mroIn K C_NoPart (.type "object") = some true)
    (x_NoPart : PySem.W.excIn K C_NoPart bmVE "ValueError.__new__" = true)
    (aC_NoRow : PySem.W.nsIn K mainGlobals "NoRow" = some (some (.ref C_NoRow)))
    (kc_NoRow : PySem.W.keepIn K (.ref C_NoRow) = true)
    (rga_NoRow : PySem.W.findIn K (.ref C_NoRow) "__getattribute__" = some (some (.builtin "BaseException.__getattribute__")))
    (rgn_NoRow : PySem.W.findIn K (.ref C_NoRow) "__getattr__" = some none)
    (rmb_NoRow : PySem.W.mroIn K C_NoRow (.type "BaseException") = some true)
    (rhd_NoRow : PySem.W.hasDictIn K C_NoRow = true)
    (rcl_NoRow : PySem.W.findIn K (.ref C_NoRow) "__class__" = some (some (.builtin "object.__class__")))
    (rcg_NoRow : PySem.W.specialIn K (.builtin "object.__class__") "__get__" = some (some (.builtin "getset_descriptor.__get__")))
    (rct_NoRow : PySem.W.takesIn K (.builtin "object.__class__") = some true)
    (rmo_NoRow : PySem.W.mroIn K C_NoRow (.type "object") = some true)
    (x_NoRow : PySem.W.excIn K C_NoRow bmVE "ValueError.__new__" = true)
    (br_WornError : PySem.W.readsIn K C_WornError (.type "type") = true)
    (bf_WornError : PySem.W.findCls K (.ref C_WornError) (.type "type") "__init__" = some (.val (.builtin "ValueError.__init__")))
    (bg_WornError : PySem.W.specialIn K (.ref C_WornError) "__getattribute__" = some (some (.builtin "type.__getattribute__")))
    (xm_WornError_NoChip : PySem.W.exmOne K (.ref C_WornError) (.ref C_NoChip) = some false)
    (xm_WornError_WornError : PySem.W.exmOne K (.ref C_WornError) (.ref C_WornError) = some true)
    (xm_NoChip_NoChip : PySem.W.exmOne K (.ref C_NoChip) (.ref C_NoChip) = some true)
    (xm_NoChip_WornError : PySem.W.exmOne K (.ref C_NoChip) (.ref C_WornError) = some true)
    (xm_NoPlace_NoChip : PySem.W.exmOne K (.ref C_NoPlace) (.ref C_NoChip) = some false)
    (xm_NoPlace_WornError : PySem.W.exmOne K (.ref C_NoPlace) (.ref C_WornError) = some true)
    (xm_PowerGone_NoChip : PySem.W.exmOne K (.ref C_PowerGone) (.ref C_NoChip) = some false)
    (xm_PowerGone_WornError : PySem.W.exmOne K (.ref C_PowerGone) (.ref C_WornError) = some true)
    (xm_BlockFailed_NoChip : PySem.W.exmOne K (.ref C_BlockFailed) (.ref C_NoChip) = some false)
    (xm_BlockFailed_WornError : PySem.W.exmOne K (.ref C_BlockFailed) (.ref C_WornError) = some true)
    (xm_NotClear_NoChip : PySem.W.exmOne K (.ref C_NotClear) (.ref C_NoChip) = some false)
    (xm_NotClear_WornError : PySem.W.exmOne K (.ref C_NotClear) (.ref C_WornError) = some true)
    (xm_NoTerms_NoChip : PySem.W.exmOne K (.ref C_NoTerms) (.ref C_NoChip) = some false)
    (xm_NoTerms_WornError : PySem.W.exmOne K (.ref C_NoTerms) (.ref C_WornError) = some true)
    (xm_NoSheet_NoChip : PySem.W.exmOne K (.ref C_NoSheet) (.ref C_NoChip) = some false)
    (xm_NoSheet_WornError : PySem.W.exmOne K (.ref C_NoSheet) (.ref C_WornError) = some true)
    (xm_NoValue_NoChip : PySem.W.exmOne K (.ref C_NoValue) (.ref C_NoChip) = some false)
    (xm_NoValue_WornError : PySem.W.exmOne K (.ref C_NoValue) (.ref C_WornError) = some true)
    (xm_Full_NoChip : PySem.W.exmOne K (.ref C_Full) (.ref C_NoChip) = some false)
    (xm_Full_WornError : PySem.W.exmOne K (.ref C_Full) (.ref C_WornError) = some true)
    (xm_NoRoom_NoChip : PySem.W.exmOne K (.ref C_NoRoom) (.ref C_NoChip) = some false)
    (xm_NoRoom_WornError : PySem.W.exmOne K (.ref C_NoRoom) (.ref C_WornError) = some true)
    (xm_WornOut_NoChip : PySem.W.exmOne K (.ref C_WornOut) (.ref C_NoChip) = some false)
    (xm_WornOut_WornError : PySem.W.exmOne K (.ref C_WornOut) (.ref C_WornError) = some true)
    (xm_NoRule_NoChip : PySem.W.exmOne K (.ref C_NoRule) (.ref C_NoChip) = some false)
    (xm_NoRule_WornError : PySem.W.exmOne K (.ref C_NoRule) (.ref C_WornError) = some true)
    (xm_NoRace_NoChip : PySem.W.exmOne K (.ref C_NoRace) (.ref C_NoChip) = some false)
    (xm_NoRace_WornError : PySem.W.exmOne K (.ref C_NoRace) (.ref C_WornError) = some true)
    (xm_NoPart_NoChip : PySem.W.exmOne K (.ref C_NoPart) (.ref C_NoChip) = some false)
    (xm_NoPart_WornError : PySem.W.exmOne K (.ref C_NoPart) (.ref C_WornError) = some true)
    (xm_NoRow_NoChip : PySem.W.exmOne K (.ref C_NoRow) (.ref C_NoChip) = some false)
    (xm_NoRow_WornError : PySem.W.exmOne K (.ref C_NoRow) (.ref C_WornError) = some true)
    (xk_WornError_BlockFailed : PySem.W.kitOne K (.ref C_WornError) (.ref C_BlockFailed) = some false)
    (xk_WornError_Full : PySem.W.kitOne K (.ref C_WornError) (.ref C_Full) = some false)
    (xk_WornError_NoChip : PySem.W.kitOne K (.ref C_WornError) (.ref C_NoChip) = some false)
    (xk_WornError_NoPart : PySem.W.kitOne K (.ref C_WornError) (.ref C_NoPart) = some false)
    (xk_WornError_NoPlace : PySem.W.kitOne K (.ref C_WornError) (.ref C_NoPlace) = some false)
    (xk_WornError_NoRace : PySem.W.kitOne K (.ref C_WornError) (.ref C_NoRace) = some false)
    (xk_WornError_NoRoom : PySem.W.kitOne K (.ref C_WornError) (.ref C_NoRoom) = some false)
    (xk_WornError_NoRow : PySem.W.kitOne K (.ref C_WornError) (.ref C_NoRow) = some false)
    (xk_WornError_NoRule : PySem.W.kitOne K (.ref C_WornError) (.ref C_NoRule) = some false)
    (xk_WornError_NoSheet : PySem.W.kitOne K (.ref C_WornError) (.ref C_NoSheet) = some false)
    (xk_WornError_NoTerms : PySem.W.kitOne K (.ref C_WornError) (.ref C_NoTerms) = some false)
    (xk_WornError_NoValue : PySem.W.kitOne K (.ref C_WornError) (.ref C_NoValue) = some false)
    (xk_WornError_NotClear : PySem.W.kitOne K (.ref C_WornError) (.ref C_NotClear) = some false)
    (xk_WornError_PowerGone : PySem.W.kitOne K (.ref C_WornError) (.ref C_PowerGone) = some false)
    (xk_WornError_ValueError : PySem.W.kitOne K (.ref C_WornError) (.type "ValueError") = some true)
    (xk_WornError_WornError : PySem.W.kitOne K (.ref C_WornError) (.ref C_WornError) = some true)
    (xk_WornError_WornOut : PySem.W.kitOne K (.ref C_WornError) (.ref C_WornOut) = some false)
    (xk_NoChip_BlockFailed : PySem.W.kitOne K (.ref C_NoChip) (.ref C_BlockFailed) = some false)
    (xk_NoChip_Full : PySem.W.kitOne K (.ref C_NoChip) (.ref C_Full) = some false)
    (xk_NoChip_NoChip : PySem.W.kitOne K (.ref C_NoChip) (.ref C_NoChip) = some true)
    (xk_NoChip_NoPart : PySem.W.kitOne K (.ref C_NoChip) (.ref C_NoPart) = some false)
    (xk_NoChip_NoPlace : PySem.W.kitOne K (.ref C_NoChip) (.ref C_NoPlace) = some false)
    (xk_NoChip_NoRace : PySem.W.kitOne K (.ref C_NoChip) (.ref C_NoRace) = some false)
    (xk_NoChip_NoRoom : PySem.W.kitOne K (.ref C_NoChip) (.ref C_NoRoom) = some false)
    (xk_NoChip_NoRow : PySem.W.kitOne K (.ref C_NoChip) (.ref C_NoRow) = some false)
    (xk_NoChip_NoRule : PySem.W.kitOne K (.ref C_NoChip) (.ref C_NoRule) = some false)
    (xk_NoChip_NoSheet : PySem.W.kitOne K (.ref C_NoChip) (.ref C_NoSheet) = some false)
    (xk_NoChip_NoTerms : PySem.W.kitOne K (.ref C_NoChip) (.ref C_NoTerms) = some false)
    (xk_NoChip_NoValue : PySem.W.kitOne K (.ref C_NoChip) (.ref C_NoValue) = some false)
    (xk_NoChip_NotClear : PySem.W.kitOne K (.ref C_NoChip) (.ref C_NotClear) = some false)
    (xk_NoChip_PowerGone : PySem.W.kitOne K (.ref C_NoChip) (.ref C_PowerGone) = some false)
    (xk_NoChip_ValueError : PySem.W.kitOne K (.ref C_NoChip) (.type "ValueError") = some true)
    (xk_NoChip_WornError : PySem.W.kitOne K (.ref C_NoChip) (.ref C_WornError) = some true)
    (xk_NoChip_WornOut : PySem.W.kitOne K (.ref C_NoChip) (.ref C_WornOut) = some false)
    (xk_NoPlace_BlockFailed : PySem.W.kitOne K (.ref C_NoPlace) (.ref C_BlockFailed) = some false)
    (xk_NoPlace_Full : PySem.W.kitOne K (.ref C_NoPlace) (.ref C_Full) = some false)
    (xk_NoPlace_NoChip : PySem.W.kitOne K (.ref C_NoPlace) (.ref C_NoChip) = some false)
    (xk_NoPlace_NoPart : PySem.W.kitOne K (.ref C_NoPlace) (.ref C_NoPart) = some false)
    (xk_NoPlace_NoPlace : PySem.W.kitOne K (.ref C_NoPlace) (.ref C_NoPlace) = some true)
    (xk_NoPlace_NoRace : PySem.W.kitOne K (.ref C_NoPlace) (.ref C_NoRace) = some false)
    (xk_NoPlace_NoRoom : PySem.W.kitOne K (.ref C_NoPlace) (.ref C_NoRoom) = some false)
    (xk_NoPlace_NoRow : PySem.W.kitOne K (.ref C_NoPlace) (.ref C_NoRow) = some false)
    (xk_NoPlace_NoRule : PySem.W.kitOne K (.ref C_NoPlace) (.ref C_NoRule) = some false)
    (xk_NoPlace_NoSheet : PySem.W.kitOne K (.ref C_NoPlace) (.ref C_NoSheet) = some false)
    (xk_NoPlace_NoTerms : PySem.W.kitOne K (.ref C_NoPlace) (.ref C_NoTerms) = some false)
    (xk_NoPlace_NoValue : PySem.W.kitOne K (.ref C_NoPlace) (.ref C_NoValue) = some false)
    (xk_NoPlace_NotClear : PySem.W.kitOne K (.ref C_NoPlace) (.ref C_NotClear) = some false)
    (xk_NoPlace_PowerGone : PySem.W.kitOne K (.ref C_NoPlace) (.ref C_PowerGone) = some false)
    (xk_NoPlace_ValueError : PySem.W.kitOne K (.ref C_NoPlace) (.type "ValueError") = some true)
    (xk_NoPlace_WornError : PySem.W.kitOne K (.ref C_NoPlace) (.ref C_WornError) = some true)
    (xk_NoPlace_WornOut : PySem.W.kitOne K (.ref C_NoPlace) (.ref C_WornOut) = some false)
    (xk_PowerGone_BlockFailed : PySem.W.kitOne K (.ref C_PowerGone) (.ref C_BlockFailed) = some false)
    (xk_PowerGone_Full : PySem.W.kitOne K (.ref C_PowerGone) (.ref C_Full) = some false)
    (xk_PowerGone_NoChip : PySem.W.kitOne K (.ref C_PowerGone) (.ref C_NoChip) = some false)
    (xk_PowerGone_NoPart : PySem.W.kitOne K (.ref C_PowerGone) (.ref C_NoPart) = some false)
    (xk_PowerGone_NoPlace : PySem.W.kitOne K (.ref C_PowerGone) (.ref C_NoPlace) = some false)
    (xk_PowerGone_NoRace : PySem.W.kitOne K (.ref C_PowerGone) (.ref C_NoRace) = some false)
    (xk_PowerGone_NoRoom : PySem.W.kitOne K (.ref C_PowerGone) (.ref C_NoRoom) = some false)
    (xk_PowerGone_NoRow : PySem.W.kitOne K (.ref C_PowerGone) (.ref C_NoRow) = some false)
    (xk_PowerGone_NoRule : PySem.W.kitOne K (.ref C_PowerGone) (.ref C_NoRule) = some false)
    (xk_PowerGone_NoSheet : PySem.W.kitOne K (.ref C_PowerGone) (.ref C_NoSheet) = some false)
    (xk_PowerGone_NoTerms : PySem.W.kitOne K (.ref C_PowerGone) (.ref C_NoTerms) = some false)
    (xk_PowerGone_NoValue : PySem.W.kitOne K (.ref C_PowerGone) (.ref C_NoValue) = some false)
    (xk_PowerGone_NotClear : PySem.W.kitOne K (.ref C_PowerGone) (.ref C_NotClear) = some false)
    (xk_PowerGone_PowerGone : PySem.W.kitOne K (.ref C_PowerGone) (.ref C_PowerGone) = some true)
    (xk_PowerGone_ValueError : PySem.W.kitOne K (.ref C_PowerGone) (.type "ValueError") = some true)
    (xk_PowerGone_WornError : PySem.W.kitOne K (.ref C_PowerGone) (.ref C_WornError) = some true)
    (xk_PowerGone_WornOut : PySem.W.kitOne K (.ref C_PowerGone) (.ref C_WornOut) = some false)
    (xk_BlockFailed_BlockFailed : PySem.W.kitOne K (.ref C_BlockFailed) (.ref C_BlockFailed) = some true)
    (xk_BlockFailed_Full : PySem.W.kitOne K (.ref C_BlockFailed) (.ref C_Full) = some false)
    (xk_BlockFailed_NoChip : PySem.W.kitOne K (.ref C_BlockFailed) (.ref C_NoChip) = some false)
    (xk_BlockFailed_NoPart : PySem.W.kitOne K (.ref C_BlockFailed) (.ref C_NoPart) = some false)
    (xk_BlockFailed_NoPlace : PySem.W.kitOne K (.ref C_BlockFailed) (.ref C_NoPlace) = some false)
    (xk_BlockFailed_NoRace : PySem.W.kitOne K (.ref C_BlockFailed) (.ref C_NoRace) = some false)
    (xk_BlockFailed_NoRoom : PySem.W.kitOne K (.ref C_BlockFailed) (.ref C_NoRoom) = some false)
    (xk_BlockFailed_NoRow : PySem.W.kitOne K (.ref C_BlockFailed) (.ref C_NoRow) = some false)
    (xk_BlockFailed_NoRule : PySem.W.kitOne K (.ref C_BlockFailed) (.ref C_NoRule) = some false)
    (xk_BlockFailed_NoSheet : PySem.W.kitOne K (.ref C_BlockFailed) (.ref C_NoSheet) = some false)
    (xk_BlockFailed_NoTerms : PySem.W.kitOne K (.ref C_BlockFailed) (.ref C_NoTerms) = some false)
    (xk_BlockFailed_NoValue : PySem.W.kitOne K (.ref C_BlockFailed) (.ref C_NoValue) = some false)
    (xk_BlockFailed_NotClear : PySem.W.kitOne K (.ref C_BlockFailed) (.ref C_NotClear) = some false)
    (xk_BlockFailed_PowerGone : PySem.W.kitOne K (.ref C_BlockFailed) (.ref C_PowerGone) = some false)
    (xk_BlockFailed_ValueError : PySem.W.kitOne K (.ref C_BlockFailed) (.type "ValueError") = some true)
    (xk_BlockFailed_WornError : PySem.W.kitOne K (.ref C_BlockFailed) (.ref C_WornError) = some true)
    (xk_BlockFailed_WornOut : PySem.W.kitOne K (.ref C_BlockFailed) (.ref C_WornOut) = some false)
    (xk_NotClear_BlockFailed : PySem.W.kitOne K (.ref C_NotClear) (.ref C_BlockFailed) = some false)
    (xk_NotClear_Full : PySem.W.kitOne K (.ref C_NotClear) (.ref C_Full) = some false)
    (xk_NotClear_NoChip : PySem.W.kitOne K (.ref C_NotClear) (.ref C_NoChip) = some false)
    (xk_NotClear_NoPart : PySem.W.kitOne K (.ref C_NotClear) (.ref C_NoPart) = some false)
    (xk_NotClear_NoPlace : PySem.W.kitOne K (.ref C_NotClear) (.ref C_NoPlace) = some false)
    (xk_NotClear_NoRace : PySem.W.kitOne K (.ref C_NotClear) (.ref C_NoRace) = some false)
    (xk_NotClear_NoRoom : PySem.W.kitOne K (.ref C_NotClear) (.ref C_NoRoom) = some false)
    (xk_NotClear_NoRow : PySem.W.kitOne K (.ref C_NotClear) (.ref C_NoRow) = some false)
    (xk_NotClear_NoRule : PySem.W.kitOne K (.ref C_NotClear) (.ref C_NoRule) = some false)
    (xk_NotClear_NoSheet : PySem.W.kitOne K (.ref C_NotClear) (.ref C_NoSheet) = some false)
    (xk_NotClear_NoTerms : PySem.W.kitOne K (.ref C_NotClear) (.ref C_NoTerms) = some false)
    (xk_NotClear_NoValue : PySem.W.kitOne K (.ref C_NotClear) (.ref C_NoValue) = some false)
    (xk_NotClear_NotClear : PySem.W.kitOne K (.ref C_NotClear) (.ref C_NotClear) = some true)
    (xk_NotClear_PowerGone : PySem.W.kitOne K (.ref C_NotClear) (.ref C_PowerGone) = some false)
    (xk_NotClear_ValueError : PySem.W.kitOne K (.ref C_NotClear) (.type "ValueError") = some true)
    (xk_NotClear_WornError : PySem.W.kitOne K (.ref C_NotClear) (.ref C_WornError) = some true)
    (xk_NotClear_WornOut : PySem.W.kitOne K (.ref C_NotClear) (.ref C_WornOut) = some false)
    (xk_NoTerms_BlockFailed : PySem.W.kitOne K (.ref C_NoTerms) (.ref C_BlockFailed) = some false)
    (xk_NoTerms_Full : PySem.W.kitOne K (.ref C_NoTerms) (.ref C_Full) = some false)
    (xk_NoTerms_NoChip : PySem.W.kitOne K (.ref C_NoTerms) (.ref C_NoChip) = some false)
    (xk_NoTerms_NoPart : PySem.W.kitOne K (.ref C_NoTerms) (.ref C_NoPart) = some false)
    (xk_NoTerms_NoPlace : PySem.W.kitOne K (.ref C_NoTerms) (.ref C_NoPlace) = some false)
    (xk_NoTerms_NoRace : PySem.W.kitOne K (.ref C_NoTerms) (.ref C_NoRace) = some false)
    (xk_NoTerms_NoRoom : PySem.W.kitOne K (.ref C_NoTerms) (.ref C_NoRoom) = some false)
    (xk_NoTerms_NoRow : PySem.W.kitOne K (.ref C_NoTerms) (.ref C_NoRow) = some false)
    (xk_NoTerms_NoRule : PySem.W.kitOne K (.ref C_NoTerms) (.ref C_NoRule) = some false)
    (xk_NoTerms_NoSheet : PySem.W.kitOne K (.ref C_NoTerms) (.ref C_NoSheet) = some false)
    (xk_NoTerms_NoTerms : PySem.W.kitOne K (.ref C_NoTerms) (.ref C_NoTerms) = some true)
    (xk_NoTerms_NoValue : PySem.W.kitOne K (.ref C_NoTerms) (.ref C_NoValue) = some false)
    (xk_NoTerms_NotClear : PySem.W.kitOne K (.ref C_NoTerms) (.ref C_NotClear) = some false)
    (xk_NoTerms_PowerGone : PySem.W.kitOne K (.ref C_NoTerms) (.ref C_PowerGone) = some false)
    (xk_NoTerms_ValueError : PySem.W.kitOne K (.ref C_NoTerms) (.type "ValueError") = some true)
    (xk_NoTerms_WornError : PySem.W.kitOne K (.ref C_NoTerms) (.ref C_WornError) = some true)
    (xk_NoTerms_WornOut : PySem.W.kitOne K (.ref C_NoTerms) (.ref C_WornOut) = some false)
    (xk_NoSheet_BlockFailed : PySem.W.kitOne K (.ref C_NoSheet) (.ref C_BlockFailed) = some false)
    (xk_NoSheet_Full : PySem.W.kitOne K (.ref C_NoSheet) (.ref C_Full) = some false)
    (xk_NoSheet_NoChip : PySem.W.kitOne K (.ref C_NoSheet) (.ref C_NoChip) = some false)
    (xk_NoSheet_NoPart : PySem.W.kitOne K (.ref C_NoSheet) (.ref C_NoPart) = some false)
    (xk_NoSheet_NoPlace : PySem.W.kitOne K (.ref C_NoSheet) (.ref C_NoPlace) = some false)
    (xk_NoSheet_NoRace : PySem.W.kitOne K (.ref C_NoSheet) (.ref C_NoRace) = some false)
    (xk_NoSheet_NoRoom : PySem.W.kitOne K (.ref C_NoSheet) (.ref C_NoRoom) = some false)
    (xk_NoSheet_NoRow : PySem.W.kitOne K (.ref C_NoSheet) (.ref C_NoRow) = some false)
    (xk_NoSheet_NoRule : PySem.W.kitOne K (.ref C_NoSheet) (.ref C_NoRule) = some false)
    (xk_NoSheet_NoSheet : PySem.W.kitOne K (.ref C_NoSheet) (.ref C_NoSheet) = some true)
    (xk_NoSheet_NoTerms : PySem.W.kitOne K (.ref C_NoSheet) (.ref C_NoTerms) = some false)
    (xk_NoSheet_NoValue : PySem.W.kitOne K (.ref C_NoSheet) (.ref C_NoValue) = some false)
    (xk_NoSheet_NotClear : PySem.W.kitOne K (.ref C_NoSheet) (.ref C_NotClear) = some false)
    (xk_NoSheet_PowerGone : PySem.W.kitOne K (.ref C_NoSheet) (.ref C_PowerGone) = some false)
    (xk_NoSheet_ValueError : PySem.W.kitOne K (.ref C_NoSheet) (.type "ValueError") = some true)
    (xk_NoSheet_WornError : PySem.W.kitOne K (.ref C_NoSheet) (.ref C_WornError) = some true)
    (xk_NoSheet_WornOut : PySem.W.kitOne K (.ref C_NoSheet) (.ref C_WornOut) = some false)
    (xk_NoValue_BlockFailed : PySem.W.kitOne K (.ref C_NoValue) (.ref C_BlockFailed) = some false)
    (xk_NoValue_Full : PySem.W.kitOne K (.ref C_NoValue) (.ref C_Full) = some false)
    (xk_NoValue_NoChip : PySem.W.kitOne K (.ref C_NoValue) (.ref C_NoChip) = some false)
    (xk_NoValue_NoPart : PySem.W.kitOne K (.ref C_NoValue) (.ref C_NoPart) = some false)
    (xk_NoValue_NoPlace : PySem.W.kitOne K (.ref C_NoValue) (.ref C_NoPlace) = some false)
    (xk_NoValue_NoRace : PySem.W.kitOne K (.ref C_NoValue) (.ref C_NoRace) = some false)
    (xk_NoValue_NoRoom : PySem.W.kitOne K (.ref C_NoValue) (.ref C_NoRoom) = some false)
    (xk_NoValue_NoRow : PySem.W.kitOne K (.ref C_NoValue) (.ref C_NoRow) = some false)
    (xk_NoValue_NoRule : PySem.W.kitOne K (.ref C_NoValue) (.ref C_NoRule) = some false)
    (xk_NoValue_NoSheet : PySem.W.kitOne K (.ref C_NoValue) (.ref C_NoSheet) = some false)
    (xk_NoValue_NoTerms : PySem.W.kitOne K (.ref C_NoValue) (.ref C_NoTerms) = some false)
    (xk_NoValue_NoValue : PySem.W.kitOne K (.ref C_NoValue) (.ref C_NoValue) = some true)
    (xk_NoValue_NotClear : PySem.W.kitOne K (.ref C_NoValue) (.ref C_NotClear) = some false)
    (xk_NoValue_PowerGone : PySem.W.kitOne K (.ref C_NoValue) (.ref C_PowerGone) = some false)
    (xk_NoValue_ValueError : PySem.W.kitOne K (.ref C_NoValue) (.type "ValueError") = some true)
    (xk_NoValue_WornError : PySem.W.kitOne K (.ref C_NoValue) (.ref C_WornError) = some true)
    (xk_NoValue_WornOut : PySem.W.kitOne K (.ref C_NoValue) (.ref C_WornOut) = some false)
    (xk_Full_BlockFailed : PySem.W.kitOne K (.ref C_Full) (.ref C_BlockFailed) = some false)
    (xk_Full_Full : PySem.W.kitOne K (.ref C_Full) (.ref C_Full) = some true)
    (xk_Full_NoChip : PySem.W.kitOne K (.ref C_Full) (.ref C_NoChip) = some false)
    (xk_Full_NoPart : PySem.W.kitOne K (.ref C_Full) (.ref C_NoPart) = some false)
    (xk_Full_NoPlace : PySem.W.kitOne K (.ref C_Full) (.ref C_NoPlace) = some false)
    (xk_Full_NoRace : PySem.W.kitOne K (.ref C_Full) (.ref C_NoRace) = some false)
    (xk_Full_NoRoom : PySem.W.kitOne K (.ref C_Full) (.ref C_NoRoom) = some false)
    (xk_Full_NoRow : PySem.W.kitOne K (.ref C_Full) (.ref C_NoRow) = some false)
    (xk_Full_NoRule : PySem.W.kitOne K (.ref C_Full) (.ref C_NoRule) = some false)
    (xk_Full_NoSheet : PySem.W.kitOne K (.ref C_Full) (.ref C_NoSheet) = some false)
    (xk_Full_NoTerms : PySem.W.kitOne K (.ref C_Full) (.ref C_NoTerms) = some false)
    (xk_Full_NoValue : PySem.W.kitOne K (.ref C_Full) (.ref C_NoValue) = some false)
    (xk_Full_NotClear : PySem.W.kitOne K (.ref C_Full) (.ref C_NotClear) = some false)
    (xk_Full_PowerGone : PySem.W.kitOne K (.ref C_Full) (.ref C_PowerGone) = some false)
    (xk_Full_ValueError : PySem.W.kitOne K (.ref C_Full) (.type "ValueError") = some true)
    (xk_Full_WornError : PySem.W.kitOne K (.ref C_Full) (.ref C_WornError) = some true)
    (xk_Full_WornOut : PySem.W.kitOne K (.ref C_Full) (.ref C_WornOut) = some false)
    (xk_NoRoom_BlockFailed : PySem.W.kitOne K (.ref C_NoRoom) (.ref C_BlockFailed) = some false)
    (xk_NoRoom_Full : PySem.W.kitOne K (.ref C_NoRoom) (.ref C_Full) = some false)
    (xk_NoRoom_NoChip : PySem.W.kitOne K (.ref C_NoRoom) (.ref C_NoChip) = some false)
    (xk_NoRoom_NoPart : PySem.W.kitOne K (.ref C_NoRoom) (.ref C_NoPart) = some false)
    (xk_NoRoom_NoPlace : PySem.W.kitOne K (.ref C_NoRoom) (.ref C_NoPlace) = some false)
    (xk_NoRoom_NoRace : PySem.W.kitOne K (.ref C_NoRoom) (.ref C_NoRace) = some false)
    (xk_NoRoom_NoRoom : PySem.W.kitOne K (.ref C_NoRoom) (.ref C_NoRoom) = some true)
    (xk_NoRoom_NoRow : PySem.W.kitOne K (.ref C_NoRoom) (.ref C_NoRow) = some false)
    (xk_NoRoom_NoRule : PySem.W.kitOne K (.ref C_NoRoom) (.ref C_NoRule) = some false)
    (xk_NoRoom_NoSheet : PySem.W.kitOne K (.ref C_NoRoom) (.ref C_NoSheet) = some false)
    (xk_NoRoom_NoTerms : PySem.W.kitOne K (.ref C_NoRoom) (.ref C_NoTerms) = some false)
    (xk_NoRoom_NoValue : PySem.W.kitOne K (.ref C_NoRoom) (.ref C_NoValue) = some false)
    (xk_NoRoom_NotClear : PySem.W.kitOne K (.ref C_NoRoom) (.ref C_NotClear) = some false)
    (xk_NoRoom_PowerGone : PySem.W.kitOne K (.ref C_NoRoom) (.ref C_PowerGone) = some false)
    (xk_NoRoom_ValueError : PySem.W.kitOne K (.ref C_NoRoom) (.type "ValueError") = some true)
    (xk_NoRoom_WornError : PySem.W.kitOne K (.ref C_NoRoom) (.ref C_WornError) = some true)
    (xk_NoRoom_WornOut : PySem.W.kitOne K (.ref C_NoRoom) (.ref C_WornOut) = some false)
    (xk_WornOut_BlockFailed : PySem.W.kitOne K (.ref C_WornOut) (.ref C_BlockFailed) = some false)
    (xk_WornOut_Full : PySem.W.kitOne K (.ref C_WornOut) (.ref C_Full) = some false)
    (xk_WornOut_NoChip : PySem.W.kitOne K (.ref C_WornOut) (.ref C_NoChip) = some false)
    (xk_WornOut_NoPart : PySem.W.kitOne K (.ref C_WornOut) (.ref C_NoPart) = some false)
    (xk_WornOut_NoPlace : PySem.W.kitOne K (.ref C_WornOut) (.ref C_NoPlace) = some false)
    (xk_WornOut_NoRace : PySem.W.kitOne K (.ref C_WornOut) (.ref C_NoRace) = some false)
    (xk_WornOut_NoRoom : PySem.W.kitOne K (.ref C_WornOut) (.ref C_NoRoom) = some false)
    (xk_WornOut_NoRow : PySem.W.kitOne K (.ref C_WornOut) (.ref C_NoRow) = some false)
    (xk_WornOut_NoRule : PySem.W.kitOne K (.ref C_WornOut) (.ref C_NoRule) = some false)
    (xk_WornOut_NoSheet : PySem.W.kitOne K (.ref C_WornOut) (.ref C_NoSheet) = some false)
    (xk_WornOut_NoTerms : PySem.W.kitOne K (.ref C_WornOut) (.ref C_NoTerms) = some false)
    (xk_WornOut_NoValue : PySem.W.kitOne K (.ref C_WornOut) (.ref C_NoValue) = some false)
    (xk_WornOut_NotClear : PySem.W.kitOne K (.ref C_WornOut) (.ref C_NotClear) = some false)
    (xk_WornOut_PowerGone : PySem.W.kitOne K (.ref C_WornOut) (.ref C_PowerGone) = some false)
    (xk_WornOut_ValueError : PySem.W.kitOne K (.ref C_WornOut) (.type "ValueError") = some true)
    (xk_WornOut_WornError : PySem.W.kitOne K (.ref C_WornOut) (.ref C_WornError) = some true)
    (xk_WornOut_WornOut : PySem.W.kitOne K (.ref C_WornOut) (.ref C_WornOut) = some true)
    (xk_NoRule_BlockFailed : PySem.W.kitOne K (.ref C_NoRule) (.ref C_BlockFailed) = some false)
    (xk_NoRule_Full : PySem.W.kitOne K (.ref C_NoRule) (.ref C_Full) = some false)
    (xk_NoRule_NoChip : PySem.W.kitOne K (.ref C_NoRule) (.ref C_NoChip) = some false)
    (xk_NoRule_NoPart : PySem.W.kitOne K (.ref C_NoRule) (.ref C_NoPart) = some false)
    (xk_NoRule_NoPlace : PySem.W.kitOne K (.ref C_NoRule) (.ref C_NoPlace) = some false)
    (xk_NoRule_NoRace : PySem.W.kitOne K (.ref C_NoRule) (.ref C_NoRace) = some false)
    (xk_NoRule_NoRoom : PySem.W.kitOne K (.ref C_NoRule) (.ref C_NoRoom) = some false)
    (xk_NoRule_NoRow : PySem.W.kitOne K (.ref C_NoRule) (.ref C_NoRow) = some false)
    (xk_NoRule_NoRule : PySem.W.kitOne K (.ref C_NoRule) (.ref C_NoRule) = some true)
    (xk_NoRule_NoSheet : PySem.W.kitOne K (.ref C_NoRule) (.ref C_NoSheet) = some false)
    (xk_NoRule_NoTerms : PySem.W.kitOne K (.ref C_NoRule) (.ref C_NoTerms) = some false)
    (xk_NoRule_NoValue : PySem.W.kitOne K (.ref C_NoRule) (.ref C_NoValue) = some false)
    (xk_NoRule_NotClear : PySem.W.kitOne K (.ref C_NoRule) (.ref C_NotClear) = some false)
    (xk_NoRule_PowerGone : PySem.W.kitOne K (.ref C_NoRule) (.ref C_PowerGone) = some false)
    (xk_NoRule_ValueError : PySem.W.kitOne K (.ref C_NoRule) (.type "ValueError") = some true)
    (xk_NoRule_WornError : PySem.W.kitOne K (.ref C_NoRule) (.ref C_WornError) = some true)
    (xk_NoRule_WornOut : PySem.W.kitOne K (.ref C_NoRule) (.ref C_WornOut) = some false)
    (xk_NoRace_BlockFailed : PySem.W.kitOne K (.ref C_NoRace) (.ref C_BlockFailed) = some false)
    (xk_NoRace_Full : PySem.W.kitOne K (.ref C_NoRace) (.ref C_Full) = some false)
    (xk_NoRace_NoChip : PySem.W.kitOne K (.ref C_NoRace) (.ref C_NoChip) = some false)
    (xk_NoRace_NoPart : PySem.W.kitOne K (.ref C_NoRace) (.ref C_NoPart) = some false)
    (xk_NoRace_NoPlace : PySem.W.kitOne K (.ref C_NoRace) (.ref C_NoPlace) = some false)
    (xk_NoRace_NoRace : PySem.W.kitOne K (.ref C_NoRace) (.ref C_NoRace) = some true)
    (xk_NoRace_NoRoom : PySem.W.kitOne K (.ref C_NoRace) (.ref C_NoRoom) = some false)
    (xk_NoRace_NoRow : PySem.W.kitOne K (.ref C_NoRace) (.ref C_NoRow) = some false)
    (xk_NoRace_NoRule : PySem.W.kitOne K (.ref C_NoRace) (.ref C_NoRule) = some false)
    (xk_NoRace_NoSheet : PySem.W.kitOne K (.ref C_NoRace) (.ref C_NoSheet) = some false)
    (xk_NoRace_NoTerms : PySem.W.kitOne K (.ref C_NoRace) (.ref C_NoTerms) = some false)
    (xk_NoRace_NoValue : PySem.W.kitOne K (.ref C_NoRace) (.ref C_NoValue) = some false)
    (xk_NoRace_NotClear : PySem.W.kitOne K (.ref C_NoRace) (.ref C_NotClear) = some false)
    (xk_NoRace_PowerGone : PySem.W.kitOne K (.ref C_NoRace) (.ref C_PowerGone) = some false)
    (xk_NoRace_ValueError : PySem.W.kitOne K (.ref C_NoRace) (.type "ValueError") = some true)
    (xk_NoRace_WornError : PySem.W.kitOne K (.ref C_NoRace) (.ref C_WornError) = some true)
    (xk_NoRace_WornOut : PySem.W.kitOne K (.ref C_NoRace) (.ref C_WornOut) = some false)
    (xk_NoPart_BlockFailed : PySem.W.kitOne K (.ref C_NoPart) (.ref C_BlockFailed) = some false)
    (xk_NoPart_Full : PySem.W.kitOne K (.ref C_NoPart) (.ref C_Full) = some false)
    (xk_NoPart_NoChip : PySem.W.kitOne K (.ref C_NoPart) (.ref C_NoChip) = some false)
    (xk_NoPart_NoPart : PySem.W.kitOne K (.ref C_NoPart) (.ref C_NoPart) = some true)
    (xk_NoPart_NoPlace : PySem.W.kitOne K (.ref C_NoPart) (.ref C_NoPlace) = some false)
    (xk_NoPart_NoRace : PySem.W.kitOne K (.ref C_NoPart) (.ref C_NoRace) = some false)
    (xk_NoPart_NoRoom : PySem.W.kitOne K (.ref C_NoPart) (.ref C_NoRoom) = some false)
    (xk_NoPart_NoRow : PySem.W.kitOne K (.ref C_NoPart) (.ref C_NoRow) = some false)
    (xk_NoPart_NoRule : PySem.W.kitOne K (.ref C_NoPart) (.ref C_NoRule) = some false)
    (xk_NoPart_NoSheet : PySem.W.kitOne K (.ref C_NoPart) (.ref C_NoSheet) = some false)
    (xk_NoPart_NoTerms : PySem.W.kitOne K (.ref C_NoPart) (.ref C_NoTerms) = some false)
    (xk_NoPart_NoValue : PySem.W.kitOne K (.ref C_NoPart) (.ref C_NoValue) = some false)
    (xk_NoPart_NotClear : PySem.W.kitOne K (.ref C_NoPart) (.ref C_NotClear) = some false)
    (xk_NoPart_PowerGone : PySem.W.kitOne K (.ref C_NoPart) (.ref C_PowerGone) = some false)
    (xk_NoPart_ValueError : PySem.W.kitOne K (.ref C_NoPart) (.type "ValueError") = some true)
    (xk_NoPart_WornError : PySem.W.kitOne K (.ref C_NoPart) (.ref C_WornError) = some true)
    (xk_NoPart_WornOut : PySem.W.kitOne K (.ref C_NoPart) (.ref C_WornOut) = some false)
    (xk_NoRow_BlockFailed : PySem.W.kitOne K (.ref C_NoRow) (.ref C_BlockFailed) = some false)
    (xk_NoRow_Full : PySem.W.kitOne K (.ref C_NoRow) (.ref C_Full) = some false)
    (xk_NoRow_NoChip : PySem.W.kitOne K (.ref C_NoRow) (.ref C_NoChip) = some false)
    (xk_NoRow_NoPart : PySem.W.kitOne K (.ref C_NoRow) (.ref C_NoPart) = some false)
    (xk_NoRow_NoPlace : PySem.W.kitOne K (.ref C_NoRow) (.ref C_NoPlace) = some false)
    (xk_NoRow_NoRace : PySem.W.kitOne K (.ref C_NoRow) (.ref C_NoRace) = some false)
    (xk_NoRow_NoRoom : PySem.W.kitOne K (.ref C_NoRow) (.ref C_NoRoom) = some false)
    (xk_NoRow_NoRow : PySem.W.kitOne K (.ref C_NoRow) (.ref C_NoRow) = some true)
    (xk_NoRow_NoRule : PySem.W.kitOne K (.ref C_NoRow) (.ref C_NoRule) = some false)
    (xk_NoRow_NoSheet : PySem.W.kitOne K (.ref C_NoRow) (.ref C_NoSheet) = some false)
    (xk_NoRow_NoTerms : PySem.W.kitOne K (.ref C_NoRow) (.ref C_NoTerms) = some false)
    (xk_NoRow_NoValue : PySem.W.kitOne K (.ref C_NoRow) (.ref C_NoValue) = some false)
    (xk_NoRow_NotClear : PySem.W.kitOne K (.ref C_NoRow) (.ref C_NotClear) = some false)
    (xk_NoRow_PowerGone : PySem.W.kitOne K (.ref C_NoRow) (.ref C_PowerGone) = some false)
    (xk_NoRow_ValueError : PySem.W.kitOne K (.ref C_NoRow) (.type "ValueError") = some true)
    (xk_NoRow_WornError : PySem.W.kitOne K (.ref C_NoRow) (.ref C_WornError) = some true)
    (xk_NoRow_WornOut : PySem.W.kitOne K (.ref C_NoRow) (.ref C_WornOut) = some false)
    (a_is_whole : PySem.W.nsIn K mainGlobals "is_whole" = some (some (.ref f_is_whole)))
    (k_is_whole : PySem.W.keepIn K (.ref f_is_whole) = true)
    (a_is_within : PySem.W.nsIn K mainGlobals "is_within" = some (some (.ref f_is_within)))
    (k_is_within : PySem.W.keepIn K (.ref f_is_within) = true)
    (a_is_shape : PySem.W.nsIn K mainGlobals "is_shape" = some (some (.ref f_is_shape)))
    (k_is_shape : PySem.W.keepIn K (.ref f_is_shape) = true)
    (a_limits_of : PySem.W.nsIn K mainGlobals "limits_of" = some (some (.ref f_limits_of)))
    (k_limits_of : PySem.W.keepIn K (.ref f_limits_of) = true)
    (a_law_cell_at : PySem.W.nsIn K mainGlobals "_law_cell_at" = some (some (.ref f_law_cell_at)))
    (k_law_cell_at : PySem.W.keepIn K (.ref f_law_cell_at) = true)
    (a_law_all : PySem.W.nsIn K mainGlobals "_law_all" = some (some (.ref f_law_all)))
    (k_law_all : PySem.W.keepIn K (.ref f_law_all) = true)
    (a_law_of : PySem.W.nsIn K mainGlobals "_law_of" = some (some (.ref f_law_of)))
    (k_law_of : PySem.W.keepIn K (.ref f_law_of) = true)
    (a_law_classes : PySem.W.nsIn K mainGlobals "_law_classes" = some (some (.ref f_law_classes)))
    (k_law_classes : PySem.W.keepIn K (.ref f_law_classes) = true)
    (a_law_asked : PySem.W.nsIn K mainGlobals "_law_asked" = some (some (.ref f_law_asked)))
    (k_law_asked : PySem.W.keepIn K (.ref f_law_asked) = true)
    (a_law_due : PySem.W.nsIn K mainGlobals "_law_due" = some (some (.ref f_law_due)))
    (k_law_due : PySem.W.keepIn K (.ref f_law_due) = true)
    (a_law_no_chip : PySem.W.nsIn K mainGlobals "_law_no_chip" = some (some (.ref f_law_no_chip)))
    (k_law_no_chip : PySem.W.keepIn K (.ref f_law_no_chip) = true)
    (g_MOST_TOLD : PySem.W.nsIn K mainGlobals "MOST_TOLD" = some (some (.int 1000000 tk_MOST_TOLD)))
    (z_ValueError : PySem.W.nsIn K mainGlobals "ValueError" = some none)
    (z_bool : PySem.W.nsIn K mainGlobals "bool" = some none)
    (z_int : PySem.W.nsIn K mainGlobals "int" = some none)
    (z_isinstance : PySem.W.nsIn K mainGlobals "isinstance" = some none)
    (z_len : PySem.W.nsIn K mainGlobals "len" = some none)
    (z_list : PySem.W.nsIn K mainGlobals "list" = some none)
    (z_range : PySem.W.nsIn K mainGlobals "range" = some none)
    (k_BlockFailed_init : PySem.W.isFn K (.ref f_BlockFailed_init) = true)
    (l_BlockFailed_init : K.lookup f_BlockFailed_init = some ⟨oc_BlockFailed_init, od_BlockFailed_init, .func (PySem.W.fnOf "__init__" "BlockFailed.__init__" (defArgs s_BlockFailed_init) (defBody s_BlockFailed_init) (defScope s_BlockFailed_init) .none kV_BlockFailed_init dc_BlockFailed_init pm_BlockFailed_init an_BlockFailed_init cd_BlockFailed_init ct_BlockFailed_init), sl_BlockFailed_init⟩)
    (c_BlockFailed_init : PySem.W.codeIn K cd_BlockFailed_init "BlockFailed.__init__" = true)
    (k_NotClear_init : PySem.W.isFn K (.ref f_NotClear_init) = true)
    (l_NotClear_init : K.lookup f_NotClear_init = some ⟨oc_NotClear_init, od_NotClear_init, .func (PySem.W.fnOf "__init__" "NotClear.__init__" (defArgs s_NotClear_init) (defBody s_NotClear_init) (defScope s_NotClear_init) .none kV_NotClear_init dc_NotClear_init pm_NotClear_init an_NotClear_init cd_NotClear_init ct_NotClear_init), sl_NotClear_init⟩)
    (c_NotClear_init : PySem.W.codeIn K cd_NotClear_init "NotClear.__init__" = true)
    (l_is_whole : K.lookup f_is_whole = some ⟨oc_is_whole, od_is_whole, .func (PySem.W.fnOf "is_whole" "is_whole" (defArgs s_is_whole) (defBody s_is_whole) (defScope s_is_whole) .none kV_is_whole dc_is_whole pm_is_whole an_is_whole cd_is_whole ct_is_whole), sl_is_whole⟩)
    (c_is_whole : PySem.W.codeIn K cd_is_whole "is_whole" = true)
    (l_is_within : K.lookup f_is_within = some ⟨oc_is_within, od_is_within, .func (PySem.W.fnOf "is_within" "is_within" (defArgs s_is_within) (defBody s_is_within) (defScope s_is_within) .none kV_is_within dc_is_within pm_is_within an_is_within cd_is_within ct_is_within), sl_is_within⟩)
    (c_is_within : PySem.W.codeIn K cd_is_within "is_within" = true)
    (l_is_shape : K.lookup f_is_shape = some ⟨oc_is_shape, od_is_shape, .func (PySem.W.fnOf "is_shape" "is_shape" (defArgs s_is_shape) (defBody s_is_shape) (defScope s_is_shape) .none kV_is_shape dc_is_shape pm_is_shape an_is_shape cd_is_shape ct_is_shape), sl_is_shape⟩)
    (c_is_shape : PySem.W.codeIn K cd_is_shape "is_shape" = true)
    (l_limits_of : K.lookup f_limits_of = some ⟨oc_limits_of, od_limits_of, .func (PySem.W.fnOf "limits_of" "limits_of" (defArgs s_limits_of) (defBody s_limits_of) (defScope s_limits_of) .none kV_limits_of dc_limits_of pm_limits_of an_limits_of cd_limits_of ct_limits_of), sl_limits_of⟩)
    (c_limits_of : PySem.W.codeIn K cd_limits_of "limits_of" = true)
    (l_Chip_init : K.lookup f_Chip_init = some ⟨oc_Chip_init, od_Chip_init, .func (PySem.W.fnOf "__init__" "Chip.__init__" (defArgs s_Chip_init) (defBody s_Chip_init) (defScope s_Chip_init) (.ref d_Chip_init) kV_Chip_init dc_Chip_init pm_Chip_init an_Chip_init cd_Chip_init ct_Chip_init), sl_Chip_init⟩)
    (c_Chip_init : PySem.W.codeIn K cd_Chip_init "Chip.__init__" = true)
    (d_Chip_init_ : K.lookup d_Chip_init = some ⟨.type "tuple", dd_Chip_init, .seq #[.int 1000000 e0_Chip_init, .none] dn_Chip_init, ds_Chip_init⟩)
    (l_Chip_put : K.lookup f_Chip_put = some ⟨oc_Chip_put, od_Chip_put, .func (PySem.W.fnOf "put" "Chip.put" (defArgs s_Chip_put) (defBody s_Chip_put) (defScope s_Chip_put) .none kV_Chip_put dc_Chip_put pm_Chip_put an_Chip_put cd_Chip_put ct_Chip_put), sl_Chip_put⟩)
    (c_Chip_put : PySem.W.codeIn K cd_Chip_put "Chip.put" = true)
    (l_Chip_wipe : K.lookup f_Chip_wipe = some ⟨oc_Chip_wipe, od_Chip_wipe, .func (PySem.W.fnOf "wipe" "Chip.wipe" (defArgs s_Chip_wipe) (defBody s_Chip_wipe) (defScope s_Chip_wipe) .none kV_Chip_wipe dc_Chip_wipe pm_Chip_wipe an_Chip_wipe cd_Chip_wipe ct_Chip_wipe), sl_Chip_wipe⟩)
    (c_Chip_wipe : PySem.W.codeIn K cd_Chip_wipe "Chip.wipe" = true)
    (l_Chip_read : K.lookup f_Chip_read = some ⟨oc_Chip_read, od_Chip_read, .func (PySem.W.fnOf "read" "Chip.read" (defArgs s_Chip_read) (defBody s_Chip_read) (defScope s_Chip_read) .none kV_Chip_read dc_Chip_read pm_Chip_read an_Chip_read cd_Chip_read ct_Chip_read), sl_Chip_read⟩)
    (c_Chip_read : PySem.W.codeIn K cd_Chip_read "Chip.read" = true)
    (l_Chip_cut_after : K.lookup f_Chip_cut_after = some ⟨oc_Chip_cut_after, od_Chip_cut_after, .func (PySem.W.fnOf "cut_after" "Chip.cut_after" (defArgs s_Chip_cut_after) (defBody s_Chip_cut_after) (defScope s_Chip_cut_after) .none kV_Chip_cut_after dc_Chip_cut_after pm_Chip_cut_after an_Chip_cut_after cd_Chip_cut_after ct_Chip_cut_after), sl_Chip_cut_after⟩)
    (c_Chip_cut_after : PySem.W.codeIn K cd_Chip_cut_after "Chip.cut_after" = true)
    (l_Chip_is_dark : K.lookup f_Chip_is_dark = some ⟨oc_Chip_is_dark, od_Chip_is_dark, .func (PySem.W.fnOf "is_dark" "Chip.is_dark" (defArgs s_Chip_is_dark) (defBody s_Chip_is_dark) (defScope s_Chip_is_dark) .none kV_Chip_is_dark dc_Chip_is_dark pm_Chip_is_dark an_Chip_is_dark cd_Chip_is_dark ct_Chip_is_dark), sl_Chip_is_dark⟩)
    (c_Chip_is_dark : PySem.W.codeIn K cd_Chip_is_dark "Chip.is_dark" = true)
    (l_Chip_cleared : K.lookup f_Chip_cleared = some ⟨oc_Chip_cleared, od_Chip_cleared, .func (PySem.W.fnOf "cleared" "Chip.cleared" (defArgs s_Chip_cleared) (defBody s_Chip_cleared) (defScope s_Chip_cleared) .none kV_Chip_cleared dc_Chip_cleared pm_Chip_cleared an_Chip_cleared cd_Chip_cleared ct_Chip_cleared), sl_Chip_cleared⟩)
    (c_Chip_cleared : PySem.W.codeIn K cd_Chip_cleared "Chip.cleared" = true)
    (l_Chip_failed : K.lookup f_Chip_failed = some ⟨oc_Chip_failed, od_Chip_failed, .func (PySem.W.fnOf "failed" "Chip.failed" (defArgs s_Chip_failed) (defBody s_Chip_failed) (defScope s_Chip_failed) .none kV_Chip_failed dc_Chip_failed pm_Chip_failed an_Chip_failed cd_Chip_failed ct_Chip_failed), sl_Chip_failed⟩)
    (c_Chip_failed : PySem.W.codeIn K cd_Chip_failed "Chip.failed" = true)
    (l_Chip_deeds : K.lookup f_Chip_deeds = some ⟨oc_Chip_deeds, od_Chip_deeds, .func (PySem.W.fnOf "deeds" "Chip.deeds" (defArgs s_Chip_deeds) (defBody s_Chip_deeds) (defScope s_Chip_deeds) .none kV_Chip_deeds dc_Chip_deeds pm_Chip_deeds an_Chip_deeds cd_Chip_deeds ct_Chip_deeds), sl_Chip_deeds⟩)
    (c_Chip_deeds : PySem.W.codeIn K cd_Chip_deeds "Chip.deeds" = true)
    (l_Chip_check_page : K.lookup f_Chip_check_page = some ⟨oc_Chip_check_page, od_Chip_check_page, .func (PySem.W.fnOf "check_page" "Chip.check_page" (defArgs s_Chip_check_page) (defBody s_Chip_check_page) (defScope s_Chip_check_page) .none kV_Chip_check_page dc_Chip_check_page pm_Chip_check_page an_Chip_check_page cd_Chip_check_page ct_Chip_check_page), sl_Chip_check_page⟩)
    (c_Chip_check_page : PySem.W.codeIn K cd_Chip_check_page "Chip.check_page" = true)
    (l_Chip_check_block : K.lookup f_Chip_check_block = some ⟨oc_Chip_check_block, od_Chip_check_block, .func (PySem.W.fnOf "check_block" "Chip.check_block" (defArgs s_Chip_check_block) (defBody s_Chip_check_block) (defScope s_Chip_check_block) .none kV_Chip_check_block dc_Chip_check_block pm_Chip_check_block an_Chip_check_block cd_Chip_check_block ct_Chip_check_block), sl_Chip_check_block⟩)
    (c_Chip_check_block : PySem.W.codeIn K cd_Chip_check_block "Chip.check_block" = true)
    (l_Chip_check_power : K.lookup f_Chip_check_power = some ⟨oc_Chip_check_power, od_Chip_check_power, .func (PySem.W.fnOf "check_power" "Chip.check_power" (defArgs s_Chip_check_power) (defBody s_Chip_check_power) (defScope s_Chip_check_power) .none kV_Chip_check_power dc_Chip_check_power pm_Chip_check_power an_Chip_check_power cd_Chip_check_power ct_Chip_check_power), sl_Chip_check_power⟩)
    (c_Chip_check_power : PySem.W.codeIn K cd_Chip_check_power "Chip.check_power" = true)
    (l_Chip_check_deed : K.lookup f_Chip_check_deed = some ⟨oc_Chip_check_deed, od_Chip_check_deed, .func (PySem.W.fnOf "check_deed" "Chip.check_deed" (defArgs s_Chip_check_deed) (defBody s_Chip_check_deed) (defScope s_Chip_check_deed) .none kV_Chip_check_deed dc_Chip_check_deed pm_Chip_check_deed an_Chip_check_deed cd_Chip_check_deed ct_Chip_check_deed), sl_Chip_check_deed⟩)
    (c_Chip_check_deed : PySem.W.codeIn K cd_Chip_check_deed "Chip.check_deed" = true)
    (l_Chip_is_spent : K.lookup f_Chip_is_spent = some ⟨oc_Chip_is_spent, od_Chip_is_spent, .func (PySem.W.fnOf "is_spent" "Chip.is_spent" (defArgs s_Chip_is_spent) (defBody s_Chip_is_spent) (defScope s_Chip_is_spent) .none kV_Chip_is_spent dc_Chip_is_spent pm_Chip_is_spent an_Chip_is_spent cd_Chip_is_spent ct_Chip_is_spent), sl_Chip_is_spent⟩)
    (c_Chip_is_spent : PySem.W.codeIn K cd_Chip_is_spent "Chip.is_spent" = true)
    (l_Chip_do_deed : K.lookup f_Chip_do_deed = some ⟨oc_Chip_do_deed, od_Chip_do_deed, .func (PySem.W.fnOf "do_deed" "Chip.do_deed" (defArgs s_Chip_do_deed) (defBody s_Chip_do_deed) (defScope s_Chip_do_deed) .none kV_Chip_do_deed dc_Chip_do_deed pm_Chip_do_deed an_Chip_do_deed cd_Chip_do_deed ct_Chip_do_deed), sl_Chip_do_deed⟩)
    (c_Chip_do_deed : PySem.W.codeIn K cd_Chip_do_deed "Chip.do_deed" = true)
    (l_law_cell_at : K.lookup f_law_cell_at = some ⟨oc_law_cell_at, od_law_cell_at, .func (PySem.W.fnOf "_law_cell_at" "_law_cell_at" (defArgs s_law_cell_at) (defBody s_law_cell_at) (defScope s_law_cell_at) .none kV_law_cell_at dc_law_cell_at pm_law_cell_at an_law_cell_at cd_law_cell_at ct_law_cell_at), sl_law_cell_at⟩)
    (c_law_cell_at : PySem.W.codeIn K cd_law_cell_at "_law_cell_at" = true)
    (l_law_all : K.lookup f_law_all = some ⟨oc_law_all, od_law_all, .func (PySem.W.fnOf "_law_all" "_law_all" (defArgs s_law_all) (defBody s_law_all) (defScope s_law_all) .none kV_law_all dc_law_all pm_law_all an_law_all cd_law_all ct_law_all), sl_law_all⟩)
    (c_law_all : PySem.W.codeIn K cd_law_all "_law_all" = true)
    (l_law_of : K.lookup f_law_of = some ⟨oc_law_of, od_law_of, .func (PySem.W.fnOf "_law_of" "_law_of" (defArgs s_law_of) (defBody s_law_of) (defScope s_law_of) .none kV_law_of dc_law_of pm_law_of an_law_of cd_law_of ct_law_of), sl_law_of⟩)
    (c_law_of : PySem.W.codeIn K cd_law_of "_law_of" = true)
    (l_law_classes : K.lookup f_law_classes = some ⟨oc_law_classes, od_law_classes, .func (PySem.W.fnOf "_law_classes" "_law_classes" (defArgs s_law_classes) (defBody s_law_classes) (defScope s_law_classes) .none kV_law_classes dc_law_classes pm_law_classes an_law_classes cd_law_classes ct_law_classes), sl_law_classes⟩)
    (c_law_classes : PySem.W.codeIn K cd_law_classes "_law_classes" = true)
    (l_law_asked : K.lookup f_law_asked = some ⟨oc_law_asked, od_law_asked, .func (PySem.W.fnOf "_law_asked" "_law_asked" (defArgs s_law_asked) (defBody s_law_asked) (defScope s_law_asked) .none kV_law_asked dc_law_asked pm_law_asked an_law_asked cd_law_asked ct_law_asked), sl_law_asked⟩)
    (c_law_asked : PySem.W.codeIn K cd_law_asked "_law_asked" = true)
    (l_law_due : K.lookup f_law_due = some ⟨oc_law_due, od_law_due, .func (PySem.W.fnOf "_law_due" "_law_due" (defArgs s_law_due) (defBody s_law_due) (defScope s_law_due) .none kV_law_due dc_law_due pm_law_due an_law_due cd_law_due ct_law_due), sl_law_due⟩)
    (c_law_due : PySem.W.codeIn K cd_law_due "_law_due" = true)
    (l_law_no_chip : K.lookup f_law_no_chip = some ⟨oc_law_no_chip, od_law_no_chip, .func (PySem.W.fnOf "_law_no_chip" "_law_no_chip" (defArgs s_law_no_chip) (defBody s_law_no_chip) (defScope s_law_no_chip) .none kV_law_no_chip dc_law_no_chip pm_law_no_chip an_law_no_chip cd_law_no_chip ct_law_no_chip), sl_law_no_chip⟩)
    (c_law_no_chip : PySem.W.codeIn K cd_law_no_chip "_law_no_chip" = true)
    (a_law : PySem.W.nsIn K mainGlobals "law" = some (some (.ref f_law)))
    (l_law : K.lookup f_law = some ⟨oc_law, od_law, .func (PySem.W.fnOf "law" "law" (defArgs s_law) (defBody s_law) (defScope s_law) .none kV_law dc_law pm_law an_law cd_law ct_law), sl_law⟩)
    (c_law : PySem.W.codeIn K cd_law "law" = true) :
    ∃ fd : FuncData, (∀ (s : Shared) (v : Value), BindsTo s fd ⟨[v], []⟩ [("_law_script", v)]) ∧ ∀ base : Heap, K.In base → base.Ns mainGlobals mg → FnOk l.prog w K mg base (CX0) 7 fa fd ["_law_script"] (spLaw K) := by
  have e := hfa.symm.trans (PySem.W.mg_of X G a_law)
  cases e
  let t : Adr := ⟨f_BlockFailed_init, f_NotClear_init, f_is_whole, f_is_within, f_is_shape, f_limits_of, f_Chip_init, f_Chip_put, f_Chip_wipe, f_Chip_read, f_Chip_cut_after, f_Chip_is_dark, f_Chip_cleared, f_Chip_failed, f_Chip_deeds, f_Chip_check_page, f_Chip_check_block, f_Chip_check_power, f_Chip_check_deed, f_Chip_is_spent, f_Chip_do_deed, f_law_cell_at, f_law_all, f_law_of, f_law_classes, f_law_asked, f_law_due, f_law_no_chip, fa, C_Chip, C_WornError, C_NoChip, C_NoPlace, C_PowerGone, C_BlockFailed, C_NotClear, C_NoTerms, C_NoSheet, C_NoValue, C_Full, C_NoRoom, C_WornOut, C_NoRule, C_NoRace, C_NoPart, C_NoRow, tk_MOST_TOLD⟩
  have T : Txt K mg t := ⟨PySem.W.mg_of X G aC_Chip, ⟨pg_Chip, hd_Chip, po_Chip, sa_Chip⟩, kc_Chip, n_Chip_blocks, n_Chip_pages, n_Chip_most, n_Chip_limits, n_Chip_borne, n_Chip_clearings, n_Chip_deed_counts, n_Chip_broken, n_Chip_deeds_left, n_Chip_record, ⟨a_Chip_init, i_Chip_init, k_Chip_init⟩, ⟨a_Chip_put, i_Chip_put, k_Chip_put⟩, ⟨a_Chip_wipe, i_Chip_wipe, k_Chip_wipe⟩, ⟨a_Chip_read, i_Chip_read, k_Chip_read⟩, ⟨a_Chip_cut_after, i_Chip_cut_after, k_Chip_cut_after⟩, ⟨a_Chip_is_dark, i_Chip_is_dark, k_Chip_is_dark⟩, ⟨a_Chip_cleared, i_Chip_cleared, k_Chip_cleared⟩, ⟨a_Chip_failed, i_Chip_failed, k_Chip_failed⟩, ⟨a_Chip_deeds, i_Chip_deeds, k_Chip_deeds⟩, ⟨a_Chip_check_page, i_Chip_check_page, k_Chip_check_page⟩, ⟨a_Chip_check_block, i_Chip_check_block, k_Chip_check_block⟩, ⟨a_Chip_check_power, i_Chip_check_power, k_Chip_check_power⟩, ⟨a_Chip_check_deed, i_Chip_check_deed, k_Chip_check_deed⟩, ⟨a_Chip_is_spent, i_Chip_is_spent, k_Chip_is_spent⟩, ⟨a_Chip_do_deed, i_Chip_do_deed, k_Chip_do_deed⟩, ⟨mk_Chip, a_Chip_init, i_Chip_init, kc_Chip⟩, PySem.W.mg_of X G aC_WornError, kc_WornError, ⟨rga_WornError, rgn_WornError, rmb_WornError, rhd_WornError, rcl_WornError, rcg_WornError, rct_WornError, rmo_WornError⟩, x_WornError, PySem.W.mg_of X G aC_NoChip, kc_NoChip, ⟨rga_NoChip, rgn_NoChip, rmb_NoChip, rhd_NoChip, rcl_NoChip, rcg_NoChip, rct_NoChip, rmo_NoChip⟩, x_NoChip, PySem.W.mg_of X G aC_NoPlace, kc_NoPlace, ⟨rga_NoPlace, rgn_NoPlace, rmb_NoPlace, rhd_NoPlace, rcl_NoPlace, rcg_NoPlace, rct_NoPlace, rmo_NoPlace⟩, x_NoPlace, PySem.W.mg_of X G aC_PowerGone, kc_PowerGone, ⟨rga_PowerGone, rgn_PowerGone, rmb_PowerGone, rhd_PowerGone, rcl_PowerGone, rcg_PowerGone, rct_PowerGone, rmo_PowerGone⟩, x_PowerGone, PySem.W.mg_of X G aC_BlockFailed, kc_BlockFailed, ⟨rga_BlockFailed, rgn_BlockFailed, rmb_BlockFailed, rhd_BlockFailed, rcl_BlockFailed, rcg_BlockFailed, rct_BlockFailed, rmo_BlockFailed⟩, ⟨xhd_BlockFailed, xsa_BlockFailed, xmr_BlockFailed⟩, xi_BlockFailed, n_BlockFailed_block, PySem.W.mg_of X G aC_NotClear, kc_NotClear, ⟨rga_NotClear, rgn_NotClear, rmb_NotClear, rhd_NotClear, rcl_NotClear, rcg_NotClear, rct_NotClear, rmo_NotClear⟩, ⟨xhd_NotClear, xsa_NotClear, xmr_NotClear⟩, xi_NotClear, n_NotClear_page, PySem.W.mg_of X G aC_NoTerms, kc_NoTerms, ⟨rga_NoTerms, rgn_NoTerms, rmb_NoTerms, rhd_NoTerms, rcl_NoTerms, rcg_NoTerms, rct_NoTerms, rmo_NoTerms⟩, x_NoTerms, PySem.W.mg_of X G aC_NoSheet, kc_NoSheet, ⟨rga_NoSheet, rgn_NoSheet, rmb_NoSheet, rhd_NoSheet, rcl_NoSheet, rcg_NoSheet, rct_NoSheet, rmo_NoSheet⟩, x_NoSheet, PySem.W.mg_of X G aC_NoValue, kc_NoValue, ⟨rga_NoValue, rgn_NoValue, rmb_NoValue, rhd_NoValue, rcl_NoValue, rcg_NoValue, rct_NoValue, rmo_NoValue⟩, x_NoValue, PySem.W.mg_of X G aC_Full, kc_Full, ⟨rga_Full, rgn_Full, rmb_Full, rhd_Full, rcl_Full, rcg_Full, rct_Full, rmo_Full⟩, x_Full, PySem.W.mg_of X G aC_NoRoom, kc_NoRoom, ⟨rga_NoRoom, rgn_NoRoom, rmb_NoRoom, rhd_NoRoom, rcl_NoRoom, rcg_NoRoom, rct_NoRoom, rmo_NoRoom⟩, x_NoRoom, PySem.W.mg_of X G aC_WornOut, kc_WornOut, ⟨rga_WornOut, rgn_WornOut, rmb_WornOut, rhd_WornOut, rcl_WornOut, rcg_WornOut, rct_WornOut, rmo_WornOut⟩, x_WornOut, PySem.W.mg_of X G aC_NoRule, kc_NoRule, ⟨rga_NoRule, rgn_NoRule, rmb_NoRule, rhd_NoRule, rcl_NoRule, rcg_NoRule, rct_NoRule, rmo_NoRule⟩, x_NoRule, PySem.W.mg_of X G aC_NoRace, kc_NoRace, ⟨rga_NoRace, rgn_NoRace, rmb_NoRace, rhd_NoRace, rcl_NoRace, rcg_NoRace, rct_NoRace, rmo_NoRace⟩, x_NoRace, PySem.W.mg_of X G aC_NoPart, kc_NoPart, ⟨rga_NoPart, rgn_NoPart, rmb_NoPart, rhd_NoPart, rcl_NoPart, rcg_NoPart, rct_NoPart, rmo_NoPart⟩, x_NoPart, PySem.W.mg_of X G aC_NoRow, kc_NoRow, ⟨rga_NoRow, rgn_NoRow, rmb_NoRow, rhd_NoRow, rcl_NoRow, rcg_NoRow, rct_NoRow, rmo_NoRow⟩, x_NoRow, ⟨br_WornError, bf_WornError, bg_WornError⟩, xm_WornError_NoChip, xm_WornError_WornError, xm_NoChip_NoChip, xm_NoChip_WornError, xm_NoPlace_NoChip, xm_NoPlace_WornError, xm_PowerGone_NoChip, xm_PowerGone_WornError, xm_BlockFailed_NoChip, xm_BlockFailed_WornError, xm_NotClear_NoChip, xm_NotClear_WornError, xm_NoTerms_NoChip, xm_NoTerms_WornError, xm_NoSheet_NoChip, xm_NoSheet_WornError, xm_NoValue_NoChip, xm_NoValue_WornError, xm_Full_NoChip, xm_Full_WornError, xm_NoRoom_NoChip, xm_NoRoom_WornError, xm_WornOut_NoChip, xm_WornOut_WornError, xm_NoRule_NoChip, xm_NoRule_WornError, xm_NoRace_NoChip, xm_NoRace_WornError, xm_NoPart_NoChip, xm_NoPart_WornError, xm_NoRow_NoChip, xm_NoRow_WornError, xk_WornError_BlockFailed, xk_WornError_Full, xk_WornError_NoChip, xk_WornError_NoPart, xk_WornError_NoPlace, xk_WornError_NoRace, xk_WornError_NoRoom, xk_WornError_NoRow, xk_WornError_NoRule, xk_WornError_NoSheet, xk_WornError_NoTerms, xk_WornError_NoValue, xk_WornError_NotClear, xk_WornError_PowerGone, xk_WornError_ValueError, xk_WornError_WornError, xk_WornError_WornOut, xk_NoChip_BlockFailed, xk_NoChip_Full, xk_NoChip_NoChip, xk_NoChip_NoPart, xk_NoChip_NoPlace, xk_NoChip_NoRace, xk_NoChip_NoRoom, xk_NoChip_NoRow, xk_NoChip_NoRule, xk_NoChip_NoSheet, xk_NoChip_NoTerms, xk_NoChip_NoValue, xk_NoChip_NotClear, xk_NoChip_PowerGone, xk_NoChip_ValueError, xk_NoChip_WornError, xk_NoChip_WornOut, xk_NoPlace_BlockFailed, xk_NoPlace_Full, xk_NoPlace_NoChip, xk_NoPlace_NoPart, xk_NoPlace_NoPlace, xk_NoPlace_NoRace, xk_NoPlace_NoRoom, xk_NoPlace_NoRow, xk_NoPlace_NoRule, xk_NoPlace_NoSheet, xk_NoPlace_NoTerms, xk_NoPlace_NoValue, xk_NoPlace_NotClear, xk_NoPlace_PowerGone, xk_NoPlace_ValueError, xk_NoPlace_WornError, xk_NoPlace_WornOut, xk_PowerGone_BlockFailed, xk_PowerGone_Full, xk_PowerGone_NoChip, xk_PowerGone_NoPart, xk_PowerGone_NoPlace, xk_PowerGone_NoRace, xk_PowerGone_NoRoom, xk_PowerGone_NoRow, xk_PowerGone_NoRule, xk_PowerGone_NoSheet, xk_PowerGone_NoTerms, xk_PowerGone_NoValue, xk_PowerGone_NotClear, xk_PowerGone_PowerGone, xk_PowerGone_ValueError, xk_PowerGone_WornError, xk_PowerGone_WornOut, xk_BlockFailed_BlockFailed, xk_BlockFailed_Full, xk_BlockFailed_NoChip, xk_BlockFailed_NoPart, xk_BlockFailed_NoPlace, xk_BlockFailed_NoRace, xk_BlockFailed_NoRoom, xk_BlockFailed_NoRow, xk_BlockFailed_NoRule, xk_BlockFailed_NoSheet, xk_BlockFailed_NoTerms, xk_BlockFailed_NoValue, xk_BlockFailed_NotClear, xk_BlockFailed_PowerGone, xk_BlockFailed_ValueError, xk_BlockFailed_WornError, xk_BlockFailed_WornOut, xk_NotClear_BlockFailed, xk_NotClear_Full, xk_NotClear_NoChip, xk_NotClear_NoPart, xk_NotClear_NoPlace, xk_NotClear_NoRace, xk_NotClear_NoRoom, xk_NotClear_NoRow, xk_NotClear_NoRule, xk_NotClear_NoSheet, xk_NotClear_NoTerms, xk_NotClear_NoValue, xk_NotClear_NotClear, xk_NotClear_PowerGone, xk_NotClear_ValueError, xk_NotClear_WornError, xk_NotClear_WornOut, xk_NoTerms_BlockFailed, xk_NoTerms_Full, xk_NoTerms_NoChip, xk_NoTerms_NoPart, xk_NoTerms_NoPlace, xk_NoTerms_NoRace, xk_NoTerms_NoRoom, xk_NoTerms_NoRow, xk_NoTerms_NoRule, xk_NoTerms_NoSheet, xk_NoTerms_NoTerms, xk_NoTerms_NoValue, xk_NoTerms_NotClear, xk_NoTerms_PowerGone, xk_NoTerms_ValueError, xk_NoTerms_WornError, xk_NoTerms_WornOut, xk_NoSheet_BlockFailed, xk_NoSheet_Full, xk_NoSheet_NoChip, xk_NoSheet_NoPart, xk_NoSheet_NoPlace, xk_NoSheet_NoRace, xk_NoSheet_NoRoom, xk_NoSheet_NoRow, xk_NoSheet_NoRule, xk_NoSheet_NoSheet, xk_NoSheet_NoTerms, xk_NoSheet_NoValue, xk_NoSheet_NotClear, xk_NoSheet_PowerGone, xk_NoSheet_ValueError, xk_NoSheet_WornError, xk_NoSheet_WornOut, xk_NoValue_BlockFailed, xk_NoValue_Full, xk_NoValue_NoChip, xk_NoValue_NoPart, xk_NoValue_NoPlace, xk_NoValue_NoRace, xk_NoValue_NoRoom, xk_NoValue_NoRow, xk_NoValue_NoRule, xk_NoValue_NoSheet, xk_NoValue_NoTerms, xk_NoValue_NoValue, xk_NoValue_NotClear, xk_NoValue_PowerGone, xk_NoValue_ValueError, xk_NoValue_WornError, xk_NoValue_WornOut, xk_Full_BlockFailed, xk_Full_Full, xk_Full_NoChip, xk_Full_NoPart, xk_Full_NoPlace, xk_Full_NoRace, xk_Full_NoRoom, xk_Full_NoRow, xk_Full_NoRule, xk_Full_NoSheet, xk_Full_NoTerms, xk_Full_NoValue, xk_Full_NotClear, xk_Full_PowerGone, xk_Full_ValueError, xk_Full_WornError, xk_Full_WornOut, xk_NoRoom_BlockFailed, xk_NoRoom_Full, xk_NoRoom_NoChip, xk_NoRoom_NoPart, xk_NoRoom_NoPlace, xk_NoRoom_NoRace, xk_NoRoom_NoRoom, xk_NoRoom_NoRow, xk_NoRoom_NoRule, xk_NoRoom_NoSheet, xk_NoRoom_NoTerms, xk_NoRoom_NoValue, xk_NoRoom_NotClear, xk_NoRoom_PowerGone, xk_NoRoom_ValueError, xk_NoRoom_WornError, xk_NoRoom_WornOut, xk_WornOut_BlockFailed, xk_WornOut_Full, xk_WornOut_NoChip, xk_WornOut_NoPart, xk_WornOut_NoPlace, xk_WornOut_NoRace, xk_WornOut_NoRoom, xk_WornOut_NoRow, xk_WornOut_NoRule, xk_WornOut_NoSheet, xk_WornOut_NoTerms, xk_WornOut_NoValue, xk_WornOut_NotClear, xk_WornOut_PowerGone, xk_WornOut_ValueError, xk_WornOut_WornError, xk_WornOut_WornOut, xk_NoRule_BlockFailed, xk_NoRule_Full, xk_NoRule_NoChip, xk_NoRule_NoPart, xk_NoRule_NoPlace, xk_NoRule_NoRace, xk_NoRule_NoRoom, xk_NoRule_NoRow, xk_NoRule_NoRule, xk_NoRule_NoSheet, xk_NoRule_NoTerms, xk_NoRule_NoValue, xk_NoRule_NotClear, xk_NoRule_PowerGone, xk_NoRule_ValueError, xk_NoRule_WornError, xk_NoRule_WornOut, xk_NoRace_BlockFailed, xk_NoRace_Full, xk_NoRace_NoChip, xk_NoRace_NoPart, xk_NoRace_NoPlace, xk_NoRace_NoRace, xk_NoRace_NoRoom, xk_NoRace_NoRow, xk_NoRace_NoRule, xk_NoRace_NoSheet, xk_NoRace_NoTerms, xk_NoRace_NoValue, xk_NoRace_NotClear, xk_NoRace_PowerGone, xk_NoRace_ValueError, xk_NoRace_WornError, xk_NoRace_WornOut, xk_NoPart_BlockFailed, xk_NoPart_Full, xk_NoPart_NoChip, xk_NoPart_NoPart, xk_NoPart_NoPlace, xk_NoPart_NoRace, xk_NoPart_NoRoom, xk_NoPart_NoRow, xk_NoPart_NoRule, xk_NoPart_NoSheet, xk_NoPart_NoTerms, xk_NoPart_NoValue, xk_NoPart_NotClear, xk_NoPart_PowerGone, xk_NoPart_ValueError, xk_NoPart_WornError, xk_NoPart_WornOut, xk_NoRow_BlockFailed, xk_NoRow_Full, xk_NoRow_NoChip, xk_NoRow_NoPart, xk_NoRow_NoPlace, xk_NoRow_NoRace, xk_NoRow_NoRoom, xk_NoRow_NoRow, xk_NoRow_NoRule, xk_NoRow_NoSheet, xk_NoRow_NoTerms, xk_NoRow_NoValue, xk_NoRow_NotClear, xk_NoRow_PowerGone, xk_NoRow_ValueError, xk_NoRow_WornError, xk_NoRow_WornOut, PySem.W.mg_of X G a_is_whole, k_is_whole, PySem.W.mg_of X G a_is_within, k_is_within, PySem.W.mg_of X G a_is_shape, k_is_shape, PySem.W.mg_of X G a_limits_of, k_limits_of, PySem.W.mg_of X G a_law_cell_at, k_law_cell_at, PySem.W.mg_of X G a_law_all, k_law_all, PySem.W.mg_of X G a_law_of, k_law_of, PySem.W.mg_of X G a_law_classes, k_law_classes, PySem.W.mg_of X G a_law_asked, k_law_asked, PySem.W.mg_of X G a_law_due, k_law_due, PySem.W.mg_of X G a_law_no_chip, k_law_no_chip, PySem.W.mg_of X G g_MOST_TOLD, PySem.W.mg_none_of X G z_ValueError, PySem.W.mg_none_of X G z_bool, PySem.W.mg_none_of X G z_int, PySem.W.mg_none_of X G z_isinstance, PySem.W.mg_none_of X G z_len, PySem.W.mg_none_of X G z_list, PySem.W.mg_none_of X G z_range⟩
  let S : Fns K t := ⟨_,
    .none,
    FunD.mk' (st := s_BlockFailed_init) l_BlockFailed_init c_BlockFailed_init,
    Binds.all fun us hl => match us, hl with | [_, _], _ => rfl,
    _,
    .none,
    FunD.mk' (st := s_NotClear_init) l_NotClear_init c_NotClear_init,
    Binds.all fun us hl => match us, hl with | [_, _], _ => rfl,
    _,
    .none,
    FunD.mk' (st := s_is_whole) l_is_whole c_is_whole,
    Binds.all fun us hl => match us, hl with | [_], _ => rfl,
    _,
    .none,
    FunD.mk' (st := s_is_within) l_is_within c_is_within,
    Binds.all fun us hl => match us, hl with | [_, _, _], _ => rfl,
    _,
    .none,
    FunD.mk' (st := s_is_shape) l_is_shape c_is_shape,
    Binds.all fun us hl => match us, hl with | [_, _], _ => rfl,
    _,
    .none,
    FunD.mk' (st := s_limits_of) l_limits_of c_limits_of,
    Binds.all fun us hl => match us, hl with | [_, _], _ => rfl,
    _,
    (.ref d_Chip_init),
    FunD.mk' (st := s_Chip_init) l_Chip_init c_Chip_init,
    fun s us kin hl => match us, hl with | [_, _, _, _, _], _ => BindsTo.of_defaults rfl (kin _ _ d_Chip_init_) rfl rfl rfl,
    [.none],
    fun s us kin hl => match us, (by simpa using hl : us.length = 4) with | [_, _, _, _], _ => BindsTo.of_defaults rfl (kin _ _ d_Chip_init_) rfl rfl rfl,
    (.cons rfl .nil),
    [.int 1000000 e0_Chip_init, .none],
    fun s us kin hl => match us, (by simpa using hl : us.length = 3) with | [_, _, _], _ => BindsTo.of_defaults rfl (kin _ _ d_Chip_init_) rfl rfl rfl,
    (.cons ⟨_, rfl⟩ (.cons rfl .nil)),
    _,
    .none,
    FunD.mk' (st := s_Chip_put) l_Chip_put c_Chip_put,
    Binds.all fun us hl => match us, hl with | [_, _, _], _ => rfl,
    _,
    .none,
    FunD.mk' (st := s_Chip_wipe) l_Chip_wipe c_Chip_wipe,
    Binds.all fun us hl => match us, hl with | [_, _], _ => rfl,
    _,
    .none,
    FunD.mk' (st := s_Chip_read) l_Chip_read c_Chip_read,
    Binds.all fun us hl => match us, hl with | [_, _], _ => rfl,
    _,
    .none,
    FunD.mk' (st := s_Chip_cut_after) l_Chip_cut_after c_Chip_cut_after,
    Binds.all fun us hl => match us, hl with | [_, _], _ => rfl,
    _,
    .none,
    FunD.mk' (st := s_Chip_is_dark) l_Chip_is_dark c_Chip_is_dark,
    Binds.all fun us hl => match us, hl with | [_], _ => rfl,
    _,
    .none,
    FunD.mk' (st := s_Chip_cleared) l_Chip_cleared c_Chip_cleared,
    Binds.all fun us hl => match us, hl with | [_, _], _ => rfl,
    _,
    .none,
    FunD.mk' (st := s_Chip_failed) l_Chip_failed c_Chip_failed,
    Binds.all fun us hl => match us, hl with | [_, _], _ => rfl,
    _,
    .none,
    FunD.mk' (st := s_Chip_deeds) l_Chip_deeds c_Chip_deeds,
    Binds.all fun us hl => match us, hl with | [_], _ => rfl,
    _,
    .none,
    FunD.mk' (st := s_Chip_check_page) l_Chip_check_page c_Chip_check_page,
    Binds.all fun us hl => match us, hl with | [_, _], _ => rfl,
    _,
    .none,
    FunD.mk' (st := s_Chip_check_block) l_Chip_check_block c_Chip_check_block,
    Binds.all fun us hl => match us, hl with | [_, _], _ => rfl,
    _,
    .none,
    FunD.mk' (st := s_Chip_check_power) l_Chip_check_power c_Chip_check_power,
    Binds.all fun us hl => match us, hl with | [_], _ => rfl,
    _,
    .none,
    FunD.mk' (st := s_Chip_check_deed) l_Chip_check_deed c_Chip_check_deed,
    Binds.all fun us hl => match us, hl with | [_, _], _ => rfl,
    _,
    .none,
    FunD.mk' (st := s_Chip_is_spent) l_Chip_is_spent c_Chip_is_spent,
    Binds.all fun us hl => match us, hl with | [_, _], _ => rfl,
    _,
    .none,
    FunD.mk' (st := s_Chip_do_deed) l_Chip_do_deed c_Chip_do_deed,
    Binds.all fun us hl => match us, hl with | [_, _, _, _, _], _ => rfl,
    _,
    .none,
    FunD.mk' (st := s_law_cell_at) l_law_cell_at c_law_cell_at,
    Binds.all fun us hl => match us, hl with | [_, _], _ => rfl,
    _,
    .none,
    FunD.mk' (st := s_law_all) l_law_all c_law_all,
    Binds.all fun us hl => match us, hl with | [], _ => rfl,
    _,
    .none,
    FunD.mk' (st := s_law_of) l_law_of c_law_of,
    Binds.all fun us hl => match us, hl with | [_], _ => rfl,
    _,
    .none,
    FunD.mk' (st := s_law_classes) l_law_classes c_law_classes,
    Binds.all fun us hl => match us, hl with | [], _ => rfl,
    _,
    .none,
    FunD.mk' (st := s_law_asked) l_law_asked c_law_asked,
    Binds.all fun us hl => match us, hl with | [_, _, _], _ => rfl,
    _,
    .none,
    FunD.mk' (st := s_law_due) l_law_due c_law_due,
    Binds.all fun us hl => match us, hl with | [_, _, _, _, _, _, _], _ => rfl,
    _,
    .none,
    FunD.mk' (st := s_law_no_chip) l_law_no_chip c_law_no_chip,
    Binds.all fun us hl => match us, hl with | [_, _], _ => rfl,
    _,
    .none,
    FunD.mk' (st := s_law) l_law c_law⟩
  exact ⟨_, fun s v => .of_eq rfl, fun base _ _ => ok_law T S⟩
theorem walk {l : PySem.W.OpenLaw} {q : Program} {loose : List Str} {XP : (Str → Option Value) → Heap → Prop} {YP : World → Heap → Prop} {d : DefRec} {K : Params → PySem.W.Frag} (hn : l.most = some 63) (hdf : d.params.defaults = [])
    (hY : ∀ (w : World) (h : Heap), YP w h → (K w.params).In h)
    (F : ∀ (w : World) (mg : Str → Option Value) (fa : Addr) (h : Heap), (K w.params).In h → h.Ns mainGlobals mg → mg d.name = some (.ref fa) →
      ∃ fd : FuncData, (∀ (s : Shared) (u : Value), BindsTo s fd ⟨[u], []⟩ [("_law_script", u)]) ∧ ∀ base : Heap, (K w.params).In base → base.Ns mainGlobals mg → FnOk l.prog w (K w.params) mg base (CX0) 7 fa fd ["_law_script"] (spLaw (K w.params))) :
    PySem.W.WalkO q loose XP YP l.row.toRowW d [] (fun f vs => PySem.call f vs) :=
  L2.walk_of (n := 63) (k := 7) (x := "_law_script") (CX := fun _ => CX0) (sp := fun w => spLaw (K w.params)) hn (by decide) hdf ⟨rfl, by decide, by decide⟩ hY F (fun _ _ a ns hl _ hS => ⟨a, ns, rfl, hS, hl, fun _ => rfl⟩) (fun _ _ _ _ _ z => z)
end W1
/- Names taken beforehand, so that no twins of the laid trees are made: they are of no use here, and the lemmas of such twins grow with the square of their length. -/
def PySem.W.Fast.tw4625660196234882176 : Unit := ()
def PySem.W.Fast.tw452391759273889121 : Unit := ()
def PySem.W.Fast.tw11968071812383017315 : Unit := ()
def PySem.W.Fast.tw7141102805967856293 : Unit := ()
def PySem.W.Fast.tw6221265334670931590 : Unit := ()
def PySem.W.Fast.tw8873552741829849927 : Unit := ()
def PySem.W.Fast.tw7051899297307638025 : Unit := ()
def PySem.W.Fast.tw17832020630484527722 : Unit := ()
def PySem.W.Fast.tw11966969486573646828 : Unit := ()
def PySem.W.Fast.tw16817163887740876045 : Unit := ()
def PySem.W.Fast.tw11347368287557655501 : Unit := ()
def PySem.W.Fast.tw8643289095830774190 : Unit := ()
def PySem.W.Fast.tw785227090794566542 : Unit := ()
def PySem.W.Fast.tw6887163920828030127 : Unit := ()
def PySem.W.Fast.tw13517891086541947791 : Unit := ()
def PySem.W.Fast.tw9255263891368274 : Unit := ()
def PySem.W.Fast.tw307439614056670611 : Unit := ()
def PySem.W.Fast.tw1056557339996211827 : Unit := ()
def PySem.W.Fast.tw11458340364435557237 : Unit := ()
def PySem.W.Fast.tw4224439837768397911 : Unit := ()
def PySem.W.Fast.tw16016575668975665468 : Unit := ()
def PySem.W.Fast.tw14517679189855347420 : Unit := ()
def PySem.W.Fast.tw8492748249173869340 : Unit := ()
open PySem PySem.W PyProof.Rows
set_option maxRecDepth 100000 in
set_option maxHeartbeats 0 in
theorem PySem.Challenge.cw_wornpages_k07_refusals_holds : PySem.Challenge.rw_wornpages_k07_refusals.Holds := by
  w_on; o_law; k_head; (case hw => w_witness2)
  k_fill
  refine W1.walk (l := PySem.Challenge.rw_wornpages_k07_refusals) rfl rfl (fun w h Y => PySem.W.kIn_of Y) ?F
  case F =>
    intro w mg fa h KX G hmg
    refine' W1.all_mk  KX G hmg ?aC_Chip ?pg_Chip ?hd_Chip ?po_Chip ?sa_Chip ?kc_Chip ?n_Chip_blocks ?n_Chip_pages ?n_Chip_most ?n_Chip_limits ?n_Chip_borne ?n_Chip_clearings ?n_Chip_deed_counts ?n_Chip_broken ?n_Chip_deeds_left ?n_Chip_record ?a_Chip_init ?i_Chip_init ?k_Chip_init ?a_Chip_put ?i_Chip_put ?k_Chip_put ?a_Chip_wipe ?i_Chip_wipe ?k_Chip_wipe ?a_Chip_read ?i_Chip_read ?k_Chip_read ?a_Chip_cut_after ?i_Chip_cut_after ?k_Chip_cut_after ?a_Chip_is_dark ?i_Chip_is_dark ?k_Chip_is_dark ?a_Chip_cleared ?i_Chip_cleared ?k_Chip_cleared ?a_Chip_failed ?i_Chip_failed ?k_Chip_failed ?a_Chip_deeds ?i_Chip_deeds ?k_Chip_deeds ?a_Chip_check_page ?i_Chip_check_page ?k_Chip_check_page ?a_Chip_check_block ?i_Chip_check_block ?k_Chip_check_block ?a_Chip_check_power ?i_Chip_check_power ?k_Chip_check_power ?a_Chip_check_deed ?i_Chip_check_deed ?k_Chip_check_deed ?a_Chip_is_spent ?i_Chip_is_spent ?k_Chip_is_spent ?a_Chip_do_deed ?i_Chip_do_deed ?k_Chip_do_deed ?mk_Chip ?aC_WornError ?kc_WornError ?rga_WornError ?rgn_WornError ?rmb_WornError ?rhd_WornError ?rcl_WornError ?rcg_WornError ?rct_WornError ?rmo_WornError ?x_WornError ?aC_NoChip ?kc_NoChip ?rga_NoChip ?rgn_NoChip ?rmb_NoChip ?rhd_NoChip ?rcl_NoChip ?rcg_NoChip ?rct_NoChip ?rmo_NoChip ?x_NoChip ?aC_NoPlace ?kc_NoPlace ?rga_NoPlace ?rgn_NoPlace ?rmb_NoPlace ?rhd_NoPlace ?rcl_NoPlace ?rcg_NoPlace ?rct_NoPlace ?rmo_NoPlace ?x_NoPlace ?aC_PowerGone ?kc_PowerGone ?rga_PowerGone ?rgn_PowerGone ?rmb_PowerGone ?rhd_PowerGone ?rcl_PowerGone ?rcg_PowerGone ?rct_PowerGone ?rmo_PowerGone ?x_PowerGone ?aC_BlockFailed ?kc_BlockFailed ?rga_BlockFailed ?rgn_BlockFailed ?rmb_BlockFailed ?rhd_BlockFailed ?rcl_BlockFailed ?rcg_BlockFailed ?rct_BlockFailed ?rmo_BlockFailed ?xhd_BlockFailed ?xsa_BlockFailed ?xmr_BlockFailed ?fi_BlockFailed ?xi_BlockFailed ?n_BlockFailed_block ?aC_NotClear ?kc_NotClear ?rga_NotClear ?rgn_NotClear ?rmb_NotClear ?rhd_NotClear ?rcl_NotClear ?rcg_NotClear ?rct_NotClear ?rmo_NotClear ?xhd_NotClear ?xsa_NotClear ?xmr_NotClear ?fi_NotClear ?xi_NotClear ?n_NotClear_page ?aC_NoTerms ?kc_NoTerms ?rga_NoTerms ?rgn_NoTerms ?rmb_NoTerms ?rhd_NoTerms ?rcl_NoTerms ?rcg_NoTerms ?rct_NoTerms ?rmo_NoTerms ?x_NoTerms ?aC_NoSheet ?kc_NoSheet ?rga_NoSheet ?rgn_NoSheet ?rmb_NoSheet ?rhd_NoSheet ?rcl_NoSheet ?rcg_NoSheet ?rct_NoSheet ?rmo_NoSheet ?x_NoSheet ?aC_NoValue ?kc_NoValue ?rga_NoValue ?rgn_NoValue ?rmb_NoValue ?rhd_NoValue ?rcl_NoValue ?rcg_NoValue ?rct_NoValue ?rmo_NoValue ?x_NoValue ?aC_Full ?kc_Full ?rga_Full ?rgn_Full ?rmb_Full ?rhd_Full ?rcl_Full ?rcg_Full ?rct_Full ?rmo_Full ?x_Full ?aC_NoRoom ?kc_NoRoom ?rga_NoRoom ?rgn_NoRoom ?rmb_NoRoom ?rhd_NoRoom ?rcl_NoRoom ?rcg_NoRoom ?rct_NoRoom ?rmo_NoRoom ?x_NoRoom ?aC_WornOut ?kc_WornOut ?rga_WornOut ?rgn_WornOut ?rmb_WornOut ?rhd_WornOut ?rcl_WornOut ?rcg_WornOut ?rct_WornOut ?rmo_WornOut ?x_WornOut ?aC_NoRule ?kc_NoRule ?rga_NoRule ?rgn_NoRule ?rmb_NoRule ?rhd_NoRule ?rcl_NoRule ?rcg_NoRule ?rct_NoRule ?rmo_NoRule ?x_NoRule ?aC_NoRace ?kc_NoRace ?rga_NoRace ?rgn_NoRace ?rmb_NoRace ?rhd_NoRace ?rcl_NoRace ?rcg_NoRace ?rct_NoRace ?rmo_NoRace ?x_NoRace ?aC_NoPart ?kc_NoPart ?rga_NoPart ?rgn_NoPart ?rmb_NoPart ?rhd_NoPart ?rcl_NoPart ?rcg_NoPart ?rct_NoPart ?rmo_NoPart ?x_NoPart ?aC_NoRow ?kc_NoRow ?rga_NoRow ?rgn_NoRow ?rmb_NoRow ?rhd_NoRow ?rcl_NoRow ?rcg_NoRow ?rct_NoRow ?rmo_NoRow ?x_NoRow ?br_WornError ?bf_WornError ?bg_WornError ?xm_WornError_NoChip ?xm_WornError_WornError ?xm_NoChip_NoChip ?xm_NoChip_WornError ?xm_NoPlace_NoChip ?xm_NoPlace_WornError ?xm_PowerGone_NoChip ?xm_PowerGone_WornError ?xm_BlockFailed_NoChip ?xm_BlockFailed_WornError ?xm_NotClear_NoChip ?xm_NotClear_WornError ?xm_NoTerms_NoChip ?xm_NoTerms_WornError ?xm_NoSheet_NoChip ?xm_NoSheet_WornError ?xm_NoValue_NoChip ?xm_NoValue_WornError ?xm_Full_NoChip ?xm_Full_WornError ?xm_NoRoom_NoChip ?xm_NoRoom_WornError ?xm_WornOut_NoChip ?xm_WornOut_WornError ?xm_NoRule_NoChip ?xm_NoRule_WornError ?xm_NoRace_NoChip ?xm_NoRace_WornError ?xm_NoPart_NoChip ?xm_NoPart_WornError ?xm_NoRow_NoChip ?xm_NoRow_WornError ?xk_WornError_BlockFailed ?xk_WornError_Full ?xk_WornError_NoChip ?xk_WornError_NoPart ?xk_WornError_NoPlace ?xk_WornError_NoRace ?xk_WornError_NoRoom ?xk_WornError_NoRow ?xk_WornError_NoRule ?xk_WornError_NoSheet ?xk_WornError_NoTerms ?xk_WornError_NoValue ?xk_WornError_NotClear ?xk_WornError_PowerGone ?xk_WornError_ValueError ?xk_WornError_WornError ?xk_WornError_WornOut ?xk_NoChip_BlockFailed ?xk_NoChip_Full ?xk_NoChip_NoChip ?xk_NoChip_NoPart ?xk_NoChip_NoPlace ?xk_NoChip_NoRace ?xk_NoChip_NoRoom ?xk_NoChip_NoRow ?xk_NoChip_NoRule ?xk_NoChip_NoSheet ?xk_NoChip_NoTerms ?xk_NoChip_NoValue ?xk_NoChip_NotClear ?xk_NoChip_PowerGone ?xk_NoChip_ValueError ?xk_NoChip_WornError ?xk_NoChip_WornOut ?xk_NoPlace_BlockFailed ?xk_NoPlace_Full ?xk_NoPlace_NoChip ?xk_NoPlace_NoPart ?xk_NoPlace_NoPlace ?xk_NoPlace_NoRace ?xk_NoPlace_NoRoom ?xk_NoPlace_NoRow ?xk_NoPlace_NoRule ?xk_NoPlace_NoSheet ?xk_NoPlace_NoTerms ?xk_NoPlace_NoValue ?xk_NoPlace_NotClear ?xk_NoPlace_PowerGone ?xk_NoPlace_ValueError ?xk_NoPlace_WornError ?xk_NoPlace_WornOut ?xk_PowerGone_BlockFailed ?xk_PowerGone_Full ?xk_PowerGone_NoChip ?xk_PowerGone_NoPart ?xk_PowerGone_NoPlace ?xk_PowerGone_NoRace ?xk_PowerGone_NoRoom ?xk_PowerGone_NoRow ?xk_PowerGone_NoRule ?xk_PowerGone_NoSheet ?xk_PowerGone_NoTerms ?xk_PowerGone_NoValue ?xk_PowerGone_NotClear ?xk_PowerGone_PowerGone ?xk_PowerGone_ValueError ?xk_PowerGone_WornError ?xk_PowerGone_WornOut ?xk_BlockFailed_BlockFailed ?xk_BlockFailed_Full ?xk_BlockFailed_NoChip ?xk_BlockFailed_NoPart ?xk_BlockFailed_NoPlace ?xk_BlockFailed_NoRace ?xk_BlockFailed_NoRoom ?xk_BlockFailed_NoRow ?xk_BlockFailed_NoRule ?xk_BlockFailed_NoSheet ?xk_BlockFailed_NoTerms ?xk_BlockFailed_NoValue ?xk_BlockFailed_NotClear ?xk_BlockFailed_PowerGone ?xk_BlockFailed_ValueError ?xk_BlockFailed_WornError ?xk_BlockFailed_WornOut ?xk_NotClear_BlockFailed ?xk_NotClear_Full ?xk_NotClear_NoChip ?xk_NotClear_NoPart ?xk_NotClear_NoPlace ?xk_NotClear_NoRace ?xk_NotClear_NoRoom ?xk_NotClear_NoRow ?xk_NotClear_NoRule ?xk_NotClear_NoSheet ?xk_NotClear_NoTerms ?xk_NotClear_NoValue ?xk_NotClear_NotClear ?xk_NotClear_PowerGone ?xk_NotClear_ValueError ?xk_NotClear_WornError ?xk_NotClear_WornOut ?xk_NoTerms_BlockFailed ?xk_NoTerms_Full ?xk_NoTerms_NoChip ?xk_NoTerms_NoPart ?xk_NoTerms_NoPlace ?xk_NoTerms_NoRace ?xk_NoTerms_NoRoom ?xk_NoTerms_NoRow ?xk_NoTerms_NoRule ?xk_NoTerms_NoSheet ?xk_NoTerms_NoTerms ?xk_NoTerms_NoValue ?xk_NoTerms_NotClear ?xk_NoTerms_PowerGone ?xk_NoTerms_ValueError ?xk_NoTerms_WornError ?xk_NoTerms_WornOut ?xk_NoSheet_BlockFailed ?xk_NoSheet_Full ?xk_NoSheet_NoChip ?xk_NoSheet_NoPart ?xk_NoSheet_NoPlace ?xk_NoSheet_NoRace ?xk_NoSheet_NoRoom ?xk_NoSheet_NoRow ?xk_NoSheet_NoRule ?xk_NoSheet_NoSheet ?xk_NoSheet_NoTerms ?xk_NoSheet_NoValue ?xk_NoSheet_NotClear ?xk_NoSheet_PowerGone ?xk_NoSheet_ValueError ?xk_NoSheet_WornError ?xk_NoSheet_WornOut ?xk_NoValue_BlockFailed ?xk_NoValue_Full ?xk_NoValue_NoChip ?xk_NoValue_NoPart ?xk_NoValue_NoPlace ?xk_NoValue_NoRace ?xk_NoValue_NoRoom ?xk_NoValue_NoRow ?xk_NoValue_NoRule ?xk_NoValue_NoSheet ?xk_NoValue_NoTerms ?xk_NoValue_NoValue ?xk_NoValue_NotClear ?xk_NoValue_PowerGone ?xk_NoValue_ValueError ?xk_NoValue_WornError ?xk_NoValue_WornOut ?xk_Full_BlockFailed ?xk_Full_Full ?xk_Full_NoChip ?xk_Full_NoPart ?xk_Full_NoPlace ?xk_Full_NoRace ?xk_Full_NoRoom ?xk_Full_NoRow ?xk_Full_NoRule ?xk_Full_NoSheet ?xk_Full_NoTerms ?xk_Full_NoValue ?xk_Full_NotClear ?xk_Full_PowerGone ?xk_Full_ValueError ?xk_Full_WornError ?xk_Full_WornOut ?xk_NoRoom_BlockFailed ?xk_NoRoom_Full ?xk_NoRoom_NoChip ?xk_NoRoom_NoPart ?xk_NoRoom_NoPlace ?xk_NoRoom_NoRace ?xk_NoRoom_NoRoom ?xk_NoRoom_NoRow ?xk_NoRoom_NoRule ?xk_NoRoom_NoSheet ?xk_NoRoom_NoTerms ?xk_NoRoom_NoValue ?xk_NoRoom_NotClear ?xk_NoRoom_PowerGone ?xk_NoRoom_ValueError ?xk_NoRoom_WornError ?xk_NoRoom_WornOut ?xk_WornOut_BlockFailed ?xk_WornOut_Full ?xk_WornOut_NoChip ?xk_WornOut_NoPart ?xk_WornOut_NoPlace ?xk_WornOut_NoRace ?xk_WornOut_NoRoom ?xk_WornOut_NoRow ?xk_WornOut_NoRule ?xk_WornOut_NoSheet ?xk_WornOut_NoTerms ?xk_WornOut_NoValue ?xk_WornOut_NotClear ?xk_WornOut_PowerGone ?xk_WornOut_ValueError ?xk_WornOut_WornError ?xk_WornOut_WornOut ?xk_NoRule_BlockFailed ?xk_NoRule_Full ?xk_NoRule_NoChip ?xk_NoRule_NoPart ?xk_NoRule_NoPlace ?xk_NoRule_NoRace ?xk_NoRule_NoRoom ?xk_NoRule_NoRow ?xk_NoRule_NoRule ?xk_NoRule_NoSheet ?xk_NoRule_NoTerms ?xk_NoRule_NoValue ?xk_NoRule_NotClear ?xk_NoRule_PowerGone ?xk_NoRule_ValueError ?xk_NoRule_WornError ?xk_NoRule_WornOut ?xk_NoRace_BlockFailed ?xk_NoRace_Full ?xk_NoRace_NoChip ?xk_NoRace_NoPart ?xk_NoRace_NoPlace ?xk_NoRace_NoRace ?xk_NoRace_NoRoom ?xk_NoRace_NoRow ?xk_NoRace_NoRule ?xk_NoRace_NoSheet ?xk_NoRace_NoTerms ?xk_NoRace_NoValue ?xk_NoRace_NotClear ?xk_NoRace_PowerGone ?xk_NoRace_ValueError ?xk_NoRace_WornError ?xk_NoRace_WornOut ?xk_NoPart_BlockFailed ?xk_NoPart_Full ?xk_NoPart_NoChip ?xk_NoPart_NoPart ?xk_NoPart_NoPlace ?xk_NoPart_NoRace ?xk_NoPart_NoRoom ?xk_NoPart_NoRow ?xk_NoPart_NoRule ?xk_NoPart_NoSheet ?xk_NoPart_NoTerms ?xk_NoPart_NoValue ?xk_NoPart_NotClear ?xk_NoPart_PowerGone ?xk_NoPart_ValueError ?xk_NoPart_WornError ?xk_NoPart_WornOut ?xk_NoRow_BlockFailed ?xk_NoRow_Full ?xk_NoRow_NoChip ?xk_NoRow_NoPart ?xk_NoRow_NoPlace ?xk_NoRow_NoRace ?xk_NoRow_NoRoom ?xk_NoRow_NoRow ?xk_NoRow_NoRule ?xk_NoRow_NoSheet ?xk_NoRow_NoTerms ?xk_NoRow_NoValue ?xk_NoRow_NotClear ?xk_NoRow_PowerGone ?xk_NoRow_ValueError ?xk_NoRow_WornError ?xk_NoRow_WornOut ?a_is_whole ?k_is_whole ?a_is_within ?k_is_within ?a_is_shape ?k_is_shape ?a_limits_of ?k_limits_of ?a_law_cell_at ?k_law_cell_at ?a_law_all ?k_law_all ?a_law_of ?k_law_of ?a_law_classes ?k_law_classes ?a_law_asked ?k_law_asked ?a_law_due ?k_law_due ?a_law_no_chip ?k_law_no_chip ?g_MOST_TOLD ?z_ValueError ?z_bool ?z_int ?z_isinstance ?z_len ?z_list ?z_range ?k_BlockFailed_init ?l_BlockFailed_init ?c_BlockFailed_init ?k_NotClear_init ?l_NotClear_init ?c_NotClear_init ?l_is_whole ?c_is_whole ?l_is_within ?c_is_within ?l_is_shape ?c_is_shape ?l_limits_of ?c_limits_of ?l_Chip_init ?c_Chip_init ?d_Chip_init_ ?l_Chip_put ?c_Chip_put ?l_Chip_wipe ?c_Chip_wipe ?l_Chip_read ?c_Chip_read ?l_Chip_cut_after ?c_Chip_cut_after ?l_Chip_is_dark ?c_Chip_is_dark ?l_Chip_cleared ?c_Chip_cleared ?l_Chip_failed ?c_Chip_failed ?l_Chip_deeds ?c_Chip_deeds ?l_Chip_check_page ?c_Chip_check_page ?l_Chip_check_block ?c_Chip_check_block ?l_Chip_check_power ?c_Chip_check_power ?l_Chip_check_deed ?c_Chip_check_deed ?l_Chip_is_spent ?c_Chip_is_spent ?l_Chip_do_deed ?c_Chip_do_deed ?l_law_cell_at ?c_law_cell_at ?l_law_all ?c_law_all ?l_law_of ?c_law_of ?l_law_classes ?c_law_classes ?l_law_asked ?c_law_asked ?l_law_due ?c_law_due ?l_law_no_chip ?c_law_no_chip ?a_law ?l_law ?c_law
    (case aC_Chip => k_is)
    (case pg_Chip => k_is)
    (case hd_Chip => k_is)
    (case po_Chip => k_is)
    (case sa_Chip => k_is)
    (case kc_Chip => k_is)
    (case n_Chip_blocks => k_is)
    (case n_Chip_pages => k_is)
    (case n_Chip_most => k_is)
    (case n_Chip_limits => k_is)
    (case n_Chip_borne => k_is)
    (case n_Chip_clearings => k_is)
    (case n_Chip_deed_counts => k_is)
    (case n_Chip_broken => k_is)
    (case n_Chip_deeds_left => k_is)
    (case n_Chip_record => k_is)
    (case a_Chip_init => k_is)
    (case i_Chip_init => k_is)
    (case k_Chip_init => k_is)
    (case a_Chip_put => k_is)
    (case i_Chip_put => k_is)
    (case k_Chip_put => k_is)
    (case a_Chip_wipe => k_is)
    (case i_Chip_wipe => k_is)
    (case k_Chip_wipe => k_is)
    (case a_Chip_read => k_is)
    (case i_Chip_read => k_is)
    (case k_Chip_read => k_is)
    (case a_Chip_cut_after => k_is)
    (case i_Chip_cut_after => k_is)
    (case k_Chip_cut_after => k_is)
    (case a_Chip_is_dark => k_is)
    (case i_Chip_is_dark => k_is)
    (case k_Chip_is_dark => k_is)
    (case a_Chip_cleared => k_is)
    (case i_Chip_cleared => k_is)
    (case k_Chip_cleared => k_is)
    (case a_Chip_failed => k_is)
    (case i_Chip_failed => k_is)
    (case k_Chip_failed => k_is)
    (case a_Chip_deeds => k_is)
    (case i_Chip_deeds => k_is)
    (case k_Chip_deeds => k_is)
    (case a_Chip_check_page => k_is)
    (case i_Chip_check_page => k_is)
    (case k_Chip_check_page => k_is)
    (case a_Chip_check_block => k_is)
    (case i_Chip_check_block => k_is)
    (case k_Chip_check_block => k_is)
    (case a_Chip_check_power => k_is)
    (case i_Chip_check_power => k_is)
    (case k_Chip_check_power => k_is)
    (case a_Chip_check_deed => k_is)
    (case i_Chip_check_deed => k_is)
    (case k_Chip_check_deed => k_is)
    (case a_Chip_is_spent => k_is)
    (case i_Chip_is_spent => k_is)
    (case k_Chip_is_spent => k_is)
    (case a_Chip_do_deed => k_is)
    (case i_Chip_do_deed => k_is)
    (case k_Chip_do_deed => k_is)
    (case mk_Chip => k_is)
    (case aC_WornError => k_is)
    (case kc_WornError => k_is)
    (case rga_WornError => k_is)
    (case rgn_WornError => k_is)
    (case rmb_WornError => k_is)
    (case rhd_WornError => k_is)
    (case rcl_WornError => k_is)
    (case rcg_WornError => k_is)
    (case rct_WornError => k_is)
    (case rmo_WornError => k_is)
    (case x_WornError => k_exc)
    (case aC_NoChip => k_is)
    (case kc_NoChip => k_is)
    (case rga_NoChip => k_is)
    (case rgn_NoChip => k_is)
    (case rmb_NoChip => k_is)
    (case rhd_NoChip => k_is)
    (case rcl_NoChip => k_is)
    (case rcg_NoChip => k_is)
    (case rct_NoChip => k_is)
    (case rmo_NoChip => k_is)
    (case x_NoChip => k_exc)
    (case aC_NoPlace => k_is)
    (case kc_NoPlace => k_is)
    (case rga_NoPlace => k_is)
    (case rgn_NoPlace => k_is)
    (case rmb_NoPlace => k_is)
    (case rhd_NoPlace => k_is)
    (case rcl_NoPlace => k_is)
    (case rcg_NoPlace => k_is)
    (case rct_NoPlace => k_is)
    (case rmo_NoPlace => k_is)
    (case x_NoPlace => k_exc)
    (case aC_PowerGone => k_is)
    (case kc_PowerGone => k_is)
    (case rga_PowerGone => k_is)
    (case rgn_PowerGone => k_is)
    (case rmb_PowerGone => k_is)
    (case rhd_PowerGone => k_is)
    (case rcl_PowerGone => k_is)
    (case rcg_PowerGone => k_is)
    (case rct_PowerGone => k_is)
    (case rmo_PowerGone => k_is)
    (case x_PowerGone => k_exc)
    (case aC_BlockFailed => k_is)
    (case kc_BlockFailed => k_is)
    (case rga_BlockFailed => k_is)
    (case rgn_BlockFailed => k_is)
    (case rmb_BlockFailed => k_is)
    (case rhd_BlockFailed => k_is)
    (case rcl_BlockFailed => k_is)
    (case rcg_BlockFailed => k_is)
    (case rct_BlockFailed => k_is)
    (case rmo_BlockFailed => k_is)
    (case xhd_BlockFailed => k_is)
    (case xsa_BlockFailed => k_is)
    (case xmr_BlockFailed => kernel_rfl)
    (case fi_BlockFailed => k_is)
    (case xi_BlockFailed => kernel_rfl)
    (case n_BlockFailed_block => k_is)
    (case aC_NotClear => k_is)
    (case kc_NotClear => k_is)
    (case rga_NotClear => k_is)
    (case rgn_NotClear => k_is)
    (case rmb_NotClear => k_is)
    (case rhd_NotClear => k_is)
    (case rcl_NotClear => k_is)
    (case rcg_NotClear => k_is)
    (case rct_NotClear => k_is)
    (case rmo_NotClear => k_is)
    (case xhd_NotClear => k_is)
    (case xsa_NotClear => k_is)
    (case xmr_NotClear => kernel_rfl)
    (case fi_NotClear => k_is)
    (case xi_NotClear => kernel_rfl)
    (case n_NotClear_page => k_is)
    (case aC_NoTerms => k_is)
    (case kc_NoTerms => k_is)
    (case rga_NoTerms => k_is)
    (case rgn_NoTerms => k_is)
    (case rmb_NoTerms => k_is)
    (case rhd_NoTerms => k_is)
    (case rcl_NoTerms => k_is)
    (case rcg_NoTerms => k_is)
    (case rct_NoTerms => k_is)
    (case rmo_NoTerms => k_is)
    (case x_NoTerms => k_exc)
    (case aC_NoSheet => k_is)
    (case kc_NoSheet => k_is)
    (case rga_NoSheet => k_is)
    (case rgn_NoSheet => k_is)
    (case rmb_NoSheet => k_is)
    (case rhd_NoSheet => k_is)
    (case rcl_NoSheet => k_is)
    (case rcg_NoSheet => k_is)
    (case rct_NoSheet => k_is)
    (case rmo_NoSheet => k_is)
    (case x_NoSheet => k_exc)
    (case aC_NoValue => k_is)
    (case kc_NoValue => k_is)
    (case rga_NoValue => k_is)
    (case rgn_NoValue => k_is)
    (case rmb_NoValue => k_is)
    (case rhd_NoValue => k_is)
    (case rcl_NoValue => k_is)
    (case rcg_NoValue => k_is)
    (case rct_NoValue => k_is)
    (case rmo_NoValue => k_is)
    (case x_NoValue => k_exc)
    (case aC_Full => k_is)
    (case kc_Full => k_is)
    (case rga_Full => k_is)
    (case rgn_Full => k_is)
    (case rmb_Full => k_is)
    (case rhd_Full => k_is)
    (case rcl_Full => k_is)
    (case rcg_Full => k_is)
    (case rct_Full => k_is)
    (case rmo_Full => k_is)
    (case x_Full => k_exc)
    (case aC_NoRoom => k_is)
    (case kc_NoRoom => k_is)
    (case rga_NoRoom => k_is)
    (case rgn_NoRoom => k_is)
    (case rmb_NoRoom => k_is)
    (case rhd_NoRoom => k_is)
    (case rcl_NoRoom => k_is)
    (case rcg_NoRoom => k_is)
    (case rct_NoRoom => k_is)
    (case rmo_NoRoom => k_is)
    (case x_NoRoom => k_exc)
    (case aC_WornOut => k_is)
    (case kc_WornOut => k_is)
    (case rga_WornOut => k_is)
    (case rgn_WornOut => k_is)
    (case rmb_WornOut => k_is)
    (case rhd_WornOut => k_is)
    (case rcl_WornOut => k_is)
    (case rcg_WornOut => k_is)
    (case rct_WornOut => k_is)
    (case rmo_WornOut => k_is)
    (case x_WornOut => k_exc)
    (case aC_NoRule => k_is)
    (case kc_NoRule => k_is)
    (case rga_NoRule => k_is)
    (case rgn_NoRule => k_is)
    (case rmb_NoRule => k_is)
    (case rhd_NoRule => k_is)
    (case rcl_NoRule => k_is)
    (case rcg_NoRule => k_is)
    (case rct_NoRule => k_is)
    (case rmo_NoRule => k_is)
    (case x_NoRule => k_exc)
    (case aC_NoRace => k_is)
    (case kc_NoRace => k_is)
    (case rga_NoRace => k_is)
    (case rgn_NoRace => k_is)
    (case rmb_NoRace => k_is)
    (case rhd_NoRace => k_is)
    (case rcl_NoRace => k_is)
    (case rcg_NoRace => k_is)
    (case rct_NoRace => k_is)
    (case rmo_NoRace => k_is)
    (case x_NoRace => k_exc)
    (case aC_NoPart => k_is)
    (case kc_NoPart => k_is)
    (case rga_NoPart => k_is)
    (case rgn_NoPart => k_is)
    (case rmb_NoPart => k_is)
    (case rhd_NoPart => k_is)
    (case rcl_NoPart => k_is)
    (case rcg_NoPart => k_is)
    (case rct_NoPart => k_is)
    (case rmo_NoPart => k_is)
    (case x_NoPart => k_exc)
    (case aC_NoRow => k_is)
    (case kc_NoRow => k_is)
    (case rga_NoRow => k_is)
    (case rgn_NoRow => k_is)
    (case rmb_NoRow => k_is)
    (case rhd_NoRow => k_is)
    (case rcl_NoRow => k_is)
    (case rcg_NoRow => k_is)
    (case rct_NoRow => k_is)
    (case rmo_NoRow => k_is)
    (case x_NoRow => k_exc)
    (case br_WornError => k_is)
    (case bf_WornError => k_is)
    (case bg_WornError => k_is)
    (case xm_WornError_NoChip => kts_exm)
    (case xm_WornError_WornError => kts_exm)
    (case xm_NoChip_NoChip => kts_exm)
    (case xm_NoChip_WornError => kts_exm)
    (case xm_NoPlace_NoChip => kts_exm)
    (case xm_NoPlace_WornError => kts_exm)
    (case xm_PowerGone_NoChip => kts_exm)
    (case xm_PowerGone_WornError => kts_exm)
    (case xm_BlockFailed_NoChip => kts_exm)
    (case xm_BlockFailed_WornError => kts_exm)
    (case xm_NotClear_NoChip => kts_exm)
    (case xm_NotClear_WornError => kts_exm)
    (case xm_NoTerms_NoChip => kts_exm)
    (case xm_NoTerms_WornError => kts_exm)
    (case xm_NoSheet_NoChip => kts_exm)
    (case xm_NoSheet_WornError => kts_exm)
    (case xm_NoValue_NoChip => kts_exm)
    (case xm_NoValue_WornError => kts_exm)
    (case xm_Full_NoChip => kts_exm)
    (case xm_Full_WornError => kts_exm)
    (case xm_NoRoom_NoChip => kts_exm)
    (case xm_NoRoom_WornError => kts_exm)
    (case xm_WornOut_NoChip => kts_exm)
    (case xm_WornOut_WornError => kts_exm)
    (case xm_NoRule_NoChip => kts_exm)
    (case xm_NoRule_WornError => kts_exm)
    (case xm_NoRace_NoChip => kts_exm)
    (case xm_NoRace_WornError => kts_exm)
    (case xm_NoPart_NoChip => kts_exm)
    (case xm_NoPart_WornError => kts_exm)
    (case xm_NoRow_NoChip => kts_exm)
    (case xm_NoRow_WornError => kts_exm)
    (case xk_WornError_BlockFailed => kit_is)
    (case xk_WornError_Full => kit_is)
    (case xk_WornError_NoChip => kit_is)
    (case xk_WornError_NoPart => kit_is)
    (case xk_WornError_NoPlace => kit_is)
    (case xk_WornError_NoRace => kit_is)
    (case xk_WornError_NoRoom => kit_is)
    (case xk_WornError_NoRow => kit_is)
    (case xk_WornError_NoRule => kit_is)
    (case xk_WornError_NoSheet => kit_is)
    (case xk_WornError_NoTerms => kit_is)
    (case xk_WornError_NoValue => kit_is)
    (case xk_WornError_NotClear => kit_is)
    (case xk_WornError_PowerGone => kit_is)
    (case xk_WornError_ValueError => kit_is)
    (case xk_WornError_WornError => kit_is)
    (case xk_WornError_WornOut => kit_is)
    (case xk_NoChip_BlockFailed => kit_is)
    (case xk_NoChip_Full => kit_is)
    (case xk_NoChip_NoChip => kit_is)
    (case xk_NoChip_NoPart => kit_is)
    (case xk_NoChip_NoPlace => kit_is)
    (case xk_NoChip_NoRace => kit_is)
    (case xk_NoChip_NoRoom => kit_is)
    (case xk_NoChip_NoRow => kit_is)
    (case xk_NoChip_NoRule => kit_is)
    (case xk_NoChip_NoSheet => kit_is)
    (case xk_NoChip_NoTerms => kit_is)
    (case xk_NoChip_NoValue => kit_is)
    (case xk_NoChip_NotClear => kit_is)
    (case xk_NoChip_PowerGone => kit_is)
    (case xk_NoChip_ValueError => kit_is)
    (case xk_NoChip_WornError => kit_is)
    (case xk_NoChip_WornOut => kit_is)
    (case xk_NoPlace_BlockFailed => kit_is)
    (case xk_NoPlace_Full => kit_is)
    (case xk_NoPlace_NoChip => kit_is)
    (case xk_NoPlace_NoPart => kit_is)
    (case xk_NoPlace_NoPlace => kit_is)
    (case xk_NoPlace_NoRace => kit_is)
    (case xk_NoPlace_NoRoom => kit_is)
    (case xk_NoPlace_NoRow => kit_is)
    (case xk_NoPlace_NoRule => kit_is)
    (case xk_NoPlace_NoSheet => kit_is)
    (case xk_NoPlace_NoTerms => kit_is)
    (case xk_NoPlace_NoValue => kit_is)
    (case xk_NoPlace_NotClear => kit_is)
    (case xk_NoPlace_PowerGone => kit_is)
    (case xk_NoPlace_ValueError => kit_is)
    (case xk_NoPlace_WornError => kit_is)
    (case xk_NoPlace_WornOut => kit_is)
    (case xk_PowerGone_BlockFailed => kit_is)
    (case xk_PowerGone_Full => kit_is)
    (case xk_PowerGone_NoChip => kit_is)
    (case xk_PowerGone_NoPart => kit_is)
    (case xk_PowerGone_NoPlace => kit_is)
    (case xk_PowerGone_NoRace => kit_is)
    (case xk_PowerGone_NoRoom => kit_is)
    (case xk_PowerGone_NoRow => kit_is)
    (case xk_PowerGone_NoRule => kit_is)
    (case xk_PowerGone_NoSheet => kit_is)
    (case xk_PowerGone_NoTerms => kit_is)
    (case xk_PowerGone_NoValue => kit_is)
    (case xk_PowerGone_NotClear => kit_is)
    (case xk_PowerGone_PowerGone => kit_is)
    (case xk_PowerGone_ValueError => kit_is)
    (case xk_PowerGone_WornError => kit_is)
    (case xk_PowerGone_WornOut => kit_is)
    (case xk_BlockFailed_BlockFailed => kit_is)
    (case xk_BlockFailed_Full => kit_is)
    (case xk_BlockFailed_NoChip => kit_is)
    (case xk_BlockFailed_NoPart => kit_is)
    (case xk_BlockFailed_NoPlace => kit_is)
    (case xk_BlockFailed_NoRace => kit_is)
    (case xk_BlockFailed_NoRoom => kit_is)
    (case xk_BlockFailed_NoRow => kit_is)
    (case xk_BlockFailed_NoRule => kit_is)
    (case xk_BlockFailed_NoSheet => kit_is)
    (case xk_BlockFailed_NoTerms => kit_is)
    (case xk_BlockFailed_NoValue => kit_is)
    (case xk_BlockFailed_NotClear => kit_is)
    (case xk_BlockFailed_PowerGone => kit_is)
    (case xk_BlockFailed_ValueError => kit_is)
    (case xk_BlockFailed_WornError => kit_is)
    (case xk_BlockFailed_WornOut => kit_is)
    (case xk_NotClear_BlockFailed => kit_is)
    (case xk_NotClear_Full => kit_is)
    (case xk_NotClear_NoChip => kit_is)
    (case xk_NotClear_NoPart => kit_is)
    (case xk_NotClear_NoPlace => kit_is)
    (case xk_NotClear_NoRace => kit_is)
    (case xk_NotClear_NoRoom => kit_is)
    (case xk_NotClear_NoRow => kit_is)
    (case xk_NotClear_NoRule => kit_is)
    (case xk_NotClear_NoSheet => kit_is)
    (case xk_NotClear_NoTerms => kit_is)
    (case xk_NotClear_NoValue => kit_is)
    (case xk_NotClear_NotClear => kit_is)
    (case xk_NotClear_PowerGone => kit_is)
    (case xk_NotClear_ValueError => kit_is)
    (case xk_NotClear_WornError => kit_is)
    (case xk_NotClear_WornOut => kit_is)
    (case xk_NoTerms_BlockFailed => kit_is)
    (case xk_NoTerms_Full => kit_is)
    (case xk_NoTerms_NoChip => kit_is)
    (case xk_NoTerms_NoPart => kit_is)
    (case xk_NoTerms_NoPlace => kit_is)
    (case xk_NoTerms_NoRace => kit_is)
    (case xk_NoTerms_NoRoom => kit_is)
    (case xk_NoTerms_NoRow => kit_is)
    (case xk_NoTerms_NoRule => kit_is)
    (case xk_NoTerms_NoSheet => kit_is)
    (case xk_NoTerms_NoTerms => kit_is)
    (case xk_NoTerms_NoValue => kit_is)
    (case xk_NoTerms_NotClear => kit_is)
    (case xk_NoTerms_PowerGone => kit_is)
    (case xk_NoTerms_ValueError => kit_is)
    (case xk_NoTerms_WornError => kit_is)
    (case xk_NoTerms_WornOut => kit_is)
    (case xk_NoSheet_BlockFailed => kit_is)
    (case xk_NoSheet_Full => kit_is)
    (case xk_NoSheet_NoChip => kit_is)
    (case xk_NoSheet_NoPart => kit_is)
    (case xk_NoSheet_NoPlace => kit_is)
    (case xk_NoSheet_NoRace => kit_is)
    (case xk_NoSheet_NoRoom => kit_is)
    (case xk_NoSheet_NoRow => kit_is)
    (case xk_NoSheet_NoRule => kit_is)
    (case xk_NoSheet_NoSheet => kit_is)
    (case xk_NoSheet_NoTerms => kit_is)
    (case xk_NoSheet_NoValue => kit_is)
    (case xk_NoSheet_NotClear => kit_is)
    (case xk_NoSheet_PowerGone => kit_is)
    (case xk_NoSheet_ValueError => kit_is)
    (case xk_NoSheet_WornError => kit_is)
    (case xk_NoSheet_WornOut => kit_is)
    (case xk_NoValue_BlockFailed => kit_is)
    (case xk_NoValue_Full => kit_is)
    (case xk_NoValue_NoChip => kit_is)
    (case xk_NoValue_NoPart => kit_is)
    (case xk_NoValue_NoPlace => kit_is)
    (case xk_NoValue_NoRace => kit_is)
    (case xk_NoValue_NoRoom => kit_is)
    (case xk_NoValue_NoRow => kit_is)
    (case xk_NoValue_NoRule => kit_is)
    (case xk_NoValue_NoSheet => kit_is)
    (case xk_NoValue_NoTerms => kit_is)
    (case xk_NoValue_NoValue => kit_is)
    (case xk_NoValue_NotClear => kit_is)
    (case xk_NoValue_PowerGone => kit_is)
    (case xk_NoValue_ValueError => kit_is)
    (case xk_NoValue_WornError => kit_is)
    (case xk_NoValue_WornOut => kit_is)
    (case xk_Full_BlockFailed => kit_is)
    (case xk_Full_Full => kit_is)
    (case xk_Full_NoChip => kit_is)
    (case xk_Full_NoPart => kit_is)
    (case xk_Full_NoPlace => kit_is)
    (case xk_Full_NoRace => kit_is)
    (case xk_Full_NoRoom => kit_is)
    (case xk_Full_NoRow => kit_is)
    (case xk_Full_NoRule => kit_is)
    (case xk_Full_NoSheet => kit_is)
    (case xk_Full_NoTerms => kit_is)
    (case xk_Full_NoValue => kit_is)
    (case xk_Full_NotClear => kit_is)
    (case xk_Full_PowerGone => kit_is)
    (case xk_Full_ValueError => kit_is)
    (case xk_Full_WornError => kit_is)
    (case xk_Full_WornOut => kit_is)
    (case xk_NoRoom_BlockFailed => kit_is)
    (case xk_NoRoom_Full => kit_is)
    (case xk_NoRoom_NoChip => kit_is)
    (case xk_NoRoom_NoPart => kit_is)
    (case xk_NoRoom_NoPlace => kit_is)
    (case xk_NoRoom_NoRace => kit_is)
    (case xk_NoRoom_NoRoom => kit_is)
    (case xk_NoRoom_NoRow => kit_is)
    (case xk_NoRoom_NoRule => kit_is)
    (case xk_NoRoom_NoSheet => kit_is)
    (case xk_NoRoom_NoTerms => kit_is)
    (case xk_NoRoom_NoValue => kit_is)
    (case xk_NoRoom_NotClear => kit_is)
    (case xk_NoRoom_PowerGone => kit_is)
    (case xk_NoRoom_ValueError => kit_is)
    (case xk_NoRoom_WornError => kit_is)
    (case xk_NoRoom_WornOut => kit_is)
    (case xk_WornOut_BlockFailed => kit_is)
    (case xk_WornOut_Full => kit_is)
    (case xk_WornOut_NoChip => kit_is)
    (case xk_WornOut_NoPart => kit_is)
    (case xk_WornOut_NoPlace => kit_is)
    (case xk_WornOut_NoRace => kit_is)
    (case xk_WornOut_NoRoom => kit_is)
    (case xk_WornOut_NoRow => kit_is)
    (case xk_WornOut_NoRule => kit_is)
    (case xk_WornOut_NoSheet => kit_is)
    (case xk_WornOut_NoTerms => kit_is)
    (case xk_WornOut_NoValue => kit_is)
    (case xk_WornOut_NotClear => kit_is)
    (case xk_WornOut_PowerGone => kit_is)
    (case xk_WornOut_ValueError => kit_is)
    (case xk_WornOut_WornError => kit_is)
    (case xk_WornOut_WornOut => kit_is)
    (case xk_NoRule_BlockFailed => kit_is)
    (case xk_NoRule_Full => kit_is)
    (case xk_NoRule_NoChip => kit_is)
    (case xk_NoRule_NoPart => kit_is)
    (case xk_NoRule_NoPlace => kit_is)
    (case xk_NoRule_NoRace => kit_is)
    (case xk_NoRule_NoRoom => kit_is)
    (case xk_NoRule_NoRow => kit_is)
    (case xk_NoRule_NoRule => kit_is)
    (case xk_NoRule_NoSheet => kit_is)
    (case xk_NoRule_NoTerms => kit_is)
    (case xk_NoRule_NoValue => kit_is)
    (case xk_NoRule_NotClear => kit_is)
    (case xk_NoRule_PowerGone => kit_is)
    (case xk_NoRule_ValueError => kit_is)
    (case xk_NoRule_WornError => kit_is)
    (case xk_NoRule_WornOut => kit_is)
    (case xk_NoRace_BlockFailed => kit_is)
    (case xk_NoRace_Full => kit_is)
    (case xk_NoRace_NoChip => kit_is)
    (case xk_NoRace_NoPart => kit_is)
    (case xk_NoRace_NoPlace => kit_is)
    (case xk_NoRace_NoRace => kit_is)
    (case xk_NoRace_NoRoom => kit_is)
    (case xk_NoRace_NoRow => kit_is)
    (case xk_NoRace_NoRule => kit_is)
    (case xk_NoRace_NoSheet => kit_is)
    (case xk_NoRace_NoTerms => kit_is)
    (case xk_NoRace_NoValue => kit_is)
    (case xk_NoRace_NotClear => kit_is)
    (case xk_NoRace_PowerGone => kit_is)
    (case xk_NoRace_ValueError => kit_is)
    (case xk_NoRace_WornError => kit_is)
    (case xk_NoRace_WornOut => kit_is)
    (case xk_NoPart_BlockFailed => kit_is)
    (case xk_NoPart_Full => kit_is)
    (case xk_NoPart_NoChip => kit_is)
    (case xk_NoPart_NoPart => kit_is)
    (case xk_NoPart_NoPlace => kit_is)
    (case xk_NoPart_NoRace => kit_is)
    (case xk_NoPart_NoRoom => kit_is)
    (case xk_NoPart_NoRow => kit_is)
    (case xk_NoPart_NoRule => kit_is)
    (case xk_NoPart_NoSheet => kit_is)
    (case xk_NoPart_NoTerms => kit_is)
    (case xk_NoPart_NoValue => kit_is)
    (case xk_NoPart_NotClear => kit_is)
    (case xk_NoPart_PowerGone => kit_is)
    (case xk_NoPart_ValueError => kit_is)
    (case xk_NoPart_WornError => kit_is)
    (case xk_NoPart_WornOut => kit_is)
    (case xk_NoRow_BlockFailed => kit_is)
    (case xk_NoRow_Full => kit_is)
    (case xk_NoRow_NoChip => kit_is)
    (case xk_NoRow_NoPart => kit_is)
    (case xk_NoRow_NoPlace => kit_is)
    (case xk_NoRow_NoRace => kit_is)
    (case xk_NoRow_NoRoom => kit_is)
    (case xk_NoRow_NoRow => kit_is)
    (case xk_NoRow_NoRule => kit_is)
    (case xk_NoRow_NoSheet => kit_is)
    (case xk_NoRow_NoTerms => kit_is)
    (case xk_NoRow_NoValue => kit_is)
    (case xk_NoRow_NotClear => kit_is)
    (case xk_NoRow_PowerGone => kit_is)
    (case xk_NoRow_ValueError => kit_is)
    (case xk_NoRow_WornError => kit_is)
    (case xk_NoRow_WornOut => kit_is)
    (case a_is_whole => k_is)
    (case k_is_whole => k_is)
    (case a_is_within => k_is)
    (case k_is_within => k_is)
    (case a_is_shape => k_is)
    (case k_is_shape => k_is)
    (case a_limits_of => k_is)
    (case k_limits_of => k_is)
    (case a_law_cell_at => k_is)
    (case k_law_cell_at => k_is)
    (case a_law_all => k_is)
    (case k_law_all => k_is)
    (case a_law_of => k_is)
    (case k_law_of => k_is)
    (case a_law_classes => k_is)
    (case k_law_classes => k_is)
    (case a_law_asked => k_is)
    (case k_law_asked => k_is)
    (case a_law_due => k_is)
    (case k_law_due => k_is)
    (case a_law_no_chip => k_is)
    (case k_law_no_chip => k_is)
    (case g_MOST_TOLD => k_is)
    (case z_ValueError => k_is)
    (case z_bool => k_is)
    (case z_int => k_is)
    (case z_isinstance => k_is)
    (case z_len => k_is)
    (case z_list => k_is)
    (case z_range => k_is)
    (case k_BlockFailed_init => k_is)
    (case l_BlockFailed_init => k_is)
    (case c_BlockFailed_init => k_is)
    (case k_NotClear_init => k_is)
    (case l_NotClear_init => k_is)
    (case c_NotClear_init => k_is)
    (case l_is_whole => k_is)
    (case c_is_whole => k_is)
    (case l_is_within => k_is)
    (case c_is_within => k_is)
    (case l_is_shape => k_is)
    (case c_is_shape => k_is)
    (case l_limits_of => k_is)
    (case c_limits_of => k_is)
    (case l_Chip_init => k_is)
    (case c_Chip_init => k_is)
    (case d_Chip_init_ => k_is)
    (case l_Chip_put => k_is)
    (case c_Chip_put => k_is)
    (case l_Chip_wipe => k_is)
    (case c_Chip_wipe => k_is)
    (case l_Chip_read => k_is)
    (case c_Chip_read => k_is)
    (case l_Chip_cut_after => k_is)
    (case c_Chip_cut_after => k_is)
    (case l_Chip_is_dark => k_is)
    (case c_Chip_is_dark => k_is)
    (case l_Chip_cleared => k_is)
    (case c_Chip_cleared => k_is)
    (case l_Chip_failed => k_is)
    (case c_Chip_failed => k_is)
    (case l_Chip_deeds => k_is)
    (case c_Chip_deeds => k_is)
    (case l_Chip_check_page => k_is)
    (case c_Chip_check_page => k_is)
    (case l_Chip_check_block => k_is)
    (case c_Chip_check_block => k_is)
    (case l_Chip_check_power => k_is)
    (case c_Chip_check_power => k_is)
    (case l_Chip_check_deed => k_is)
    (case c_Chip_check_deed => k_is)
    (case l_Chip_is_spent => k_is)
    (case c_Chip_is_spent => k_is)
    (case l_Chip_do_deed => k_is)
    (case c_Chip_do_deed => k_is)
    (case l_law_cell_at => k_is)
    (case c_law_cell_at => k_is)
    (case l_law_all => k_is)
    (case c_law_all => k_is)
    (case l_law_of => k_is)
    (case c_law_of => k_is)
    (case l_law_classes => k_is)
    (case c_law_classes => k_is)
    (case l_law_asked => k_is)
    (case c_law_asked => k_is)
    (case l_law_due => k_is)
    (case c_law_due => k_is)
    (case l_law_no_chip => k_is)
    (case c_law_no_chip => k_is)
    (case a_law => k_is)
    (case l_law => k_is)
    (case c_law => k_is)

