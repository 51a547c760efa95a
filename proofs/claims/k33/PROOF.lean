import PyProof.Rows.All
import Wide.All
import OpenK.AllK
import Wide.FinOn
import PyProof.EqAt
import PyProof.EqKinds
import PyProof.TupleCall
import KE.BitLaws
import KE.KStar
import PySem.Challenge.RW_stillweb_k33_slips_found
set_option Elab.async false
set_option linter.all false
set_option maxRecDepth 100000
set_option maxHeartbeats 4000000
-- CHANGE: your row's module here, as the last of these rows
namespace L2
open PySem PySem.Spec PyProof.Rows

abbrev Key := Sum Int Str
def keyIs : Key → Value → Bool
  | .inl k, v => Value.isInt k v
  | .inr x, v => Value.isStrOf x v
def keyH (w : World) : Key → Int
  | .inl k => hashInt k
  | .inr x => hashStr w x
theorem keyIs_shape : ∀ {k : Key} {v : Value}, keyIs k v = true → (∃ i t, k = Sum.inl i ∧ v = Value.int i t) ∨ (∃ x t, k = Sum.inr x ∧ v = Value.str x t)
  | .inl i, v, h => by
    obtain ⟨t, e⟩ := Value.isInt_shape (k := i) (v := v) h
    exact .inl ⟨i, t, rfl, e⟩
  | .inr x, v, h => by
    obtain ⟨t, e⟩ := Value.isStrOf_shape (x := x) (v := v) h
    exact .inr ⟨x, t, rfl, e⟩
theorem keyIs_int (i : Int) (t : Tok) : keyIs (.inl i) (.int i t) = true := by simp [keyIs, Value.isInt]
theorem keyIs_str (x : Str) (t : Tok) : keyIs (.inr x) (.str x t) = true := by simp [keyIs, Value.isStrOf]
theorem key_ll (a b : Int) : decide ((Sum.inl a : Key) = Sum.inl b) = (a == b) := by
  by_cases e : a = b
  · subst e; simp
  · have h : ¬ (Sum.inl a : Key) = Sum.inl b := fun q => e (Sum.inl.inj q)
    rw [decide_eq_false h]
    exact (beq_eq_false_iff_ne.mpr e).symm
theorem key_rr (a b : Str) : decide ((Sum.inr a : Key) = Sum.inr b) = decide (a = b) := by
  by_cases e : a = b
  · subst e; simp
  · have h : ¬ (Sum.inr a : Key) = Sum.inr b := fun q => e (Sum.inr.inj q)
    rw [decide_eq_false h, decide_eq_false e]
theorem key_lr (a : Int) (b : Str) : decide ((Sum.inl a : Key) = Sum.inr b) = false := decide_eq_false (fun q => nomatch q)
theorem key_rl (a : Str) (b : Int) : decide ((Sum.inr a : Key) = Sum.inl b) = false := decide_eq_false (fun q => nomatch q)
def mixKind (prog : Program) (w : World) : PySem.KeyKind prog w Key where
  is := keyIs
  hash := keyH w
  inj := fun v a b ha hb => by
    rcases keyIs_shape ha with ⟨i, t, rfl, rfl⟩ | ⟨x, t, rfl, rfl⟩
    · rcases keyIs_shape hb with ⟨j, u, rfl, e⟩ | ⟨y, u, rfl, e⟩
      · injection e with e1 _; rw [e1]
      · exact nomatch e
    · rcases keyIs_shape hb with ⟨j, u, rfl, e⟩ | ⟨y, u, rfl, e⟩
      · exact nomatch e
      · injection e with e1 _; rw [e1]
  byValue := fun k v h => by
    rcases keyIs_shape h with ⟨i, t, rfl, rfl⟩ | ⟨x, t, rfl, rfl⟩ <;> rfl
  pyHash := fun hv h => by
    rcases keyIs_shape hv with ⟨i, t, rfl, rfl⟩ | ⟨x, t, rfl, rfl⟩
    · exact wpAny_pyHash_int h
    · exact wpAny_pyHash_str h
  eqBool := fun hu hv h => by
    rcases keyIs_shape hu with ⟨i, t, rfl, rfl⟩ | ⟨x, t, rfl, rfl⟩
    · rcases keyIs_shape hv with ⟨j, u, rfl, rfl⟩ | ⟨y, u, rfl, rfl⟩
      · rw [key_ll] at h; exact wpAny_eqBool_int h
      · rw [key_lr] at h; exact SeqAt.EqAt.int_str i t y u _ _ _ _ h
    · rcases keyIs_shape hv with ⟨j, u, rfl, rfl⟩ | ⟨y, u, rfl, rfl⟩
      · rw [key_rl] at h; exact SeqAt.EqAt.str_int x t j u _ _ _ _ h
      · rw [key_rr] at h; exact wpAny_eqBool_str h
  «strs» := fun k x t v h => by
    rcases keyIs_shape h with ⟨i, u, rfl, e⟩ | ⟨y, u, rfl, e⟩
    · exact nomatch e
    · injection e with e1 _
      subst e1
      cases v <;> rfl
theorem mixKind_int (prog : Program) (w : World) (i : Int) (t : Tok) : (mixKind prog w).is (.inl i) (.int i t) = true := keyIs_int i t
theorem mixKind_str (prog : Program) (w : World) (x : Str) (t : Tok) : (mixKind prog w).is (.inr x) (.str x t) = true := keyIs_str x t
end L2

namespace L2
open PySem PySem.Spec PyProof.Rows

inductive V where
  | non | bl (b : Bool) | int (i : Int) | str (x : Str) | byt (b : Array UInt8) | flt (b : UInt64) | ref (a : Addr) | ty (n : String)
  deriving DecidableEq
def RelV : V → Value → Prop
  | .non, u => u = Value.none
  | .bl b, u => u = Value.bool b
  | .int i, u => ∃ t, u = Value.int i t
  | .str x, u => ∃ t, u = Value.str x t
  | .byt b, u => ∃ t, u = Value.bytes b t
  | .flt b, u => ∃ t, u = Value.float b t
  | .ref a, u => u = Value.ref a
  | .ty n, u => u = Value.type n
abbrev Vals : List V → List Value → Prop := Paired RelV
theorem Vals.length {xs : List V} {us : List Value} (r : Vals xs us) : xs.length = us.length := Paired.length r
theorem Vals.get : ∀ {xs : List V} {us : List Value} {i : Nat} {x : V}, Vals xs us → xs[i]? = some x → ∃ u, us[i]? = some u ∧ RelV x u
  | _, _, _, _, .nil, e => by simp at e
  | _, _, 0, _, .cons r _, e => by simp at e; subst e; exact ⟨_, rfl, r⟩
  | _, _, i + 1, x, .cons _ t, e => by
    obtain ⟨u, h1, h2⟩ := Vals.get (i := i) (x := x) t (by simpa using e)
    exact ⟨u, by simpa using h1, h2⟩
theorem Vals.set {x : V} {u : Value} (r : RelV x u) : ∀ {xs : List V} {us : List Value} (i : Nat), Vals xs us → Vals (xs.set i x) (us.set i u)
  | _, _, _, .nil => .nil
  | _, _, 0, .cons _ t => .cons r t
  | _, _, i + 1, .cons q t => .cons q (Vals.set r i t)
theorem Vals.append : ∀ {xs ys : List V} {us ws : List Value}, Vals xs us → Vals ys ws → Vals (xs ++ ys) (us ++ ws)
  | _, _, _, _, .nil, s => s
  | _, _, _, _, .cons r t, s => .cons r (Vals.append t s)
theorem Vals.take : ∀ {xs : List V} {us : List Value} (n : Nat), Vals xs us → Vals (xs.take n) (us.take n)
  | _, _, 0, _ => .nil
  | _, _, _ + 1, .nil => .nil
  | _, _, n + 1, .cons r t => .cons r (Vals.take n t)
theorem Vals.drop : ∀ {xs : List V} {us : List Value} (n : Nat), Vals xs us → Vals (xs.drop n) (us.drop n)
  | _, _, 0, r => r
  | _, _, _ + 1, .nil => .nil
  | _, _, n + 1, .cons _ t => Vals.drop n t
def RelO : Option V → Option Value → Prop
  | some v, some u => RelV v u
  | none, none => True
  | _, _ => False
def KV {κ : Type} : List (κ × V) → List (κ × Value) → Prop := Paired fun (p : κ × V) (q : κ × Value) => p.1 = q.1 ∧ RelV p.2 q.2
def kV : Key → V
  | .inl i => .int i
  | .inr x => .str x
inductive HO where
  /-- a list -/
  | lst (xs : List V)
  /-- a tuple (never changes) -/
  | tup (xs : List V)
  /-- a dict whose keys are ints and texts; one whose keys are tuples of ints and texts (the empty one is both) -/
  | dK (kvs : List (Key × V)) | dT (kvs : List (List Key × V))
  /-- a set of ints: its members, its size -/
  | set (S : Int → Bool) (n : Nat)
  /-- an instance of the class at C, its dict at dx, its attributes -/
  | ins (C dx : Addr) (fs : List (Str × V))
  /-- the dict of the instance at x -/
  | own (x : Addr)
  /-- the dict of an exception -/
  | xd (fs : List (Str × V))
  /-- a bound method, f of x -/
  | met (f x : Addr)
  /-- a range object lo, lo + 1, .. below hi -/
  | rng (lo hi : Int)
  /-- a thing that is known to the object (the script; a dict while a loop walks it): read, never written while it is so -/
  | frz (o : Obj) (u : HO)
  /-- a code object's table -/
  | tbl (ps : Array Value)
  /-- any other thing, by what is true of its one object (a def of one's own: SetO a S n := HO.ext fun h => ..) -/
  | ext (φ : Heap → Prop)
abbrev Hp := Addr → Option HO
def upd (H : Hp) (a : Addr) (o : HO) : Hp := fun b => if b = a then some o else H b
theorem upd_same {H : Hp} {a : Addr} {o : HO} : upd H a o a = some o := by unfold upd; rw [if_pos rfl]
theorem upd_ne {H : Hp} {a b : Addr} {o : HO} (h : b ≠ a) : upd H a o b = H b := by unfold upd; rw [if_neg h]
theorem ne_of {H : Hp} {a b : Addr} {o u : HO} (h : H a = some o) (h' : H b = some u) (d : o ≠ u) : a ≠ b := by
  intro e; subst e; rw [h] at h'; exact d (Option.some.inj h')
theorem ne_of_none {H : Hp} {a b : Addr} {o : HO} (h : H a = some o) (h' : H b = none) : a ≠ b := by
  intro e; subst e; rw [h] at h'; cases h'
def TupN (h : Heap) (a : Addr) (xs : Array Value) : Prop := IsTup h a xs ∧ ∃ o, h.get? a = some o ∧ o.dict = none
section
variable (P : Program) (w : World)
def ObjOk (H : Hp) (h : Heap) (a : Addr) : HO → Prop
  | .lst xs => xs.length ≤ sizeLine ∧ ∃ (its : List Value) (n : Nat), Vals xs its ∧ h.get? a = some { cls := .type "list", data := .seq its.toArray n }
  | .tup xs => xs.length ≤ sizeLine ∧ ∃ its : List Value, Vals xs its ∧ TupN h a its.toArray
  | .dK kvs => kvs.length ≤ sizeLine ∧ (a == sysModules) = false ∧ ∃ vs, KV kvs vs ∧ h.DictOf (mixKind P w) a vs
  | .dT kvs => kvs.length ≤ sizeLine ∧ (a == sysModules) = false ∧ ∃ xs : List (List Key × Addr × Value),
      Paired (fun (p : List Key × V) (q : List Key × Addr × Value) => p.1 = q.1 ∧ H q.2.1 = some (.tup (p.1.map kV)) ∧ RelV p.2 q.2.2) kvs xs ∧
      ∃ o es ep, h.get? a = some o ∧ o.ExactDict ∧ o.data = .dict es ep ∧ es.toList = xs.map (entryOfKey (tupleKind (mixKind P w))) ∧ (xs.map (·.1)).Nodup
  | .set S n => h.SetOf (intKind P w) a S n
  | .ins C dx fs => H dx = some (.own a) ∧ fs.length ≤ 1000 ∧ dx ≠ a ∧ h.get? a = some (PySem.W.instObj C dx) ∧
      ∃ mA, h.Ns1 dx mA ∧ (∀ f, RelO (fs.lookup f) (mA f)) ∧ PySem.Within mA (fs.map (·.1))
  | .own _ => ∃ o, h.get? a = some o
  | .xd fs => ∃ mA, h.Ns1 a mA ∧ ∀ f, RelO (fs.lookup f) (mA f)
  | .rng lo hi => ∃ t u v, h.get? a = some { cls := .type "range", data := .fields #[.int lo t, .int hi u, .int 1 v] }
  | .frz o u => h.get? a = some o ∧ ObjOk H h a u
  | .tbl ps => h.get? a = some { cls := .none, data := .fields ps }
  | .met f x => h.get? a = some (PySem.W.methodObj (.ref f) (.ref x))
  | .ext φ => φ h ∧ (∃ o, h.get? a = some o) ∧ ∀ h1 h2 : Heap, φ h1 → (∀ o, h1.get? a = some o → h2.get? a = some o) → φ h2
def HOk (H : Hp) (h : Heap) : Prop := ∀ a o, H a = some o → ObjOk P w H h a o
end

section
variable {P : Program} {w : World} {H H' : Hp} {h h' : Heap} {a : Addr} {o : HO}
theorem ObjOk.lt (x : ObjOk P w H h a o) : a < h.objs.size := by
  cases o with
  | lst xs => obtain ⟨_, _, _, _, e⟩ := x; exact Heap.lt_size e
  | tup xs => obtain ⟨_, _, _, p⟩ := x; exact p.1.lt
  | dK kvs => obtain ⟨_, _, _, _, o, _, _, e, _⟩ := x; exact Heap.lt_size e
  | dT kvs => obtain ⟨_, _, _, _, o, _, _, e, _⟩ := x; exact Heap.lt_size e
  | set S n => obtain ⟨o, _, _, _, e, _⟩ := x; exact Heap.lt_size e
  | ins C dx fs => obtain ⟨_, _, _, e, _⟩ := x; exact Heap.lt_size e
  | own y => obtain ⟨_, e⟩ := x; exact Heap.lt_size e
  | xd fs => obtain ⟨_, ⟨_, _, _, e, _⟩, _⟩ := x; exact Heap.lt_size e
  | rng lo hi => obtain ⟨_, _, _, e⟩ := x; exact Heap.lt_size e
  | frz ob u => obtain ⟨e, _⟩ := x; exact Heap.lt_size e
  | tbl ps => exact Heap.lt_size (show h.get? a = some _ from x)
  | met f y => exact Heap.lt_size (show h.get? a = some _ from x)
  | ext φ => obtain ⟨_, ⟨_, e⟩, _⟩ := x; exact Heap.lt_size e
theorem Paired.mapP {α β : Type} {F G : α → β → Prop} : ∀ {l₁ : List α} {l₂ : List β}, Paired F l₁ l₂ → (∀ a b, F a b → G a b) → Paired G l₁ l₂
  | _, _, .nil, _ => .nil
  | _, _, .cons r t, f => .cons (f _ _ r) (Paired.mapP t f)
theorem ObjOk.stay (x : ObjOk P w H h a o) (k : ∀ b u, (b = a ∨ H b = some (.own a)) → h.get? b = some u → h'.get? b = some u)
    (ho : ∀ b, H b = some (.own a) → H' b = some (.own a)) (ht : ∀ b xs, H b = some (.tup xs) → H' b = some (.tup xs)) : ObjOk P w H' h' a o := by
  induction o with
  | lst xs => obtain ⟨z, its, n, r, e⟩ := x; exact ⟨z, its, n, r, k _ _ (.inl rfl) e⟩
  | tup xs => obtain ⟨z, its, r, ⟨ob, e, c⟩, ⟨o2, e2, c2⟩⟩ := x; exact ⟨z, its, r, ⟨ob, k _ _ (.inl rfl) e, c⟩, ⟨o2, k _ _ (.inl rfl) e2, c2⟩⟩
  | dK kvs => obtain ⟨z, y, vs, r, ob, es, ep, e, c⟩ := x; exact ⟨z, y, vs, r, ob, es, ep, k _ _ (.inl rfl) e, c⟩
  | dT kvs =>
    obtain ⟨z, y, xs, r, ob, es, ep, e, c⟩ := x
    exact ⟨z, y, xs, Paired.mapP r fun p q z => ⟨z.1, ht _ _ z.2.1, z.2.2⟩, ob, es, ep, k _ _ (.inl rfl) e, c⟩
  | set S n => obtain ⟨ob, es, ep, t, e, c⟩ := x; exact ⟨ob, es, ep, t, k _ _ (.inl rfl) e, c⟩
  | ins C dx fs =>
    obtain ⟨d, z, ne, e, mA, ⟨od, es, ep, e2, c⟩, r⟩ := x
    exact ⟨ho _ d, z, ne, k _ _ (.inl rfl) e, mA, ⟨od, es, ep, k _ _ (.inr d) e2, c⟩, r⟩
  | own y => obtain ⟨ob, e⟩ := x; exact ⟨ob, k _ _ (.inl rfl) e⟩
  | xd fs => obtain ⟨mA, ⟨od, es, ep, e, c⟩, r⟩ := x; exact ⟨mA, ⟨od, es, ep, k _ _ (.inl rfl) e, c⟩, r⟩
  | rng lo hi => obtain ⟨t, u, v, e⟩ := x; exact ⟨t, u, v, k _ _ (.inl rfl) e⟩
  | frz ob u ih => obtain ⟨e, q⟩ := x; exact ⟨k _ _ (.inl rfl) e, ih q⟩
  | tbl ps =>
    have e : h.get? a = some { cls := .none, data := .fields ps } := x
    show h'.get? a = some { cls := .none, data := .fields ps }
    exact k a _ (.inl rfl) e
  | met f y =>
    have e : h.get? a = some (PySem.W.methodObj (.ref f) (.ref y)) := x
    show h'.get? a = some (PySem.W.methodObj (.ref f) (.ref y))
    exact k a _ (.inl rfl) e
  | ext φ => obtain ⟨p, ⟨o, e⟩, st⟩ := x; exact ⟨st _ _ p fun o q => k _ _ (.inl rfl) q, ⟨o, k _ _ (.inl rfl) e⟩, st⟩
theorem HOk.lt (x : HOk P w H h) (e : H a = some o) : a < h.objs.size := (x a o e).lt
theorem HOk.fresh (x : HOk P w H h) (e : h.objs.size ≤ a) : H a = none := by
  cases q : H a with
  | none => rfl
  | some u => exact absurd (Nat.lt_of_lt_of_le (x.lt q) e) (Nat.lt_irrefl _)
theorem HOk.kept (x : HOk P w H h) (k : ∀ b u, h.get? b = some u → h'.get? b = some u) : HOk P w H h' := fun a o e =>
  (x a o e).stay (fun b u _ q => k b u q) (fun _ q => q) fun _ _ q => q
theorem HOk.laid (x : HOk P w H h) (k : ∀ b u, h.get? b = some u → h'.get? b = some u) (hp : h.objs.size ≤ a) (new : ObjOk P w (upd H a o) h' a o) : HOk P w (upd H a o) h' := fun b u e => by
  have hn := x.fresh hp
  by_cases hb : b = a
  · subst hb; rw [upd_same] at e; cases e; exact new
  · rw [upd_ne hb] at e
    exact (x b u e).stay (fun c v _ q => k c v q) (fun c q => by rw [upd_ne (ne_of_none q hn)]; exact q) fun c xs q => by rw [upd_ne (ne_of_none q hn)]; exact q
end

def Rd (H : Hp) (a : Addr) (u : HO) : Prop := H a = some u ∨ ∃ o, H a = some (.frz o u)
theorem Rd.ok {P : Program} {w : World} {H : Hp} {h : Heap} {a : Addr} {u : HO} (r : Rd H a u) (x : HOk P w H h) : ObjOk P w H h a u := by
  rcases r with r | ⟨o, r⟩
  · exact x a u r
  · obtain ⟨_, q⟩ := x a _ r
    exact q
def Mut : Option HO → Prop
  | some (.lst _) => True
  | some (.dK _) => True
  | some (.dT _) => True
  | some (.set _ _) => True
  | some (.ins _ _ _) => True
  | some (.ext _) => True
  | _ => False
section
variable {P : Program} {w : World} {H : Hp} {h h' : Heap} {x e : Addr} {o' : HO}
theorem HOk.write (ok : HOk P w H h) (mu : Mut (H x)) (he : e = x ∨ H e = some (.own x)) (k : ∀ b u, b ≠ e → h.get? b = some u → h'.get? b = some u) (heo : ∃ u, h'.get? e = some u)
    (new : ObjOk P w (upd H x o') h' x o') : HOk P w (upd H x o') h' := fun b u q => by
  have nown : ∀ c y, H c = some (.own y) → c ≠ x := fun c y r z => by subst z; rw [r] at mu; exact mu
  have ntup : ∀ c xs, H c = some (.tup xs) → c ≠ x := fun c xs r z => by subst z; rw [r] at mu; exact mu
  by_cases hb : b = x
  · subst hb; rw [upd_same] at q; cases q; exact new
  · rw [upd_ne hb] at q
    by_cases hbe : b = e
    · have q' : H b = some (.own x) := by
        rcases he with z | z
        · exact absurd (hbe.trans z) hb
        · rw [hbe]; exact z
      rw [q] at q'; cases q'
      obtain ⟨v, hv⟩ := heo
      exact ⟨v, by rw [hbe]; exact hv⟩
    · refine (ok b u q).stay (fun c v hc r => k c v ?_ r) (fun c r => by rw [upd_ne (nown c b r)]; exact r) fun c xs r => by rw [upd_ne (ntup c xs r)]; exact r
      rcases hc with rfl | hc
      · exact hbe
      · rintro rfl
        rcases he with z | z
        · exact nown c b hc z
        · rw [hc] at z; cases z; exact hb rfl
end

structure Un (fs ex : List Addr) (H H' : Hp) (h h' : Heap) : Prop where
  keep : ∀ b o, h.get? b = some o → H b = none → b ∉ fs → b ∉ ex → h'.get? b = some o
  slot : ∀ b o, h.get? b = some o → H b = none → b ∈ fs → b ∉ ex → ∃ sl, h'.get? b = some { o with slots := sl }
  free : ∀ b o, h.get? b = some o → H b = none → b ∉ ex → H' b = none
  there : ∀ b o, h.get? b = some o → b ∉ ex → ∃ o', h'.get? b = some o'
  tups : ∀ b xs, H b = some (.tup xs) → H' b = some (.tup xs)
  frzs : ∀ b o u, H b = some (.frz o u) → H' b = some (.frz o u)
  tbls : ∀ b ps, H b = some (.tbl ps) → ∃ more, H' b = some (.tbl (ps ++ more))
section
variable {fs fs' ex ex' : List Addr} {H H1 H2 : Hp} {h h1 h2 h' : Heap} {a x e : Addr} {o : HO}
theorem Un.any (u : Un fs ex H H1 h h1) {b : Addr} {ob : Obj} (q : h.get? b = some ob) (n : H b = none) (hx : b ∉ ex) : ∃ sl, h1.get? b = some { ob with slots := sl } := by
  by_cases hb : b ∈ fs
  · exact u.slot b ob q n hb hx
  · exact ⟨ob.slots, u.keep b ob q n hb hx⟩
theorem Un.kept (k : ∀ b u, h.get? b = some u → h'.get? b = some u) : Un fs ex H H h h' :=
  ⟨fun b ob q _ _ _ => k b ob q, fun b ob q _ _ _ => ⟨ob.slots, k b ob q⟩, fun _ _ _ n _ => n, fun b ob q _ => ⟨ob, k b ob q⟩, fun _ _ q => q, fun _ _ _ q => q, fun _ ps q => ⟨#[], by rw [q]; simp⟩⟩
theorem Un.refl : Un fs ex H H h h := Un.kept fun _ _ q => q
theorem Un.laid (k : ∀ b u, h.get? b = some u → h'.get? b = some u) (hp : h.objs.size ≤ a) (hn : H a = none) : Un fs ex H (upd H a o) h h' where
  keep := fun b u q _ _ _ => k b u q
  slot := fun b u q _ _ _ => ⟨u.slots, k b u q⟩
  free := fun b u q n _ => by rw [upd_ne (Nat.ne_of_lt (Nat.lt_of_lt_of_le (Heap.lt_size q) hp))]; exact n
  there := fun b u q _ => ⟨u, k b u q⟩
  tups := fun b xs q => by rw [upd_ne (ne_of_none q hn)]; exact q
  frzs := fun b u xs q => by rw [upd_ne (ne_of_none q hn)]; exact q
  tbls := fun b ps q => ⟨#[], by rw [upd_ne (ne_of_none q hn), q]; simp⟩
theorem Un.write (mu : Mut (H x)) (he : e = x ∨ H e = some (.own x)) (k : ∀ b u, b ≠ e → h.get? b = some u → h'.get? b = some u) (heo : ∃ u, h'.get? e = some u) : Un fs ex H (upd H x o) h h' := by
  have hx : ∀ b, H b = none → b ≠ x := fun b n z => by subst z; rw [n] at mu; exact mu
  have hb : ∀ b, H b = none → b ≠ e := fun b n z => by
    subst z
    rcases he with r | r
    · exact hx b n r
    · rw [n] at r; cases r
  have hm : ∀ b u, H b = some u → ¬ Mut (some u) → b ≠ x := fun b u q nm z => by subst z; rw [q] at mu; exact nm mu
  refine ⟨fun b u q n _ _ => k b u (hb b n) q, fun b u q n _ _ => ⟨u.slots, k b u (hb b n) q⟩, fun b u q n _ => by rw [upd_ne (hx b n)]; exact n, fun b u q _ => ?_,
    fun b xs q => by rw [upd_ne (hm b _ q fun z => z)]; exact q, fun b u xs q => by rw [upd_ne (hm b _ q fun z => z)]; exact q, fun b ps q => ⟨#[], by rw [upd_ne (hm b _ q fun z => z), q]; simp⟩⟩
  by_cases hbe : b = e
  · subst hbe; exact heo
  · exact ⟨u, k b u hbe q⟩
end

def trk (h : Heap) (H : Hp) : List Addr := (List.range h.objs.size).filter fun a => (H a).isSome
def hidT (h : Heap) (H : Hp) : Heap := PySem.W.hideAll h (trk h H)
theorem hidT_size (h : Heap) (H : Hp) : (hidT h H).objs.size = h.objs.size := PySem.W.hideAll_size _ _
theorem hidT_get {h : Heap} {H : Hp} {b : Addr} {o : Obj} (e : h.get? b = some o) (n : H b = none) : (hidT h H).get? b = some o :=
  PySem.W.hideAll_get _ e fun hm => by
    have q : (H b).isSome = true := (List.mem_filter.mp hm).2
    rw [n] at q; simp at q
theorem of_hidT {h : Heap} {H : Hp} {b : Addr} {o : Obj} (e : (hidT h H).get? b = some o) : h.get? b = some o ∧ H b = none := by
  have e' : h.get? b = some o := PySem.W.of_hideAll (trk h H) e
  refine ⟨e', ?_⟩
  cases q : H b with
  | none => rfl
  | some x =>
    have hm : b ∈ trk h H := List.mem_filter.mpr ⟨List.mem_range.mpr (Heap.lt_size e'), by simp [q]⟩
    have z : (hidT h H).get? b = none := PySem.W.hideAll_none (trk h H) hm
    rw [z] at e; cases e
def allNews (g h : Heap) (L : Addr) : List (Addr × Obj) := (List.range h.objs.size).filterMap fun a => if a = L ∨ (g.get? a).isSome = true then none else (h.get? a).map fun o => (a, o)
def rest (g h : Heap) (L d : Addr) : List (Addr × Obj) := (allNews g h L).filter fun p => decide (p.1 ≠ d)
end L2

namespace L2
open PySem PySem.Spec PyProof.Rows

structure Mod (K : PySem.W.Frag) (mg : Str → Option Value) (base : Heap) : Prop where
  kin : K.In base
  glob : base.Ns mainGlobals mg
  blt : ∃ mb, base.Ns builtinsNs mb ∧ ∀ x : Str, x ≠ "__name__" → mb x = bootBuiltins x
  nolimit : base.NoLimit
structure Cx where
  prog : Program
  w : World
  K : PySem.W.Frag
  mg : Str → Option Value
  base : Heap
  A : Around
  N : List Str
  s_0 : Shared
  H_0 : Hp
  env : Env
  outer : List Env
  stack : List Env
  ex : List Addr
  fn : Str → Bool
  calm : Bool
  pn : List (Addr × Obj)
  xe : Value → Shared → Prop
def frs (l : List Env) : List Addr := l.filterMap (·.frame)
abbrev Cx.fs (X : Cx) : List Addr := frs X.outer
def Vis (sc : Scope) (x : Str) : Prop := sc.names.lookup x = some .local ∨ sc.names.lookup x = some .cell ∨ sc.names.lookup x = some .free
def Loc (sc : Scope) (x : Str) : Prop := sc.names.lookup x = some .local ∨ sc.names.lookup x = some .cell
def Look (env : Env) (h : Heap) (m : Str → Option Value) (x : Str) (u : Value) : Prop :=
  (env.kindOf x = some .local ∧ m x = some u) ∨ ((env.kindOf x = some .cell ∨ env.kindOf x = some .free) ∧ ∃ c, env.cells.lookup x = some c ∧ h.IsCell c (some u))
structure Cx.Ok (X : Cx) : Prop where
  mod : Mod X.K X.mg X.base
  kind : X.env.scope.kind = .function
  glob : X.env.globals = mainGlobals
  blt : X.env.builtins = builtinsNs
  above : X.s_0.heap.objs.size ≤ X.env.locals
  inj : ∀ x y c, X.env.cells.lookup x = some c → X.env.cells.lookup y = some c → x = y
  has : ∀ x, (X.env.kindOf x = some .cell ∨ X.env.kindOf x = some .free) → ∃ c, X.env.cells.lookup x = some c
  cab : ∀ x c, X.fn x = true → X.env.cells.lookup x = some c → X.s_0.heap.objs.size ≤ c
  hd : X.calm = true → X.A.handled = none
  frames : X.A.frames = some X.stack
  stk : X.stack = X.outer ∨ (X.stack = X.env :: X.outer ∧ X.env.frame = some X.env.locals)
  exf : ∀ b ∈ X.ex, b ≠ X.env.locals ∧ ∀ x c, X.env.cells.lookup x = some c → c ≠ b
  bs : ∀ b o, X.base.get? b = some o → X.s_0.heap.get? b = some o ∧ X.H_0 b = none
  bsz : X.base.objs.size ≤ X.s_0.heap.objs.size
  noex : ∀ b o, X.base.get? b = some o → b ∉ X.ex
  exfs : ∀ b ∈ X.ex, b ∉ X.fs
  funs : X.s_0.heap.FunFrames X.base X.outer
  frf : ∀ b ∈ X.fs, X.H_0 b = none
structure Inv (X : Cx) (pins : List (Addr × Obj)) (σ : List (Option V)) (H : Hp) (s : Shared) : Prop where
  ok : X.Ok
  os : s.os = X.s_0.os
  bare : AllBare s.gens
  base : Un X.fs X.ex X.H_0 H X.s_0.heap s.heap
  loc : ∃ m, s.heap.Ns X.env.locals m ∧ ∀ (i : Nat) (x : Str) (v : V), X.N[i]? = some x → σ[i]? = some (some v) → Vis X.env.scope x → ∃ u, RelV v u ∧ Look X.env s.heap m x u
  cell : ∀ x c, X.env.cells.lookup x = some c → ∃ v, s.heap.IsCell c v
  free : H X.env.locals = none
  freeC : ∀ x c, X.env.cells.lookup x = some c → H c = none
  pin : ∀ p ∈ X.pn ++ pins, s.heap.get? p.1 = some p.2 ∧ H p.1 = none ∧ p.1 ≠ X.env.locals ∧ p.1 ∉ X.fs ∧ ∀ v, p.2.data ≠ .cell v
  hok : HOk X.prog X.w H s.heap
  len : σ.length = X.N.length
section
variable {X : Cx} {pins : List (Addr × Obj)} {σ : List (Option V)} {H H' : Hp} {s : Shared} {h' : Heap}

theorem Cx.Ok.nofr (ok : X.Ok) {b : Addr} {o : Obj} (e : X.base.get? b = some o) : b ∉ X.fs := fun hb => by
  have := (ok.funs.mem hb).1
  rw [e] at this; cases this
theorem Inv.bs (I : Inv X pins σ H s) : ∀ b o, X.base.get? b = some o → s.heap.get? b = some o ∧ H b = none := fun b o e =>
  ⟨I.base.keep b o (I.ok.bs b o e).1 (I.ok.bs b o e).2 (I.ok.nofr e) (I.ok.noex b o e), I.base.free b o (I.ok.bs b o e).1 (I.ok.bs b o e).2 (I.ok.noex b o e)⟩
theorem Inv.bk (I : Inv X pins σ H s) : ∀ b o, X.base.get? b = some o → s.heap.get? b = some o := fun b o e => (I.bs b o e).1
theorem Inv.mod (I : Inv X pins σ H s) : Mod X.K X.mg X.base := I.ok.mod
theorem Inv.kIn (I : Inv X pins σ H s) : X.K.In s.heap := I.ok.mod.kin.keeps I.bk
theorem Inv.fr (I : Inv X pins σ H s) : ∃ m, Fr X.base X.env.locals s.heap m :=
  let ⟨m, hn, _⟩ := I.loc
  ⟨m, hn, I.bk, Nat.le_trans I.ok.bsz I.ok.above⟩
theorem Inv.lt (I : Inv X pins σ H s) : X.env.locals < s.heap.objs.size := let ⟨_, hn, _⟩ := I.loc; hn.lt
theorem Inv.sz (I : Inv X pins σ H s) : X.s_0.heap.objs.size ≤ s.heap.objs.size := Nat.le_trans I.ok.above (Nat.le_of_lt I.lt)
theorem Inv.nofs (I : Inv X pins σ H s) {a : Addr} (h : s.heap.objs.size ≤ a) : a ∉ X.fs := fun hb => by
  obtain ⟨_, o, ho, _⟩ := I.ok.funs.mem hb
  exact absurd (Nat.lt_of_lt_of_le (Heap.lt_size ho) (Nat.le_trans I.sz h)) (Nat.lt_irrefl _)
theorem Inv.cne (I : Inv X pins σ H s) : ∀ x c, X.env.cells.lookup x = some c → c ≠ X.env.locals := fun x c e z => by
  obtain ⟨v, o, ho, hd⟩ := I.cell x c e
  obtain ⟨m, ⟨o', es, ep, ho', hd', _⟩, _⟩ := I.loc
  rw [z, ho'] at ho; cases ho; rw [hd'] at hd; cases hd
theorem Inv.funs (I : Inv X pins σ H s) : s.heap.FunFrames X.base X.outer := by
  have all : ∀ (l : List Env), (∀ b ∈ frs l, b ∈ X.fs) → X.s_0.heap.FunFrames X.base l → s.heap.FunFrames X.base l := by
    intro l
    induction l with
    | nil => intro _ _; trivial
    | cons env r ih =>
      intro hs hl
      obtain ⟨hk, ⟨L, o, hf, hn, ho, hd⟩, hr⟩ := hl
      have hL : L ∈ X.fs := hs L (by unfold frs; rw [List.filterMap_cons, hf]; exact List.mem_cons_self)
      obtain ⟨sl, e⟩ := I.base.slot L o ho (I.ok.frf L hL) hL fun z => I.ok.exfs L z hL
      exact ⟨hk, ⟨L, _, hf, hn, e, hd⟩, ih (fun b hb => hs b (by unfold frs; rw [List.filterMap_cons, hf]; exact List.mem_cons_of_mem _ hb)) hr⟩
  exact all X.outer (fun _ hb => hb) I.ok.funs
theorem Inv.stack (I : Inv X pins σ H s) : s.heap.FunFrames X.base X.stack := by
  rcases I.ok.stk with e | ⟨e, hf⟩
  · rw [e]; exact I.funs
  · rw [e]
    obtain ⟨m, hn, _⟩ := I.loc
    refine .cons (by rw [I.ok.kind]; decide) hf hn ?_ I.funs
    exact Heap.get?_none_of_le (Nat.le_trans I.ok.bsz I.ok.above)
theorem Inv.stkSub (I : Inv X pins σ H s) : ∀ b ∈ frs X.stack, b ∈ X.env.locals :: X.fs := fun b hb => by
  rcases I.ok.stk with e | ⟨e, hf⟩
  · rw [e] at hb; exact List.mem_cons_of_mem _ hb
  · rw [e] at hb
    unfold frs at hb
    rw [List.filterMap_cons, hf] at hb
    exact hb
theorem Inv.stkFree (I : Inv X pins σ H s) : ∀ b ∈ frs X.stack, H b = none := fun b hb => by
  rcases List.mem_cons.mp (I.stkSub b hb) with e | hb
  · rw [e]; exact I.free
  · obtain ⟨_, o, ho, _⟩ := I.ok.funs.mem hb
    exact I.base.free b o ho (I.ok.frf b hb) fun z => I.ok.exfs b z hb
theorem Inv.step {g' : Array GenState} {t' : Nat} {d' : Drawn} {ch : List Addr} (I : Inv X pins σ H s)
    (hch : ∀ b ∈ ch, (b ∈ X.ex ∨ X.s_0.heap.objs.size ≤ b) ∧ b ≠ X.env.locals ∧ (∀ x c, X.env.cells.lookup x = some c → c ≠ b) ∧ ∀ p ∈ X.pn ++ pins, p.1 ≠ b)
    (keep : ∀ b o, b ≠ X.env.locals → b ∉ X.fs → b ∉ ch → s.heap.get? b = some o → H b = none → h'.get? b = some o)
    (slot : ∀ b o, b ≠ X.env.locals → b ∈ X.fs → b ∉ ch → s.heap.get? b = some o → H b = none → ∃ sl, h'.get? b = some { o with slots := sl }) (free : ∀ b o, b ∉ ch → s.heap.get? b = some o → H b = none → H' b = none)
    (there : ∀ b o, b ∉ ch → s.heap.get? b = some o → ∃ o', h'.get? b = some o')
    (tups : ∀ b xs, H b = some (.tup xs) → H' b = some (.tup xs)) (frzs : ∀ b o u, H b = some (.frz o u) → H' b = some (.frz o u)) (tbls : ∀ b ps, H b = some (.tbl ps) → ∃ more, H' b = some (.tbl (ps ++ more)))
    (ns : ∀ m, s.heap.Ns X.env.locals m → h'.Ns X.env.locals m) (hok : HOk X.prog X.w H' h') (hg : AllBare g') :
    Inv X pins σ H' { s with heap := h', gens := g', drawn := d', toks := t' } := by
  have neL : ∀ b o, X.s_0.heap.get? b = some o → b ≠ X.env.locals := fun b o e => Nat.ne_of_lt (Nat.lt_of_lt_of_le (Heap.lt_size e) I.ok.above)
  have neC : ∀ b o, X.s_0.heap.get? b = some o → b ∉ X.ex → b ∉ ch := fun b o e hx hb => by
    rcases (hch b hb).1 with z | z
    · exact hx z
    · exact absurd (Nat.lt_of_lt_of_le (Heap.lt_size e) z) (Nat.lt_irrefl _)
  have cellK : ∀ x c, X.env.cells.lookup x = some c → ∀ v, s.heap.IsCell c v → h'.IsCell c v := fun x c e v ⟨o, ho, hd⟩ => by
    have nch : c ∉ ch := fun z => (hch c z).2.2.1 x c e rfl
    by_cases hc : c ∈ X.fs
    · obtain ⟨sl, q⟩ := slot c o (I.cne x c e) hc nch ho (I.freeC x c e)
      exact ⟨_, q, hd⟩
    · exact ⟨o, keep c o (I.cne x c e) hc nch ho (I.freeC x c e), hd⟩
  refine ⟨I.ok, I.os, hg, ⟨fun b o e n hb hx => ?_, fun b o e n hb hx => ?_, fun b o e n hx => ?_, fun b o e hx => ?_, fun b xs e => tups b xs (I.base.tups b xs e), fun b o xs e => frzs b o xs (I.base.frzs b o xs e), fun b ps e => ?_⟩, ?_, fun x c e => ?_, ?_, fun x c e => ?_, fun p hp => ?_, hok, I.len⟩
  · exact keep b o (neL b o e) hb (neC b o e hx) (I.base.keep b o e n hb hx) (I.base.free b o e n hx)
  · obtain ⟨sl, e1⟩ := I.base.slot b o e n hb hx
    obtain ⟨sl', e2⟩ := slot b _ (neL b o e) hb (neC b o e hx) e1 (I.base.free b o e n hx)
    exact ⟨sl', e2⟩
  · obtain ⟨o', e1⟩ := I.base.there b o e hx
    exact free b o' (neC b o e hx) e1 (I.base.free b o e n hx)
  · obtain ⟨o', e1⟩ := I.base.there b o e hx
    exact there b o' (neC b o e hx) e1
  · obtain ⟨m1, e1⟩ := I.base.tbls b ps e
    obtain ⟨m2, e2⟩ := tbls b _ e1
    exact ⟨m1 ++ m2, by rw [e2, Array.append_assoc]⟩
  · obtain ⟨m, hn, hl⟩ := I.loc
    refine ⟨m, ns m hn, fun i x v e1 e2 e3 => ?_⟩
    obtain ⟨u, r, l⟩ := hl i x v e1 e2 e3
    refine ⟨u, r, ?_⟩
    rcases l with l | ⟨k, c, e, z⟩
    · exact .inl l
    · exact .inr ⟨k, c, e, cellK x c e _ z⟩
  · obtain ⟨v, z⟩ := I.cell x c e
    exact ⟨v, cellK x c e v z⟩
  · obtain ⟨m, ⟨o, _, _, ho, _⟩, _⟩ := I.loc
    exact free _ o (fun z => (hch _ z).2.1 rfl) ho I.free
  · obtain ⟨v, o, ho, hd⟩ := I.cell x c e
    exact free c o (fun z => (hch c z).2.2.1 x c e rfl) ho (I.freeC x c e)
  · obtain ⟨e, n, ne, nf, d⟩ := I.pin p hp
    have nch : p.1 ∉ ch := fun z => (hch p.1 z).2.2.2 p hp rfl
    exact ⟨keep p.1 p.2 ne nf nch e n, free p.1 p.2 nch e n, ne, nf, d⟩
theorem Inv.un {t' : Nat} (I : Inv X pins σ H s) (u : Un X.fs [] H H' s.heap h') (hok : HOk X.prog X.w H' h') : Inv X pins σ H' { s with heap := h', toks := t' } := by
  obtain ⟨m, ⟨o, es, ep, ho, r⟩, _⟩ := id I.loc
  obtain ⟨sl, hL⟩ := u.any ho I.free (by simp)
  exact I.step (g' := s.gens) (d' := s.drawn) (ch := []) (fun _ z => nomatch z) (fun b o _ hb _ e n => u.keep b o e n hb (by simp)) (fun b o _ hb _ e n => u.slot b o e n hb (by simp)) (fun b o _ e n => u.free b o e n (by simp)) (fun b o _ e => u.there b o e (by simp)) u.tups u.frzs u.tbls (fun m' hm => by
    obtain ⟨o', es', ep', ho', r'⟩ := hm
    rw [ho] at ho'; cases ho'
    exact ⟨_, es', ep', hL, r'⟩) hok I.bare
theorem Inv.call {g' : Array GenState} {t' : Nat} {d' : Drawn} {ch : List Addr} (I : Inv X pins σ H s) (u : Un (frs X.stack) ch H H' s.heap h') (hok : HOk X.prog X.w H' h') (hg : AllBare g')
    (hch : ∀ b ∈ ch, (b ∈ X.ex ∨ X.s_0.heap.objs.size ≤ b) ∧ b ≠ X.env.locals ∧ (∀ x c, X.env.cells.lookup x = some c → c ≠ b) ∧ ∀ p ∈ X.pn ++ pins, p.1 ≠ b) :
    Inv X pins σ H' { s with heap := h', gens := g', drawn := d', toks := t' } := by
  obtain ⟨m, ⟨o, es, ep, ho, r⟩, _⟩ := id I.loc
  obtain ⟨sl, hL⟩ := u.any ho I.free fun z => (hch _ z).2.1 rfl
  exact I.step (ch := ch) hch (fun b o hL hb hc e n => u.keep b o e n (fun z => (List.mem_cons.mp (I.stkSub b z)).elim hL hb) hc) (fun b o _ _ hc e n => u.any e n hc) (fun b o hc e n => u.free b o e n hc) (fun b o hc e => u.there b o e hc) u.tups u.frzs u.tbls (fun m' hm => by
    obtain ⟨o', es', ep', ho', r'⟩ := hm
    rw [ho] at ho'; cases ho'
    exact ⟨_, es', ep', hL, r'⟩) hok hg
theorem Inv.turned {t' : Nat} {it : Addr} (I : Inv X pins σ H s) (k : ∀ b o, b ≠ it → s.heap.get? b = some o → h'.get? b = some o) (hn : H it = none) (hL : it ≠ X.env.locals)
    (h1 : it ∈ X.ex ∨ X.s_0.heap.objs.size ≤ it) (h2 : ∀ x c, X.env.cells.lookup x = some c → c ≠ it) (h3 : ∀ p ∈ X.pn ++ pins, p.1 ≠ it) : Inv X pins σ H { s with heap := h', toks := t' } := by
  have nit : ∀ b u, H b = some u → b ≠ it := fun b u e z => by rw [z, hn] at e; cases e
  refine I.step (g' := s.gens) (d' := s.drawn) (ch := [it]) (fun b hb => ?_) (fun b o _ _ hc e _ => k b o (fun z => hc (by simp [z])) e) (fun b o _ _ hc e _ => ⟨o.slots, k b o (fun z => hc (by simp [z])) e⟩) (fun _ _ _ _ n => n)
    (fun b o hc e => ⟨o, k b o (fun z => hc (by simp [z])) e⟩) (fun _ _ e => e) (fun _ _ _ e => e) (fun b ps e => ⟨#[], by rw [e]; simp⟩) (fun m hm => ?_) (fun b u e => ?_) I.bare
  · have e : b = it := by simpa using hb
    subst e
    exact ⟨h1, hL, h2, h3⟩
  · obtain ⟨o, es, ep, ho, r⟩ := hm
    exact ⟨o, es, ep, k _ o (Ne.symm hL) ho, r⟩
  · refine (I.hok b u e).stay (fun c v hc q => k c v ?_ q) (fun _ q => q) fun _ _ q => q
    rcases hc with z | z
    · rw [z]; exact nit b u e
    · exact nit c _ z
theorem Inv.tok (I : Inv X pins σ H s) (t : Nat) : Inv X pins σ H { s with toks := t } := I.un (h' := s.heap) (t' := t) Un.refl I.hok
theorem Inv.kept {t' : Nat} (I : Inv X pins σ H s) (k : ∀ b u, s.heap.get? b = some u → h'.get? b = some u) : Inv X pins σ H { s with heap := h', toks := t' } := I.un (Un.kept k) (I.hok.kept k)
theorem Inv.laid {a : Addr} {o : HO} {t' : Nat} (I : Inv X pins σ H s) (k : ∀ b u, s.heap.get? b = some u → h'.get? b = some u) (hp : s.heap.objs.size ≤ a) (new : ObjOk X.prog X.w (upd H a o) h' a o) :
    Inv X pins σ (upd H a o) { s with heap := h', toks := t' } := I.un (Un.laid k hp (I.hok.fresh hp)) (I.hok.laid k hp new)
theorem Inv.write {x e : Addr} {o : HO} {t' : Nat} (I : Inv X pins σ H s) (mu : Mut (H x)) (he : e = x ∨ H e = some (.own x)) (k : ∀ b u, b ≠ e → s.heap.get? b = some u → h'.get? b = some u) (heo : ∃ u, h'.get? e = some u)
    (new : ObjOk X.prog X.w (upd H x o) h' x o) : Inv X pins σ (upd H x o) { s with heap := h', toks := t' } := I.un (Un.write mu he k heo) (I.hok.write mu he k heo new)
theorem Inv.weak {σ' : List (Option V)} (I : Inv X pins σ H s) (hl : σ'.length = σ.length) (w : ∀ (i : Nat) v, σ'[i]? = some (some v) → σ[i]? = some (some v)) : Inv X pins σ' H s :=
  ⟨I.ok, I.os, I.bare, I.base, let ⟨m, hn, hl'⟩ := I.loc; ⟨m, hn, fun i x v e1 e2 e3 => hl' i x v e1 (w i v e2) e3⟩, I.cell, I.free, I.freeC, I.pin, I.hok, hl.trans I.len⟩
theorem Inv.pins_of {pins' : List (Addr × Obj)} (I : Inv X pins σ H s) (h : ∀ p ∈ pins', s.heap.get? p.1 = some p.2 ∧ H p.1 = none ∧ p.1 ≠ X.env.locals ∧ p.1 ∉ X.fs ∧ ∀ v, p.2.data ≠ .cell v) : Inv X pins' σ H s :=
  ⟨I.ok, I.os, I.bare, I.base, I.loc, I.cell, I.free, I.freeC, fun p hp => (List.mem_append.mp hp).elim (fun z => I.pin p (List.mem_append_left _ z)) (h p), I.hok, I.len⟩
theorem nodup_ix {N : List Str} (hN : N.Nodup) {i j : Nat} {x : Str} (a : N[i]? = some x) (b : N[j]? = some x) : i = j := by
  obtain ⟨h1, e1⟩ := List.getElem?_eq_some_iff.mp a
  obtain ⟨h2, e2⟩ := List.getElem?_eq_some_iff.mp b
  exact (List.getElem_inj hN).mp (e1.trans e2.symm)
theorem store_ok2 {M : Model} {A : Around} {E : Value → Shared → Prop} {i : Nat} {x : Str} {v : V} {u : Value} {Q : Unit → Shared → Prop} (I : Inv X pins σ H s) (hN : X.N.Nodup) (hi : X.N[i]? = some x) (hx : Loc X.env.scope x) (r : RelV v u)
    (h : ∀ s', Inv X pins (σ.set i (some v)) H s' → (∃ a, Heap.SameBut a s.heap s'.heap ∧ (a = X.env.locals ∨ X.env.cells.lookup x = some a)) → Q () s') (hf : X.fn x = true ∨ X.env.scope.names.lookup x = some .local := by first | exact .inl rfl | exact .inr rfl | assumption) : wpAny M A (storeName X.env x u) Q E s := by
  obtain ⟨m, hn, hl⟩ := id I.loc
  have hcls : (X.env.scope.kind == .class || (X.env.scope.kind == .module && X.env.locals != X.env.globals)) = false := by rw [I.ok.kind]; rfl
  have hiσ : i < σ.length := by rw [I.len]; exact (List.getElem?_eq_some_iff.mp hi).1
  have cne := I.cne
  have tracked : ∀ {a : Addr} {h' : Heap}, (∃ o, s.heap.get? a = some o ∧ H a = none) → Heap.SameBut a s.heap h' → HOk X.prog X.w H h' := fun {a h'} ha hs b ob e => by
    obtain ⟨_, _, hfree⟩ := ha
    refine (I.hok b ob e).stay (fun c w' hc q => (hs.2 c ?_).trans q) (fun _ q => q) fun _ _ q => q
    rintro rfl
    rcases hc with rfl | hc
    · rw [hfree] at e; cases e
    · rw [hfree] at hc; cases hc
  rcases hx with hk | hk
  · refine wpAny_storeName_local hk hn (fun h' hn' hs => ?_) hcls
    obtain ⟨oL, _, _, hoL, _⟩ := id hn
    refine h _ ⟨I.ok, I.os, I.bare, ⟨fun b o e n hb hx => ?_, fun b o e n hb hx => ?_, I.base.free, fun b o e hx => ?_, I.base.tups, I.base.frzs, I.base.tbls⟩, ⟨_, hn', fun j y v' e1 e2 e3 => ?_⟩, fun y c e => ?_, I.free, I.freeC, fun p hp => ?_, tracked ⟨oL, hoL, I.free⟩ hs, by simpa using I.len⟩ ⟨_, hs, .inl rfl⟩
    · exact (hs.2 b (Nat.ne_of_lt (Nat.lt_of_lt_of_le (Heap.lt_size e) I.ok.above))).trans (I.base.keep b o e n hb hx)
    · obtain ⟨sl, e1⟩ := I.base.slot b o e n hb hx
      exact ⟨sl, (hs.2 b (Nat.ne_of_lt (Nat.lt_of_lt_of_le (Heap.lt_size e) I.ok.above))).trans e1⟩
    · obtain ⟨o', e1⟩ := I.base.there b o e hx
      exact ⟨o', (hs.2 b (Nat.ne_of_lt (Nat.lt_of_lt_of_le (Heap.lt_size e) I.ok.above))).trans e1⟩
    · by_cases hj : j = i
      · subst hj
        rw [hi] at e1; cases e1
        rw [List.getElem?_set_self hiσ] at e2
        cases e2
        exact ⟨u, r, .inl ⟨hk, by simp⟩⟩
      · rw [List.getElem?_set_ne (Ne.symm hj)] at e2
        obtain ⟨u', r', q⟩ := hl j y v' e1 e2 e3
        refine ⟨u', r', ?_⟩
        rcases q with ⟨k, e⟩ | ⟨k, c, e, z⟩
        · refine .inl ⟨k, ?_⟩
          have : y ≠ x := fun e => hj (nodup_ix hN e1 (e ▸ hi))
          simp [this, e]
        · exact .inr ⟨k, c, e, z.sameBut hs (cne y c e)⟩
    · obtain ⟨w', z⟩ := I.cell y c e
      exact ⟨w', z.sameBut hs (cne y c e)⟩
    · obtain ⟨e, n, ne, nf, d⟩ := I.pin p hp
      exact ⟨(hs.2 p.1 ne).trans e, n, ne, nf, d⟩
  · have hfn : X.fn x = true := by
      rcases hf with z | z
      · exact z
      · rw [z] at hk; cases hk
    obtain ⟨c, hc⟩ := I.ok.has x (.inl hk)
    obtain ⟨w', z⟩ := I.cell x c hc
    refine wpAny_storeName_cell I.ok.kind hk hc z (fun h' hc' hs => ?_)
    obtain ⟨oc, hoc, hocd⟩ := id z
    refine h { s with heap := h' } ⟨I.ok, I.os, I.bare, ⟨fun b o e n hb hx => ?_, fun b o e n hb hx => ?_, I.base.free, fun b o e hx => ?_, I.base.tups, I.base.frzs, I.base.tbls⟩, ⟨m, hn.sameBut hs (Ne.symm (cne x c hc)), fun j y v' e1 e2 e3 => ?_⟩, fun y c' e => ?_, I.free, I.freeC, fun p hp => ?_, tracked ⟨oc, hoc, I.freeC x c hc⟩ hs, by simpa using I.len⟩ ⟨c, hs, .inr hc⟩
    · exact (hs.2 b (Nat.ne_of_lt (Nat.lt_of_lt_of_le (Heap.lt_size e) (I.ok.cab x c hfn hc)))).trans (I.base.keep b o e n hb hx)
    · obtain ⟨sl, e1⟩ := I.base.slot b o e n hb hx
      exact ⟨sl, (hs.2 b (Nat.ne_of_lt (Nat.lt_of_lt_of_le (Heap.lt_size e) (I.ok.cab x c hfn hc)))).trans e1⟩
    · obtain ⟨o', e1⟩ := I.base.there b o e hx
      exact ⟨o', (hs.2 b (Nat.ne_of_lt (Nat.lt_of_lt_of_le (Heap.lt_size e) (I.ok.cab x c hfn hc)))).trans e1⟩
    · by_cases hj : j = i
      · subst hj
        rw [hi] at e1; cases e1
        rw [List.getElem?_set_self hiσ] at e2
        cases e2
        exact ⟨u, r, .inr ⟨.inl hk, c, hc, hc'⟩⟩
      · rw [List.getElem?_set_ne (Ne.symm hj)] at e2
        obtain ⟨u', r', q⟩ := hl j y v' e1 e2 e3
        refine ⟨u', r', ?_⟩
        rcases q with q | ⟨k, c', e, z'⟩
        · exact .inl q
        · refine .inr ⟨k, c', e, z'.sameBut hs ?_⟩
          rintro rfl
          exact hj (nodup_ix hN e1 (I.ok.inj _ _ _ e hc ▸ hi))
    · by_cases hcc : c' = c
      · subst hcc; exact ⟨_, hc'⟩
      · obtain ⟨w2, z2⟩ := I.cell y c' e
        exact ⟨w2, z2.sameBut hs hcc⟩
    · obtain ⟨e, n, ne, nf, d⟩ := I.pin p hp
      refine ⟨(hs.2 p.1 ?_).trans e, n, ne, nf, d⟩
      intro q
      rw [q, hoc] at e
      have q' : oc = p.2 := Option.some.inj e
      exact d w' (by rw [← q']; exact hocd)
theorem store_ok {M : Model} {A : Around} {E : Value → Shared → Prop} {i : Nat} {x : Str} {v : V} {u : Value} {Q : Unit → Shared → Prop} (I : Inv X pins σ H s) (hN : X.N.Nodup) (hi : X.N[i]? = some x) (hx : Loc X.env.scope x) (r : RelV v u)
    (h : ∀ s', Inv X pins (σ.set i (some v)) H s' → Q () s') (hf : X.fn x = true ∨ X.env.scope.names.lookup x = some .local := by first | exact .inl rfl | exact .inr rfl | assumption) : wpAny M A (storeName X.env x u) Q E s :=
  store_ok2 I hN hi hx r (fun s' I' _ => h s' I') hf
theorem Inv.call' {s' : Shared} {ch : List Addr} (I : Inv X pins σ H s) (ho : s'.os = s.os) (u : Un (frs X.stack) ch H H' s.heap s'.heap) (hok : HOk X.prog X.w H' s'.heap) (hg : AllBare s'.gens)
    (hch : ∀ b ∈ ch, (b ∈ X.ex ∨ X.s_0.heap.objs.size ≤ b) ∧ b ≠ X.env.locals ∧ (∀ x c, X.env.cells.lookup x = some c → c ≠ b) ∧ ∀ p ∈ X.pn ++ pins, p.1 ≠ b) : Inv X pins σ H' s' := by
  obtain ⟨h', g', d', t', o'⟩ := s'
  have e : o' = s.os := ho
  subst e
  exact I.call (g' := g') (t' := t') (d' := d') u hok hg hch
end

abbrev XK := Value → Option Addr → Hp → Prop
abbrev St := List (Option V)
abbrev VK := V → Hp → Prop
abbrev TE := St → Hp → VK → Prop
abbrev TT := St → Hp → (Bool → Hp → Prop) → Prop
abbrev TA := St → Hp → (List V → Hp → Prop) → Prop
structure Ends where
  nx : St → Hp → Prop
  rt : VK
  bk : St → Hp → Prop := fun _ _ => False
  ct : St → Hp → Prop := fun _ _ => False
abbrev TS := Ends → St → Hp → Prop
def EP (X : Cx) (pins : List (Addr × Obj)) (σ : St) (Q : VK) (u : Value) (s' : Shared) : Prop := ∃ v H', Inv X pins σ H' s' ∧ RelV v u ∧ Q v H'
def TP (X : Cx) (pins : List (Addr × Obj)) (σ : St) (Q : Bool → Hp → Prop) (b : Bool) (s' : Shared) : Prop := ∃ H', Inv X pins σ H' s' ∧ Q b H'
def AP (X : Cx) (pins : List (Addr × Obj)) (σ : St) (Q : List V → Hp → Prop) (us : List Value) (s' : Shared) : Prop := ∃ vs H', Inv X pins σ H' s' ∧ Vals vs us ∧ Q vs H'
def SP (X : Cx) (pins : List (Addr × Obj)) (D : Ends) (f : Flow) (s' : Shared) : Prop :=
  match f with
  | .next => ∃ σ' H', Inv X pins σ' H' s' ∧ D.nx σ' H'
  | .brk => ∃ σ' H', Inv X pins σ' H' s' ∧ D.bk σ' H'
  | .cont => ∃ σ' H', Inv X pins σ' H' s' ∧ D.ct σ' H'
  | .ret u => ∃ v σ' H', Inv X pins σ' H' s' ∧ RelV v u ∧ D.rt v H'
def PE (X : Cx) (e : Expr) (t : TE) : Prop :=
  ∀ (pins : List (Addr × Obj)) (s : Shared) (σ : St) (H : Hp) (Q : VK), Inv X pins σ H s → t σ H Q → wpAny (model X.prog X.w) X.A (eval e X.env) (EP X pins σ Q) X.xe s
def PT (X : Cx) (e : Expr) (t : TT) : Prop :=
  ∀ (pins : List (Addr × Obj)) (s : Shared) (σ : St) (H : Hp) (Q : Bool → Hp → Prop), Inv X pins σ H s → t σ H Q → wpAny (model X.prog X.w) X.A (isTrue e X.env (eval e X.env)) (TP X pins σ Q) X.xe s
def PW (X : Cx) (e : Expr) (t : TT) : Prop :=
  ∀ (whole : Sem Value) (pins : List (Addr × Obj)) (s : Shared) (σ : St) (H : Hp) (Q : Bool → Hp → Prop), Inv X pins σ H s → t σ H Q → wpAny (model X.prog X.w) X.A (isTrue e X.env whole) (TP X pins σ Q) X.xe s
theorem PW.pt {X : Cx} {e : Expr} {t : TT} (h : PW X e t) : PT X e t := h _
def PA (X : Cx) (es : List Expr) (t : TA) : Prop :=
  ∀ (pos : Pos) (pins : List (Addr × Obj)) (s : Shared) (σ : St) (H : Hp) (Q : List V → Hp → Prop), Inv X pins σ H s → t σ H Q → wpAny (model X.prog X.w) X.A (spliced (backTo pos (starEach es X.env))) (AP X pins σ Q) X.xe s
def PS (X : Cx) (st : Stmt) (t : TS) : Prop :=
  ∀ (pins : List (Addr × Obj)) (s : Shared) (σ : St) (H : Hp) (D : Ends), Inv X pins σ H s → t D σ H → wpAny (model X.prog X.w) X.A (exec st X.env) (SP X pins D) X.xe s
def PSs (X : Cx) (st : List Stmt) (t : TS) : Prop :=
  ∀ (pins : List (Addr × Obj)) (s : Shared) (σ : St) (H : Hp) (D : Ends), Inv X pins σ H s → t D σ H → wpAny (model X.prog X.w) X.A (execs st X.env) (SP X pins D) X.xe s
theorem thn {α : Type} {t : Sem α} {Q Q' : α → Shared → Prop} {M : Model} {A : Around} {E : Value → Shared → Prop} {s : Shared} (h : wpAny M A t Q E s) (hQ : ∀ a s, Q a s → Q' a s) : wpAny M A t Q' E s := wpAny_mono h hQ fun _ _ x => x
end L2

namespace L2
open PySem PySem.Spec PyProof.Rows
section
variable {X : Cx}

theorem bin {a b : Expr} {ta tb : TE} (ha : PE X a ta) (hb : PE X b tb) {pins : List (Addr × Obj)} {s : Shared} {σ : St} {H : Hp} {R : V → V → Hp → Prop} (I : Inv X pins σ H s) (h : ta σ H fun x H1 => tb σ H1 fun y H2 => R x y H2)
    {α : Type} {Q : α → Shared → Prop} {f : Value → Value → Sem α}
    (hf : ∀ v u s2 x y H2, Inv X pins σ H2 s2 → RelV x v → RelV y u → R x y H2 → wpAny (model X.prog X.w) X.A (f v u) Q X.xe s2) :
    wpAny (model X.prog X.w) X.A (eval a X.env) (fun v s₁ => wpAny (model X.prog X.w) X.A (eval b X.env) (fun u s₂ => wpAny (model X.prog X.w) X.A (f v u) Q X.xe s₂) X.xe s₁) X.xe s := by
  refine thn (ha pins s σ H _ I h) fun v s1 ⟨x, H1, I1, r1, q1⟩ => ?_
  refine thn (hb pins s1 σ H1 _ I1 q1) fun u s2 ⟨y, H2, I2, r2, q2⟩ => ?_
  exact hf v u s2 x y H2 I2 r1 r2 q2
def tVar (i : Nat) : TE := fun σ H Q => ∃ v, σ[i]? = some (some v) ∧ Q v H
def tC (v : V) : TE := fun _ H Q => Q v H
theorem pe_var {i : Nat} {x : Str} {pos : Pos} (hN : X.N[i]? = some x) (hv : Vis X.env.scope x) (hd : (x == ("__debug__" : Str)) = false := by decide) (hcd : (x == ("__classdict__" : Str)) = false := by decide) : PE X (.Name x pos) (tVar i) := by
  intro pins s σ H Q I h
  obtain ⟨v, e, h⟩ := h
  obtain ⟨m, hn, hl⟩ := I.loc
  obtain ⟨u, r, l⟩ := hl i x v hN e hv
  have fin : EP X pins σ Q u s := ⟨v, H, I, r, h⟩
  rcases l with ⟨hk, hm⟩ | ⟨hk, c, hc, hcell⟩
  · exact wpAny_Name (wpAny_loadName_local I.ok.kind hk hn hm fin) hd
  · rcases hk with hk | hk
    · exact wpAny_Name (wpAny_loadName_cell I.ok.kind hk hc hcell fin) hd
    · exact wpAny_Name (wpAny_loadName_free I.ok.kind hk hc hcell fin hcd) hd
theorem pe_int {i j pos} : PE X (.Constant (.int i) j pos) (tC (.int i)) := fun _ _ _ H _ I h => wpAny_Constant_int ⟨.int i, H, I.tok _, ⟨_, rfl⟩, h⟩
theorem pe_bl {b j pos} : PE X (.Constant (.bool b) j pos) (tC (.bl b)) := fun _ _ _ H _ I h => Constant_bool ⟨.bl b, H, I, rfl, h⟩
theorem pe_non {j pos} : PE X (.Constant .none j pos) (tC .non) := fun _ _ _ H _ I h => Constant_none ⟨.non, H, I, rfl, h⟩
theorem pe_str {x j pos} : PE X (.Constant (.str x) j pos) (tC (.str x)) := fun _ _ _ H _ I h => Calls.Constant_str ⟨.str x, H, I.tok _, ⟨_, rfl⟩, h⟩
def Gl (X : Cx) (x : Str) : Prop := X.env.kindOf x = some .globalImplicit
theorem ld_glob {E : Value → Shared → Prop} {pins : List (Addr × Obj)} {s : Shared} {σ : St} {H : Hp} {x : Str} {u : Value} {pos : Pos} {Q : Value → Shared → Prop} (I : Inv X pins σ H s) (hg : Gl X x) (hm : X.mg x = some u) (h : Q u s)
    (hd : (x == ("__debug__" : Str)) = false := by decide) : wpAny (model X.prog X.w) X.A (eval (.Name x pos) X.env) Q E s :=
  Calls.Name_function_global I.ok.kind hg (Calls.loadGlobal_global (by rw [I.ok.glob]; exact I.mod.glob.keeps I.bk) hm h) hd
theorem ld_blt {E : Value → Shared → Prop} {pins : List (Addr × Obj)} {s : Shared} {σ : St} {H : Hp} {x : Str} {u : Value} {pos : Pos} {Q : Value → Shared → Prop} (I : Inv X pins σ H s) (hg : Gl X x) (hm : X.mg x = none) (hv : bootBuiltins x = some u) (h : Q u s)
    (hn : x ≠ "__name__" := by decide) (hd : (x == ("__debug__" : Str)) = false := by decide) : wpAny (model X.prog X.w) X.A (eval (.Name x pos) X.env) Q E s := by
  obtain ⟨mb, h1, h2⟩ := I.mod.blt
  exact Calls.Name_function_global I.ok.kind hg (Calls.loadGlobal_builtin (by rw [I.ok.glob]; exact I.mod.glob.keeps I.bk) hm (by rw [I.ok.blt]; exact h1.keeps I.bk) ((h2 x hn).trans hv) h) hd
variable {a b : Expr} {ta tb : TE} {pos : Pos}
variable {tA tB' : TT} {rest : List Expr}
def tOr (t u : TT) : TT := fun σ H Q => t σ H fun c H1 => if c = true then Q true H1 else u σ H1 Q
theorem pw_or1 (ha : PT X a tA) : PW X (.BoolOp .Or [a] pos) tA := by
  intro wh pins s σ H Q I h
  refine isTrue_or (thn (ha pins s σ H Q I h) fun c s1 e => ?_)
  cases c with
  | false => exact isTrue_or_nil e
  | true => exact e
theorem pw_or (ha : PT X a tA) (hb : PW X (.BoolOp .Or (b :: rest) pos) tB') : PW X (.BoolOp .Or (a :: b :: rest) pos) (tOr tA tB') := by
  intro wh pins s σ H Q I h
  refine isTrue_or (thn (ha pins s σ H _ I h) fun c s1 ⟨H1, I1, q1⟩ => ?_)
  cases c with
  | true => exact ⟨H1, I1, q1⟩
  | false => exact hb wh pins s1 σ H1 Q I1 q1
end
end L2

namespace L2
open PySem PySem.Spec PyProof.Rows

def SqL (K : PySem.W.Frag) (H : Hp) (a : Addr) (xs : List V) : Prop :=
  Rd H a (.lst xs) ∨
    ∃ (o : Obj) (its : Array Value) (n : Nat), K.lookup a = some o ∧ o.cls = .type "list" ∧ o.dict = none ∧ o.data = .seq its n ∧ its.size ≤ sizeLine ∧ Vals xs its.toList
def SqT (K : PySem.W.Frag) (H : Hp) (a : Addr) (xs : List V) : Prop :=
  Rd H a (.tup xs) ∨
    ∃ (o : Obj) (its : Array Value) (n : Nat), K.lookup a = some o ∧ o.cls = .type "tuple" ∧ o.data = .seq its n ∧ its.size ≤ sizeLine ∧ Vals xs its.toList
def absV : Value → Option V
  | .none => some .non
  | .bool b => some (.bl b)
  | .int i _ => some (.int i)
  | .str x _ => some (.str x)
  | .bytes b _ => some (.byt b)
  | .float b _ => some (.flt b)
  | .ref a => some (.ref a)
  | .type n => some (.ty n)
  | _ => none
theorem RelV.abs {x : V} {u : Value} (r : RelV x u) : absV u = some x := by
  cases x with
  | non => cases r; rfl
  | bl _ => cases r; rfl
  | int _ => obtain ⟨t, rfl⟩ := r; rfl
  | str _ => obtain ⟨t, rfl⟩ := r; rfl
  | byt _ => obtain ⟨t, rfl⟩ := r; rfl
  | flt _ => obtain ⟨t, rfl⟩ := r; rfl
  | ref _ => cases r; rfl
  | ty _ => cases r; rfl
theorem RelV.inj {x y : V} {u : Value} (r : RelV x u) (q : RelV y u) : x = y := Option.some.inj (r.abs.symm.trans q.abs)
theorem Vals.inj : ∀ {xs ys : List V} {us : List Value}, Vals xs us → Vals ys us → xs = ys
  | _, _, _, .nil, .nil => rfl
  | _, _, _, .cons r t, .cons r' t' => by rw [r.inj r', Vals.inj t t']
section
variable {X : Cx} {pins : List (Addr × Obj)} {σ : St} {H : Hp} {s : Shared} {a : Addr} {xs ys : List V}
theorem SqL.of {K : PySem.W.Frag} (h : H a = some (.lst xs)) : SqL K H a xs := .inl (.inl h)
theorem SqT.of {K : PySem.W.Frag} (h : H a = some (.tup xs)) : SqT K H a xs := .inl (.inl h)
theorem Inv.list (I : Inv X pins σ H s) (h : SqL X.K H a xs) : ∃ its : List Value, Vals xs its ∧ PlainL s.heap a its.toArray ∧ xs.length ≤ sizeLine := by
  rcases h with h | ⟨o, its, n, hk, hc, hd, hs, hz, r⟩
  · obtain ⟨z, its, n, r, e⟩ := h.ok I.hok
    exact ⟨its, r, ⟨_, n, e, rfl, rfl, rfl⟩, z⟩
  · refine ⟨its.toList, r, ⟨o, n, I.kIn a o hk, hc, hd, by simpa using hs⟩, ?_⟩
    have e := r.length
    simp only [Array.length_toList] at e
    omega
theorem Inv.tuple (I : Inv X pins σ H s) (h : SqT X.K H a xs) : ∃ its : List Value, Vals xs its ∧ IsTup s.heap a its.toArray ∧ xs.length ≤ sizeLine := by
  rcases h with h | ⟨o, its, n, hk, hc, hs, hz, r⟩
  · obtain ⟨z, its, r, p⟩ := h.ok I.hok
    exact ⟨its, r, p.1, z⟩
  · refine ⟨its.toList, r, ⟨o, I.kIn a o hk, hc, n, by simpa using hs⟩, ?_⟩
    have e := r.length
    simp only [Array.length_toList] at e
    omega
theorem Inv.list_inj (I : Inv X pins σ H s) (h : SqL X.K H a xs) (h' : SqL X.K H a ys) : xs = ys := by
  obtain ⟨its, r, ⟨o, n, e, _, _, d⟩, _⟩ := I.list h
  obtain ⟨its', r', ⟨o', n', e', _, _, d'⟩, _⟩ := I.list h'
  rw [e] at e'; cases e'
  rw [d] at d'
  injection d' with d1 _
  have : its = its' := by simpa using congrArg Array.toList d1
  subst this
  exact r.inj r'
theorem Inv.tuple_inj (I : Inv X pins σ H s) (h : SqT X.K H a xs) (h' : SqT X.K H a ys) : xs = ys := by
  obtain ⟨its, r, ⟨o, e, _, n, d⟩, _⟩ := I.tuple h
  obtain ⟨its', r', ⟨o', e', _, n', d'⟩, _⟩ := I.tuple h'
  rw [e] at e'; cases e'
  rw [d] at d'
  injection d' with d1 _
  have : its = its' := by simpa using congrArg Array.toList d1
  subst this
  exact r.inj r'
end

abbrev Cx.wish (X : Cx) (E : Value → Shared → Prop) : Cx := { X with xe := E }
abbrev Cx.nox (X : Cx) : Cx := X.wish fun _ _ => False
theorem Cx.Ok.wish {X : Cx} (ok : X.Ok) (E : Value → Shared → Prop) : (X.wish E).Ok :=
  ⟨ok.mod, ok.kind, ok.glob, ok.blt, ok.above, ok.inj, ok.has, ok.cab, ok.hd, ok.frames, ok.stk, ok.exf, ok.bs, ok.bsz, ok.noex, ok.exfs, ok.funs, ok.frf⟩
theorem Cx.Ok.unwish {X : Cx} {E : Value → Shared → Prop} (ok : (X.wish E).Ok) : X.Ok :=
  ⟨ok.mod, ok.kind, ok.glob, ok.blt, ok.above, ok.inj, ok.has, ok.cab, ok.hd, ok.frames, ok.stk, ok.exf, ok.bs, ok.bsz, ok.noex, ok.exfs, ok.funs, ok.frf⟩
section
variable {X : Cx} {pins : List (Addr × Obj)} {σ : St} {H : Hp} {s : Shared} {E : Value → Shared → Prop}
theorem Inv.wish (I : Inv X pins σ H s) (E : Value → Shared → Prop) : Inv (X.wish E) pins σ H s := ⟨I.ok.wish E, I.os, I.bare, I.base, I.loc, I.cell, I.free, I.freeC, I.pin, I.hok, I.len⟩
theorem Inv.unwish (I : Inv (X.wish E) pins σ H s) : Inv X pins σ H s := ⟨I.ok.unwish, I.os, I.bare, I.base, I.loc, I.cell, I.free, I.freeC, I.pin, I.hok, I.len⟩
theorem SP.unwish {D : Ends} {f : Flow} {s' : Shared} (h : SP (X.wish E) pins D f s') : SP X pins D f s' := by
  cases f with
  | next => obtain ⟨σ', H', I, q⟩ := h; exact ⟨σ', H', I.unwish, q⟩
  | brk => obtain ⟨σ', H', I, q⟩ := h; exact ⟨σ', H', I.unwish, q⟩
  | cont => obtain ⟨σ', H', I, q⟩ := h; exact ⟨σ', H', I.unwish, q⟩
  | ret u => obtain ⟨v, σ', H', I, r, q⟩ := h; exact ⟨v, σ', H', I.unwish, r, q⟩
theorem PSs.nox {st : List Stmt} {t : TS} (h : PSs X.nox st t) : PSs X st t := fun pins s σ H D I hw =>
  wpAny_mono (h pins s σ H D (I.wish _) hw) (fun _ _ q => q.unwish) fun _ _ z => False.elim z
end

section
variable {X : Cx} {st : Stmt} {rest : List Stmt} {t u : TS} {e : Expr} {te : TE} {pos : Pos}
def tNext : TS := fun D σ H => D.nx σ H
def tSeq (t u : TS) : TS := fun D σ H => t { D with nx := u D } σ H
theorem pss_nil : PSs X [] tNext := fun _ _ σ H _ I h => wpAny_execs_nil ⟨σ, H, I, h⟩
theorem pss_cons (h1 : PS X st t) (h2 : PSs X rest u) : PSs X (st :: rest) (tSeq t u) := by
  intro pins s σ H D I h
  refine wpAny_execs_cons (thn (h1 pins s σ H { D with nx := u D } I h) fun f s1 q => ?_)
  cases f with
  | next =>
    obtain ⟨σ', H', I', q⟩ := q
    exact h2 pins s1 σ' H' D I' q
  | ret v => exact q
  | brk => exact q
  | cont => exact q
theorem pss_one (h1 : PS X st t) : PSs X [st] t := by
  intro pins s σ H D I h
  refine wpAny_execs_cons (thn (h1 pins s σ H D I h) fun f s1 q => ?_)
  cases f with
  | next => exact wpAny_execs_nil q
  | ret v => exact q
  | brk => exact q
  | cont => exact q
theorem ps_pass : PS X (.Pass pos) tNext := fun _ _ σ H _ I h => wpAny_Pass ⟨σ, H, I, h⟩
theorem Inv.quiet {pins : List (Addr × Obj)} {σ : St} {H : Hp} {s : Shared} (I : Inv X pins σ H s) : interactive X.env = false := by simp [interactive, I.ok.kind]
def tDrop (te : TE) : TS := fun D σ H => te σ H fun _ H1 => D.nx σ H1
theorem ps_expr (he : PE X e te) (hs : swapsWith e none pos.line X.env = pure false := by rfl) : PS X (.Expr e pos) (tDrop te) := by
  intro pins s σ H D I h
  exact wpAny_Expr_any (thn (he pins s σ H _ I h) fun v s1 ⟨x, H1, I1, r1, q1⟩ => ⟨σ, H1, I1, q1⟩) I.quiet hs
def tRet (te : TE) : TS := fun D σ H => te σ H D.rt
theorem ps_ret (he : PE X e te) : PS X (.Return (some e) pos) (tRet te) := by
  intro pins s σ H D I h
  exact wpAny_Return_some (thn (he pins s σ H _ I h) fun v s1 ⟨x, H1, I1, r1, q1⟩ => ⟨x, σ, H1, I1, r1, q1⟩)
def tIfS (c : TT) (t u : TS) : TS := fun D σ H => c σ H fun b H1 => if b = true then t D σ H1 else u D σ H1
theorem ps_if {c : Expr} {a b : List Stmt} {tc : TT} (hc : PT X c tc) (ha : PSs X a t) (hb : PSs X b u) : PS X (.If c a b pos) (tIfS tc t u) := by
  intro pins s σ H D I h
  refine wpAny_If (thn (hc pins s σ H _ I h) fun d s1 ⟨H1, I1, q1⟩ => ?_)
  cases d with
  | true => exact ha pins s1 σ H1 D I1 q1
  | false => exact hb pins s1 σ H1 D I1 q1
end

abbrev TG := V → St → Hp → (St → Hp → Prop) → Prop
abbrev TGs := List V → St → Hp → (St → Hp → Prop) → Prop
def PG (X : Cx) (target : Expr) (t : TG) : Prop :=
  ∀ (pins : List (Addr × Obj)) (s : Shared) (σ : St) (H : Hp) (v : V) (u : Value) (Q : St → Hp → Prop), Inv X pins σ H s → RelV v u → t v σ H Q →
    wpAny (model X.prog X.w) X.A (assign target X.env u) (fun _ s' => ∃ σ' H', Inv X pins σ' H' s' ∧ Q σ' H') X.xe s
def PGs (X : Cx) (ts : List Expr) (t : TGs) : Prop :=
  ∀ (pins : List (Addr × Obj)) (s : Shared) (σ : St) (H : Hp) (vs : List V) (us : List Value) (Q : St → Hp → Prop), Inv X pins σ H s → Vals vs us → t vs σ H Q →
    wpAny (model X.prog X.w) X.A (assignInOrder ((assignEach ts X.env).map (·.2)) us) (fun _ s' => ∃ σ' H', Inv X pins σ' H' s' ∧ Q σ' H') X.xe s
abbrev TSet := V → V → V → Hp → (Hp → Prop) → Prop
def PSet (X : Cx) (t : TSet) : Prop :=
  ∀ (pins : List (Addr × Obj)) (s : Shared) (σ : St) (H : Hp) (o i v : V) (ov iv u : Value) (Q : Hp → Prop), Inv X pins σ H s → RelV o ov → RelV i iv → RelV v u → t o i v H Q →
    wpAny (model X.prog X.w) X.A (setItem ov iv u) (fun _ s' => ∃ H', Inv X pins σ H' s' ∧ Q H') X.xe s
section
variable {X : Cx} {pos : Pos}
def gName (i : Nat) : TG := fun v σ H Q => Q (σ.set i (some v)) H
theorem pg_name {i : Nat} {x : Str} (hN : X.N.Nodup) (hi : X.N[i]? = some x) (hx : Loc X.env.scope x) (hf : X.fn x = true ∨ X.env.scope.names.lookup x = some .local := by first | exact .inl rfl | exact .inr rfl | assumption) : PG X (.Name x pos) (gName i) := by
  intro pins s σ H v u Q I r h
  exact wpAny_assign_Name (store_ok I hN hi hx r (fun s' I' => ⟨_, H, I', h⟩) hf)
def gNil : TGs := fun vs σ H Q => vs = [] ∧ Q σ H
def gCons (t : TG) (u : TGs) : TGs := fun vs σ H Q => ∃ v r, vs = v :: r ∧ t v σ H fun σ' H' => u r σ' H' Q
theorem pgs_nil : PGs X [] gNil := by
  intro pins s σ H vs us Q I r h
  obtain ⟨e, h⟩ := h
  subst e
  cases r
  exact assignInOrder_nil ⟨σ, H, I, h⟩
theorem pgs_cons {e : Expr} {es : List Expr} {t : TG} {u : TGs} (h1 : PG X e t) (h2 : PGs X es u)
    (hs : (assignEach (e :: es) X.env).map (·.2) = assign e X.env :: (assignEach es X.env).map (·.2) := by rfl) : PGs X (e :: es) (gCons t u) := by
  intro pins s σ H vs us Q I r h
  obtain ⟨v, vr, e1, h⟩ := h
  subst e1
  cases r with
  | cons r rr =>
    rw [hs]
    refine assignInOrder_cons (thn (h1 pins s σ H _ _ _ I r h) fun _ s1 ⟨σ1, H1, I1, q1⟩ => ?_)
    exact h2 pins s1 σ1 H1 _ _ Q I1 rr q1
def gTup (K : PySem.W.Frag) (n : Nat) (t : TGs) : TG := fun v σ H Q => ∃ a xs, v = .ref a ∧ SqT K H a xs ∧ xs.length = n ∧ t xs σ H Q
theorem pg_tup {es : List Expr} {k : Nat} {t : TGs} {n : Nat} (hc : X.calm = true) (h : PGs X es t)
    (hn : (assignEach es X.env).length = n := by rfl) (hst : (assignEach es X.env).findIdx? (·.1) = none := by rfl) : PG X (.Tuple es k pos) (gTup X.K n t) := by
  intro pins s σ H v u Q I r hw
  obtain ⟨a, xs, e1, hq, hl, hw⟩ := hw
  subst e1
  cases r
  obtain ⟨its, rv, ht, hz⟩ := I.tuple hq
  refine assign_Tuple_tuple (I.ok.hd hc) ht (by simp [hn, ← hl, rv.length]) hst fun h' hx => ?_
  have I1 : Inv X pins σ H { s with heap := h' } := I.kept (t' := s.toks) fun b o e => hx b o (Nat.ne_of_lt (Heap.lt_size e)) e
  exact h pins _ σ H xs _ Q I1 (by simpa using rv) hw
def gSub (to ti : TE) (t : TSet) : TG := fun v σ H Q => to σ H fun o H1 => ti σ H1 fun i H2 => t o i v H2 fun H3 => Q σ H3
theorem pg_sub {o i : Expr} {to ti : TE} {t : TSet} (ho : PE X o to) (hi : PE X i ti) (hs : PSet X t)
    (ha : ∀ v, assign (.Subscript o i pos) X.env v = (do
      let ov ← holding [v] (eval o X.env)
      let iv ← holding [v, ov] (eval i X.env)
      standAt pos
      holding [v, ov, iv] (setItem ov iv v)
      release [v, ov, iv] []) := by intro _; rfl) : PG X (.Subscript o i pos) (gSub to ti t) := by
  intro pins s σ H v u Q I r h
  rw [ha]
  refine wpAny_bind (wpAny_holding (thn (ho pins s σ H _ I h) fun ov s1 ⟨x, H1, I1, r1, q1⟩ => ?_))
  refine wpAny_bind (wpAny_holding (thn (hi pins s1 σ H1 _ I1 q1) fun iv s2 ⟨y, H2, I2, r2, q2⟩ => ?_))
  refine wpAny_bind (wpAny_standAt (wpAny_bind (wpAny_holding (thn (hs pins s2 σ H2 x y v ov iv u _ I2 r1 r2 r q2) fun _ s3 ⟨H3, I3, q3⟩ => ?_))))
  exact wpAny_release ⟨σ, H3, I3, q3⟩
def tAsg (te : TE) (g : TG) : TS := fun D σ H => te σ H fun x H1 => g x σ H1 D.nx
theorem ps_asg {tg e : Expr} {te : TE} {g : TG} (he : PE X e te) (hg : PG X tg g) (hs : swapsWithSole [tg] e pos.line X.env = pure false := by rfl) (hw : swappedStores [tg] e X.env = pure none := by rfl)
    (h1 : (assignEach [tg] X.env).map (·.2) = [assign tg X.env] := by rfl) : PS X (.Assign [tg] e pos) (tAsg te g) := by
  intro pins s σ H D I h
  refine wpAny_Assign_stores (thn (he pins s σ H _ I h) fun v s1 ⟨x, H1, I1, r1, q1⟩ => ?_) hs hw
  rw [h1]
  exact thn (hg pins s1 σ H1 x v _ I1 r1 q1) fun _ s2 q => q
theorem ps_set {i : Nat} {x : Str} {e : Expr} {te : TE} {pos' : Pos} (hN : X.N.Nodup) (hi : X.N[i]? = some x) (hx : Loc X.env.scope x) (he : PE X e te) (hs : swapsWith e (some (.Name x pos')) pos.line X.env = pure false := by rfl) (hf : X.fn x = true ∨ X.env.scope.names.lookup x = some .local := by first | exact .inl rfl | exact .inr rfl | assumption) :
    PS X (.Assign [.Name x pos'] e pos) (tAsg te (gName i)) := by
  intro pins s σ H D I h
  refine wpAny_Assign_Name (thn (he pins s σ H _ I h) fun v s1 ⟨y, H1, I1, r1, q1⟩ => ?_) hs
  exact store_ok I1 hN hi hx r1 (fun s2 I2 => ⟨_, H1, I2, q1⟩) hf
end

structure It where
  go : Nat → Hp → Prop
  yld : Nat → Hp → V → Hp → Prop
  stop : Nat → Hp → Prop
def FpOk (X : Cx) (pins : List (Addr × Obj)) (H : Hp) (b : Addr) : Prop :=
  H b = none ∧ b ≠ X.env.locals ∧ b ∉ X.fs ∧ (b ∈ X.ex ∨ X.s_0.heap.objs.size ≤ b) ∧ (∀ x c, X.env.cells.lookup x = some c → c ≠ b) ∧ ∀ p ∈ X.pn ++ pins, p.1 ≠ b
theorem Inv.fpOk {X : Cx} {pins : List (Addr × Obj)} {σ : St} {H H' : Hp} {s : Shared} {b : Addr} (I : Inv X pins σ H s) (hb : s.heap.objs.size ≤ b) (hn : H' b = none) : FpOk X pins H' b := by
  refine ⟨hn, Nat.ne_of_gt (Nat.lt_of_lt_of_le I.lt hb), I.nofs hb, .inr (Nat.le_trans I.sz hb), fun x c e z => ?_, fun p hp z => ?_⟩
  · obtain ⟨v, q⟩ := I.cell x c e
    exact absurd (Nat.lt_of_lt_of_le q.lt (by rw [z]; exact hb)) (Nat.lt_irrefl _)
  · exact absurd (Nat.lt_of_lt_of_le (Heap.lt_size (I.pin p hp).1) (by rw [z]; exact hb)) (Nat.lt_irrefl _)
structure Turn (P : Program) (w : World) (K : PySem.W.Frag) (tg : Expr) (J : It) (fp : List Addr) (it : Addr) (tn : Nat → Heap → Prop) : Prop where
  mem : it ∈ fp
  obj : ∀ i h, tn i h → ∀ b ∈ fp, ∃ o, h.get? b = some o ∧ ∀ v, o.data ≠ .cell v
  keep : ∀ i h h', tn i h → (∀ b ∈ fp, ∀ o, h.get? b = some o → h'.get? b = some o) → tn i h'
  item : ∀ (X : Cx), X.prog = P → X.w = w → X.K = K → X.calm = true → ∀ (i : Nat) (pins : List (Addr × Obj)) (s : Shared) (σ : St) (H : Hp) (E : Value → Shared → Prop), Inv X pins σ H s → (∀ b ∈ fp, FpOk X pins H b) → tn i s.heap → J.go i H →
    wpAny (model P w) X.A (pyNext (.ref it)) (fun r s1 => ∃ u, r = some u ∧
      wpAny (model P w) X.A (letOwnedTupleGo tg (.ref it) u) (fun _ s2 => ∃ x H', Inv X pins σ H' s2 ∧ RelV x u ∧ J.yld i H x H' ∧ tn (i + 1) s2.heap ∧ ∀ b ∈ fp, H' b = none) E s1) E s
  done : ∀ (X : Cx), X.prog = P → X.w = w → X.K = K → X.calm = true → ∀ (i : Nat) (pins : List (Addr × Obj)) (s : Shared) (σ : St) (H : Hp) (E : Value → Shared → Prop), Inv X pins σ H s → (∀ b ∈ fp, FpOk X pins H b) → tn i s.heap → J.stop i H →
    wpAny (model P w) X.A (pyNext (.ref it)) (fun r s1 => r = none ∧ Inv X pins σ H s1) E s
  self : ∀ (A : Around) (i : Nat) (s : Shared) (Q : Value → Shared → Prop) (E : Value → Shared → Prop), tn i s.heap → Q (.ref it) s → wpAny (model P w) A (pyIter (.ref it)) Q E s
abbrev TI := St → Hp → (It → Hp → Prop) → Prop
def PIE (X : Cx) (pins : List (Addr × Obj)) (σ : St) (tg : Expr) (R : It → Hp → Prop) (itv : Value) (s2 : Shared) : Prop :=
  ∃ (it : Addr) (fp : List Addr) (tn : Nat → Heap → Prop) (J : It) (H' : Hp), itv = .ref it ∧ Inv X pins σ H' s2 ∧ Turn X.prog X.w X.K tg J fp it tn ∧ tn 0 s2.heap ∧ (∀ b ∈ fp, FpOk X pins H' b) ∧ R J H'
def PI (X : Cx) (tg iter : Expr) (wi : TI) : Prop :=
  ∀ (pins : List (Addr × Obj)) (s : Shared) (σ : St) (H : Hp) (R : It → Hp → Prop), Inv X pins σ H s → wi σ H R →
    wpAny (model X.prog X.w) X.A (eval iter X.env) (fun v s1 => wpAny (model X.prog X.w) X.A (pyIter v) (PIE X pins σ tg R) X.xe s1) X.xe s
theorem go_of {M : Model} {A : Around} {E : Value → Shared → Prop} {s : Shared} {tg : Expr} {it : Addr} {u : Value} {o : Obj} {n : String} {vs : Array Value} {Q : Unit → Shared → Prop} (ho : s.heap.get? it = some o) (hc : o.cls = .type n) (hd : o.data = .fields vs)
    (hn : ["enumerate", "zip", "dict_itemiterator", "dict_reverseitemiterator", "odict_iterator", "itertools.zip_longest", "itertools.pairwise"].contains n = false) (hQ : Q () s) : wpAny M A (letOwnedTupleGo tg (.ref it) u) Q E s := by
  unfold letOwnedTupleGo
  cases tg <;> first
    | exact wpAny_pure hQ
    | (cases u <;> first
        | exact wpAny_pure hQ
        | (refine wpAny_bind (wpAny_load ho ?_)
           rw [hc, hd]
           show wpAny M A (if (["enumerate", "zip", "dict_itemiterator", "dict_reverseitemiterator", "odict_iterator", "itertools.zip_longest", "itertools.pairwise"].contains n && vs[0]? == some (rawInt _)) = true then _ else _) Q E s
           rw [if_neg (by intro h; rw [hn, Bool.false_and] at h; cases h)]
           exact wpAny_pure hQ))
def Itl (K : PySem.W.Frag) (a : Addr) : It :=
  ⟨fun i H => ∃ xs x, SqL K H a xs ∧ xs[i]? = some x, fun i H x H' => H' = H ∧ ∀ xs, SqL K H a xs → xs[i]? = some x, fun i H => ∃ xs, SqL K H a xs ∧ xs.length ≤ i⟩
def Itr (lo : Int) (n : Nat) : It := ⟨fun i _ => i < n, fun i H x H' => H' = H ∧ x = .int (lo + i), fun i _ => n ≤ i⟩
theorem turn_list {P : Program} {w : World} {K : PySem.W.Frag} {tg : Expr} (a it : Addr) : Turn P w K tg (Itl K a) [it] it (fun i h => h.IsListIter it a i) where
  mem := by simp
  obj := fun i h st b hb => by
    have e : b = it := by simpa using hb
    subst e
    obtain ⟨o, e, c, d⟩ := st
    exact ⟨o, e, fun v z => by rw [d] at z; cases z⟩
  keep := fun i h h' st k => st.at fun o e => k it (by simp) o e
  item := by
    intro X hP hw hK hc i pins s σ H E I hf st hg
    subst hP hw hK
    obtain ⟨xs, x, hq, hx⟩ := hg
    obtain ⟨its, rv, p, hz⟩ := I.list hq
    obtain ⟨u, hu, ru⟩ := rv.get hx
    obtain ⟨f0, f1, f2, f3, f4, f5⟩ := hf it (by simp)
    refine wpAny_pyNext_list_item st p.isList (x := u) (by simpa using hu) fun h' st' sb => ?_
    have I1 : Inv X pins σ H { s with heap := h' } := I.turned (t' := s.toks) (fun b o hb e => (sb.2 b hb).trans e) f0 f1 f3 f4 f5
    obtain ⟨o, e, c, d⟩ := id st'
    exact ⟨u, rfl, go_of (s := { s with heap := h' }) e c d (by decide) ⟨x, H, I1, ru, ⟨rfl, fun ys hy => by rw [I.list_inj hy hq]; exact hx⟩, st', fun b hb => (hf b hb).1⟩⟩
  done := by
    intro X hP hw hK hc i pins s σ H E I hf st hg
    subst hP hw hK
    obtain ⟨xs, hq, hx⟩ := hg
    obtain ⟨its, rv, p, hz⟩ := I.list hq
    obtain ⟨f0, f1, f2, f3, f4, f5⟩ := hf it (by simp)
    have hl := rv.length
    exact wpAny_pyNext_list_end (I.ok.hd hc) st p.isList (by simp; omega) fun h' eb => ⟨rfl, I.turned (t' := s.toks) (fun b o hb e => eb b o hb e) f0 f1 f3 f4 f5⟩
  self := fun _ _ _ _ _ st h => wpAny_pyIter_listiter st h
theorem turn_range {P : Program} {w : World} {K : PySem.W.Frag} {tg : Expr} (it : Addr) (lo : Int) (n : Nat) : Turn P w K tg (Itr lo n) [it] it (fun i h => IsRangeIter h it (lo + (i : Nat) * 1) ((n : Int) - (i : Nat)) 1) where
  mem := by simp
  obj := fun i h st b hb => by
    have e : b = it := by simpa using hb
    subst e
    exact ⟨_, st, fun v z => by
      have z' : Data.fields _ = Data.cell v := z
      cases z'⟩
  keep := fun i h h' st k => k it (by simp) _ st
  item := by
    intro X hP hw hK hc i pins s σ H E I hf st hg
    subst hP hw hK
    obtain ⟨f0, f1, f2, f3, f4, f5⟩ := hf it (by simp)
    have W := Walks.range (prog := X.prog) (w := X.w) (I.ok.hd hc) it lo 1 n
    refine W.item i s _ _ hg st fun v h' tk hv st' kk => ?_
    obtain ⟨t, rfl⟩ := hv
    have I1 : Inv X pins σ H { s with heap := h', toks := tk } := I.turned (fun b o hb e => kk b o (by simpa using hb) e) f0 f1 f3 f4 f5
    refine ⟨_, rfl, go_of (s := { s with heap := h', toks := tk }) (n := "range_iterator") st' rfl rfl (by decide) ⟨.int (lo + i), H, I1, ⟨t, ?_⟩, ⟨rfl, rfl⟩, st', fun b hb => (hf b hb).1⟩⟩
    rw [Int.mul_one]
  done := by
    intro X hP hw hK hc i pins s σ H E I hf st hg
    subst hP hw hK
    obtain ⟨f0, f1, f2, f3, f4, f5⟩ := hf it (by simp)
    exact wpAny_pyNext_range_end (I.ok.hd hc) st (by have : n ≤ i := hg; omega) fun h' eb => ⟨rfl, I.turned (t' := s.toks) (fun b o hb e => eb b o hb e) f0 f1 f3 f4 f5⟩
  self := fun _ _ _ _ _ st h => wpAny_pyIter_rangeiter st h
end L2

namespace L2
open PySem PySem.Spec PyProof.Rows
section
variable {X : Cx} {tg : Expr}
theorem range_it {pins : List (Addr × Obj)} {σ : St} {H : Hp} {s : Shared} {R : It → Hp → Prop} {E : Value → Shared → Prop} {lo hi : Int} {t u v : Tok} {tk : Nat} (I : Inv X pins σ H s) (h1 : -(2 ^ 62) ≤ lo) (h2 : lo < 2 ^ 62) (h3 : -(2 ^ 62) ≤ hi) (h4 : hi < 2 ^ 62)
    (q : R (Itr lo (hi - lo).toNat) H) : wpAny (model X.prog X.w) X.A (pyIter (.ref s.heap.objs.size)) (PIE X pins σ tg R) E { s with heap := s.heap.push { cls := .type "range", data := .fields #[.int lo t, .int hi u, .int 1 v] }, toks := tk } := by
  refine wpAny_pyIter_range (IsRange.new ..) (small_one h1 h2 h3 h4) ?_
  have I1 : Inv X pins σ H { s with heap := s.heap.push { cls := .type "range", data := .fields #[.int lo t, .int hi u, .int 1 v] }, toks := tk } := I.kept fun b o e => Heap.get?_push_of_some _ e
  refine ⟨(s.heap.push { cls := .type "range", data := .fields #[.int lo t, .int hi u, .int 1 v] }).objs.size, [(s.heap.push { cls := .type "range", data := .fields #[.int lo t, .int hi u, .int 1 v] }).objs.size], _, _, H, rfl,
    I1.kept (t' := tk) fun b o e => Heap.get?_push_of_some _ e, turn_range _ lo (hi - lo).toNat, ?_, fun b hb => ?_, q⟩
  · have e1 : lo + ((0 : Nat) : Int) * 1 = lo := by simp
    have e2 : (((hi - lo).toNat : Nat) : Int) - ((0 : Nat) : Int) = Builtin.Range.rangeSize lo hi 1 := by rw [rangeSize_one]; split <;> omega
    show IsRangeIter _ _ (lo + ((0 : Nat) : Int) * 1) ((((hi - lo).toNat : Nat) : Int) - ((0 : Nat) : Int)) 1
    rw [e1, e2]
    exact Heap.get?_push_size _ rfl
  · have e : b = (s.heap.push { cls := .type "range", data := .fields #[.int lo t, .int hi u, .int 1 v] }).objs.size := by simpa using hb
    subst e
    exact I1.fpOk (Nat.le_refl _) (I1.hok.fresh (Nat.le_refl _))
def iRng1 (ta : TA) : TI := fun σ H R => ta σ H fun vs H1 => ∃ j : Int, vs = [.int j] ∧ -(2 ^ 62) ≤ j ∧ j < 2 ^ 62 ∧ R (Itr 0 j.toNat) H1
def iRng2 (ta : TA) : TI := fun σ H R => ta σ H fun vs H1 => ∃ i j : Int, vs = [.int i, .int j] ∧ (-(2 ^ 62) ≤ i ∧ i < 2 ^ 62 ∧ -(2 ^ 62) ≤ j ∧ j < 2 ^ 62) ∧ R (Itr i (j - i).toNat) H1
theorem pi_range1 {a : Expr} {ta : TA} {p pos : Pos} (hg : Gl X "range") (hm : X.mg "range" = none) (ha : PA X [a] ta) (hs : starEach [a] X.env = [(false, eval a X.env)] := by rfl) : PI X tg (.Call (.Name "range" p) [a] [] pos) (iRng1 ta) := by
  intro pins s σ H R I h
  refine Call_ (ld_blt I hg hm boot_range (PyProof.Rows.callWith_type1 (thn (ha pos pins s σ H _ I h) fun us s1 ⟨vs, H1, I1, r1, q1⟩ => ?_) hs rfl))
  obtain ⟨j, e, q1, q2, q⟩ := q1
  subst e
  cases r1 with
  | cons r rr =>
    cases rr
    obtain ⟨t, rfl⟩ := r
    exact call_range_1 (range_it I1 (by omega) (by omega) q1 q2 (by simpa using q))
theorem pi_range2 {a b : Expr} {ta : TA} {p pos : Pos} (hg : Gl X "range") (hm : X.mg "range" = none) (ha : PA X [a, b] ta) (hs : starEach [a, b] X.env = [(false, eval a X.env), (false, eval b X.env)] := by rfl) (hs2 : starEach [b] X.env = [(false, eval b X.env)] := by rfl) :
    PI X tg (.Call (.Name "range" p) [a, b] [] pos) (iRng2 ta) := by
  intro pins s σ H R I h
  refine Call_ (ld_blt I hg hm boot_range (PyProof.Rows.callWith_type1 (thn (ha pos pins s σ H _ I h) fun us s1 ⟨vs, H1, I1, r1, q1⟩ => ?_) (by rw [hs, hs2]) (by rw [hs2]; rfl)))
  obtain ⟨i, j, e, ⟨q1, q2, q3, q4⟩, q⟩ := q1
  subst e
  cases r1 with
  | cons r rr =>
    cases rr with
    | cons r' rr =>
      cases rr
      obtain ⟨t, rfl⟩ := r
      obtain ⟨t', rfl⟩ := r'
      exact call_range_2 (range_it I1 q1 q2 q3 q4 q)
def tFor (wi : TI) (g : TG) (tb : TS) : TS := fun D σ H => wi σ H fun J H1 => ∃ W : Nat → Nat → St → Hp → Prop, (∃ m, W 0 m σ H1) ∧ ∀ i m σ H, W i m σ H →
  (J.stop i H ∧ D.nx σ H) ∨ (J.go i H ∧ ∃ N : St → Hp → Prop, (∀ σ' H', N σ' H' → ∃ m', m' < m ∧ W (i + 1) m' σ' H') ∧ ∀ x H', J.yld i H x H' → g x σ H' fun σ2 H2 => tb { D with nx := N, ct := N, bk := D.nx } σ2 H2)
def pinsAt (fp : List Addr) (h : Heap) : List (Addr × Obj) := fp.filterMap fun b => (h.get? b).map fun o => (b, o)
theorem mem_pinsAt {fp : List Addr} {h : Heap} {b : Addr} {o : Obj} (hb : b ∈ fp) (e : h.get? b = some o) : (b, o) ∈ pinsAt fp h := List.mem_filterMap.mpr ⟨b, hb, by rw [e]; rfl⟩
theorem of_pinsAt {fp : List Addr} {h : Heap} {p : Addr × Obj} (hp : p ∈ pinsAt fp h) : p.1 ∈ fp ∧ h.get? p.1 = some p.2 := by
  obtain ⟨b, hb, e⟩ := List.mem_filterMap.mp hp
  cases q : h.get? b with
  | none => rw [q] at e; cases e
  | some o =>
    rw [q] at e
    have e' : (b, o) = p := Option.some.inj e
    subst e'
    exact ⟨hb, q⟩
theorem Inv.pinned {pins : List (Addr × Obj)} {σ : St} {H : Hp} {s : Shared} {fp : List Addr} (I : Inv X pins σ H s) (hf : ∀ b ∈ fp, FpOk X pins H b) (ho : ∀ b ∈ fp, ∃ o, s.heap.get? b = some o ∧ ∀ v, o.data ≠ .cell v) : Inv X (pins ++ pinsAt fp s.heap) σ H s :=
  I.pins_of fun p hp => (List.mem_append.mp hp).elim (fun z => I.pin p (List.mem_append_right _ z)) fun z => by
    obtain ⟨hb, e⟩ := of_pinsAt z
    obtain ⟨f0, f1, f2, _⟩ := hf p.1 hb
    obtain ⟨o, e', d⟩ := ho p.1 hb
    rw [e] at e'; cases e'
    exact ⟨e, f0, f1, f2, d⟩
theorem Inv.unpinned {pins pl : List (Addr × Obj)} {σ : St} {H : Hp} {s : Shared} (I : Inv X (pins ++ pl) σ H s) : Inv X pins σ H s := I.pins_of fun p hp => I.pin p (List.mem_append_right _ (List.mem_append_left _ hp))
theorem ps_for {iter : Expr} {body : List Stmt} {wi : TI} {g : TG} {tb : TS} {pos : Pos} (hp : PassesOwn (model X.prog X.w) X.A X.env X.xe) (hc : X.calm = true) (hi : PI X tg iter wi) (hg : PG X tg g) (hb : PSs X body tb)
    (hs : ∀ x, foldedSetIterable iter X.env x = pure x := by intro _; rfl) : PS X (.For tg iter body [] pos) (tFor wi g tb) := by
  intro pins s σ H D I h
  refine wpAny_For (thn (hi pins s σ H _ I h) fun v s1 h1 => thn h1 fun itv s2 h2 => ?_) hs
  obtain ⟨it, fp, tn, J, H2, e, I2, T, st2, f2, W, ⟨m0, w0⟩, turn⟩ := h2
  subst e
  -- what stays true of the iterator's objects through the loop
  have stat : ∀ {H' : Hp}, (∀ b ∈ fp, H' b = none) → ∀ b ∈ fp, FpOk X pins H' b := fun hn b hb => ⟨hn b hb, (f2 b hb).2⟩
  refine codeAny_forLoop_any (fun n s' => ∃ i σ' H', Inv X pins σ' H' s' ∧ tn i s'.heap ∧ (∀ b ∈ fp, H' b = none) ∧ W i n σ' H') ?_ m0 ⟨0, σ, H2, I2, st2, fun b hb => (f2 b hb).1, w0⟩
  rintro n s3 ⟨i, σ3, H3, I3, st3, fr3, w3⟩
  rcases turn i n σ3 H3 w3 with ⟨stop, qn⟩ | ⟨go, N, hN, step⟩
  · refine wpAny_passesOwn hp (thn (T.done X rfl rfl rfl hc i pins s3 σ3 H3 X.xe I3 (stat fr3) st3 stop) fun r s4 ⟨hr, I4⟩ => ?_)
    subst hr
    exact wpAny_execs_nil ⟨σ3, H3, I4, qn⟩
  · refine wpAny_passesOwn hp (thn (T.item X rfl rfl rfl hc i pins s3 σ3 H3 X.xe I3 (stat fr3) st3 go) fun r s4 ⟨u, hr, h4⟩ => ?_)
    subst hr
    refine wpAny_passesOwn hp (thn h4 fun _ s5 ⟨x, H5, I5, r5, y5, st5, fr5⟩ => ?_)
    have I5' := I5.pinned (stat fr5) (T.obj _ _ st5)
    refine wpAny_passesOwn hp (thn (hg _ s5 σ3 H5 x u _ I5' r5 (step x H5 y5)) fun _ s6 ⟨σ6, H6, I6, q6⟩ => ?_)
    refine wpAny_passesOwn hp (thn (hb _ s6 σ6 H6 _ I6 q6) fun f s7 q7 => ?_)
    have again : ∀ {σ7 : St} {H7 : Hp}, Inv X (pins ++ pinsAt fp s5.heap) σ7 H7 s7 → N σ7 H7 → ∃ m, m < n ∧ ∃ i σ' H', Inv X pins σ' H' s7 ∧ tn i s7.heap ∧ (∀ b ∈ fp, H' b = none) ∧ W i m σ' H' := fun {σ7 H7} I7 n7 => by
      obtain ⟨m', hm, w7⟩ := hN σ7 H7 n7
      refine ⟨m', hm, i + 1, σ7, H7, I7.unpinned, T.keep _ _ _ st5 fun b hb o e => (I7.pin (b, o) (List.mem_append_right _ (List.mem_append_right _ (mem_pinsAt hb e)))).1, fun b hb => ?_, w7⟩
      obtain ⟨o, e, d⟩ := T.obj _ _ st5 b hb
      exact (I7.pin (b, o) (List.mem_append_right _ (List.mem_append_right _ (mem_pinsAt hb e)))).2.1
    cases f with
    | next => obtain ⟨σ7, H7, I7, n7⟩ := q7; exact again I7 n7
    | cont => obtain ⟨σ7, H7, I7, n7⟩ := q7; exact again I7 n7
    | brk => obtain ⟨σ7, H7, I7, q7⟩ := q7; exact ⟨σ7, H7, I7.unpinned, q7⟩
    | ret v => obtain ⟨x7, σ7, H7, I7, r7, q7⟩ := q7; exact ⟨x7, σ7, H7, I7.unpinned, r7, q7⟩
end

theorem for_list {K : PySem.W.Frag} {a : Addr} {xs : List V} {g : TG} {tb : TS} {D : Ends} {σ : St} {H : Hp} (Pv : Nat → St → Hp → Prop) (h0 : Pv 0 σ H) (hl : ∀ i σ H, i ≤ xs.length → Pv i σ H → SqL K H a xs)
    (hs : ∀ i x σ H, xs[i]? = some x → Pv i σ H → g x σ H fun σ2 H2 => tb { D with nx := Pv (i + 1), ct := Pv (i + 1), bk := D.nx } σ2 H2) (hd : ∀ σ H, Pv xs.length σ H → D.nx σ H) :
    ∃ W : Nat → Nat → St → Hp → Prop, (∃ m, W 0 m σ H) ∧ ∀ i m σ H, W i m σ H →
      ((Itl K a).stop i H ∧ D.nx σ H) ∨ ((Itl K a).go i H ∧ ∃ N : St → Hp → Prop, (∀ σ' H', N σ' H' → ∃ m', m' < m ∧ W (i + 1) m' σ' H') ∧ ∀ x H', (Itl K a).yld i H x H' → g x σ H' fun σ2 H2 => tb { D with nx := N, ct := N, bk := D.nx } σ2 H2) := by
  refine ⟨fun i m σ H => m = xs.length - i ∧ i ≤ xs.length ∧ Pv i σ H, ⟨xs.length, by simp, Nat.zero_le _, h0⟩, ?_⟩
  rintro i m σ H ⟨rfl, hi, p⟩
  have q := hl i σ H hi p
  by_cases hlt : i < xs.length
  · refine .inr ⟨⟨xs, xs[i], q, by simp [hlt]⟩, Pv (i + 1), fun σ' H' p' => ⟨xs.length - (i + 1), by omega, rfl, hlt, p'⟩, fun x H' y => ?_⟩
    obtain ⟨e, y⟩ := y
    subst e
    exact hs i x σ _ (y xs q) p
  · have e : i = xs.length := by omega
    subst e
    exact .inl ⟨⟨xs, q, Nat.le_refl _⟩, hd σ H p⟩
end L2

namespace L2
open PySem PySem.Spec PyProof.Rows

abbrev R2 := V → V → Hp → VK → Prop
def OpR (X : Cx) (f : Value → Value → Sem Value) (r : R2) : Prop :=
  ∀ (pins : List (Addr × Obj)) (s : Shared) (σ : St) (H : Hp) (x y : V) (v u : Value) (Q : VK), Inv X pins σ H s → RelV x v → RelV y u → r x y H Q →
    wpAny (model X.prog X.w) X.A (f v u) (EP X pins σ Q) X.xe s
def CallR (X : Cx) (f : Value) (r : List V → Hp → VK → Prop) : Prop :=
  ∀ (pins : List (Addr × Obj)) (s : Shared) (σ : St) (H : Hp) (xs : List V) (us : List Value) (Q : VK), Inv X pins σ H s → Vals xs us → r xs H Q →
    wpAny (model X.prog X.w) X.A (call f us) (EP X pins σ Q) X.xe s
def TruR (X : Cx) (r : V → Hp → (Bool → Hp → Prop) → Prop) : Prop :=
  ∀ (pins : List (Addr × Obj)) (s : Shared) (σ : St) (H : Hp) (x : V) (v : Value) (Q : Bool → Hp → Prop), Inv X pins σ H s → RelV x v → r x H Q →
    wpAny (model X.prog X.w) X.A (truthy v) (TP X pins σ Q) X.xe s
def tOp (r : R2) (ta tb : TE) : TE := fun σ H Q => ta σ H fun x H1 => tb σ H1 fun y H2 => r x y H2 Q
def rI (C : Int → Int → Prop) (g : Int → Int → V) : R2 := fun x y H Q => ∃ i j, x = .int i ∧ y = .int j ∧ C i j ∧ Q (g i j) H
def rI0 (g : Int → Int → V) : R2 := fun x y H Q => ∃ i j, x = .int i ∧ y = .int j ∧ Q (g i j) H
section
variable {X : Cx} {a b c : Expr} {ta tb tc : TE} {pos : Pos}

theorem binT (ha : PE X a ta) (hb : PE X b tb) {pins : List (Addr × Obj)} {s : Shared} {σ : St} {H : Hp} {R : V → V → Hp → Prop} (I : Inv X pins σ H s)
    (h : ta σ H fun x H1 => tb σ H1 fun y H2 => R x y H2) {Q : Value → Shared → Prop} {f : Value → Value → Sem Value}
    (hf : ∀ v u s2 x y H2, Inv X pins σ H2 s2 → RelV x v → RelV y u → R x y H2 → wpAny (model X.prog X.w) X.A (f v u) Q X.xe s2) :
    wpAny (model X.prog X.w) X.A (eval a X.env) (fun v s₁ => wpAny (model X.prog X.w) X.A (eval b X.env) (fun u s₂ => wpAny (model X.prog X.w) X.A (f v u) Q X.xe s₂) X.xe s₁) X.xe s := by
  refine thn (ha pins s σ H _ I h) fun v s1 ⟨x, H1, I1, r1, q1⟩ => ?_
  refine thn (hb pins s1 σ H1 _ I1 q1) fun u s2 ⟨y, H2, I2, r2, q2⟩ => ?_
  exact hf v u s2 x y H2 I2 r1 r2 q2
theorem pe_op {op : Operator} {r : R2} (ho : OpR X (binaryOp op) r) (ha : PE X a ta) (hb : PE X b tb) : PE X (.BinOp a op b pos) (tOp r ta tb) := by
  intro pins s σ H Q I h
  exact wpAny_BinOp (binT ha hb I h fun v u s2 x y H2 I2 rx ry q => ho pins s2 σ H2 x y v u Q I2 rx ry q)
theorem opI {f : Value → Value → Sem Value} {C : Int → Int → Prop} {g : Int → Int → Int}
    (rule : ∀ (i j : Int) (t u : Tok) (s : Shared) (Q : Value → Shared → Prop) (E : Value → Shared → Prop), C i j → Q (.int (g i j) s.toks) { s with toks := s.toks + 1 } → wpAny (model X.prog X.w) X.A (f (.int i t) (.int j u)) Q E s) :
    OpR X f (rI C fun i j => .int (g i j)) := by
  intro pins s σ H x y v u Q I rx ry h
  obtain ⟨i, j, rfl, rfl, hc, q⟩ := h
  obtain ⟨t, rfl⟩ := rx
  obtain ⟨t', rfl⟩ := ry
  exact rule i j t t' s _ _ hc ⟨.int (g i j), H, I.tok _, ⟨_, rfl⟩, q⟩
theorem opI0 {f : Value → Value → Sem Value} {g : Int → Int → Int}
    (rule : ∀ (i j : Int) (t u : Tok) (s : Shared) (Q : Value → Shared → Prop) (E : Value → Shared → Prop), Q (.int (g i j) s.toks) { s with toks := s.toks + 1 } → wpAny (model X.prog X.w) X.A (f (.int i t) (.int j u)) Q E s) :
    OpR X f (rI0 fun i j => .int (g i j)) := by
  intro pins s σ H x y v u Q I rx ry h
  obtain ⟨i, j, rfl, rfl, q⟩ := h
  obtain ⟨t, rfl⟩ := rx
  obtain ⟨t', rfl⟩ := ry
  exact rule i j t t' s _ _ ⟨.int (g i j), H, I.tok _, ⟨_, rfl⟩, q⟩
theorem opB0 {f : Value → Value → Sem Value} {g : Int → Int → Bool}
    (rule : ∀ (i j : Int) (t u : Tok) (s : Shared) (Q : Value → Shared → Prop) (E : Value → Shared → Prop), Q (.bool (g i j)) s → wpAny (model X.prog X.w) X.A (f (.int i t) (.int j u)) Q E s) :
    OpR X f (rI0 fun i j => .bl (g i j)) := by
  intro pins s σ H x y v u Q I rx ry h
  obtain ⟨i, j, rfl, rfl, q⟩ := h
  obtain ⟨t, rfl⟩ := rx
  obtain ⟨t', rfl⟩ := ry
  exact rule i j t t' s _ _ ⟨.bl (g i j), H, I, rfl, q⟩
def CPow (i j : Int) : Prop := 0 ≤ j ∧ j ≤ 1000000 ∧ i.natAbs < 2 ^ 64
def CMul (i j : Int) : Prop := (-(2 ^ 64) < i ∧ i < 2 ^ 64) ∨ (-(2 ^ 64) < j ∧ j < 2 ^ 64)
theorem CMul.ok {i j : Int} (h : CMul i j) : IntMulOk i j := by
  rcases h with ⟨h1, h2⟩ | ⟨h1, h2⟩
  · exact .of_left (intBits_le_64 h1 h2)
  · exact .of_right (intBits_le_64 h1 h2)
theorem op_add : OpR X (binaryOp .Add) (rI0 fun i j => .int (i + j)) := opI0 fun _ _ _ _ _ _ _ q => add_int q
theorem op_sub : OpR X (binaryOp .Sub) (rI0 fun i j => .int (i - j)) := opI0 fun _ _ _ _ _ _ _ q => sub_int q
theorem op_mul : OpR X (binaryOp .Mult) (rI CMul fun i j => .int (i * j)) := opI fun _ _ _ _ _ _ _ hc q => mul_int q hc.ok
theorem op_mod : OpR X (binaryOp .Mod) (rI (fun _ j => 0 < j) fun i j => .int (i % j)) := opI fun i j _ _ _ _ _ hc q => by
  have h1 : (0 : Int) < j := hc
  exact mod_int' (by omega) (by rw [Int.fmod_eq_emod_of_nonneg i (by omega)]; exact q)
theorem op_pow : OpR X (binaryOp .Pow) (rI CPow fun i j => .int (i ^ j.toNat)) := opI fun _ _ _ _ _ _ _ hc q => pow_int_small hc.1 hc.2.1 hc.2.2 q
end

def scal : V → V → Bool
  | .non, .non => true | .non, .int _ => true | .int _, .non => true | .non, .bl _ => true | .bl _, .non => true | .non, .str _ => true | .str _, .non => true
  | .int _, .int _ => true | .bl _, .bl _ => true | .str _, .str _ => true | .byt _, .byt _ => true
  | .int _, .str _ => true | .str _, .int _ => true | .bl _, .str _ => true | .str _, .bl _ => true
  | _, _ => false
def rEq : R2 := fun x y H Q => scal x y = true ∧ Q (.bl (decide (x = y))) H
def rNe : R2 := fun x y H Q => scal x y = true ∧ Q (.bl (!decide (x = y))) H
theorem dec_int {i j : Int} : decide (V.int i = V.int j) = (i == j) := by
  rw [Bool.eq_iff_iff]
  simp
theorem dec_bl {i j : Bool} : decide (V.bl i = V.bl j) = (i == j) := by
  rw [Bool.eq_iff_iff]
  simp
theorem dec_str {i j : Str} : decide (V.str i = V.str j) = (i == j) := by
  rw [Bool.eq_iff_iff]
  simp
theorem dec_byt {i j : Array UInt8} : decide (V.byt i = V.byt j) = (i.toList == j.toList) := by
  rw [Bool.eq_iff_iff]
  cases i
  cases j
  simp
section
variable {X : Cx} {a b c : Expr} {ta tb tc : TE} {pos : Pos}
theorem fin_bl {pins : List (Addr × Obj)} {σ : St} {H : Hp} {s : Shared} {Q : VK} {k k' : Bool} (I : Inv X pins σ H s) (q : Q (.bl k) H) (e : k = k') : EP X pins σ Q (.bool k') s := by
  subst e
  exact ⟨.bl k, H, I, rfl, q⟩
theorem op_eq : OpR X (compareOp .Eq) rEq := by
  intro pins s σ H x y v u Q I rx ry h
  obtain ⟨hs, q⟩ := h
  cases x with
  | non =>
    cases rx
    cases y with
    | non => cases ry; exact PySem.EqNone.eq_none_none (fin_bl I q (by simp))
    | bl j => cases ry; exact PySem.EqNone.eq_none_bool (fin_bl I q (by simp))
    | int j => obtain ⟨t', rfl⟩ := ry; exact PySem.EqNone.eq_none_int (fin_bl I q (by simp))
    | str j => obtain ⟨t', rfl⟩ := ry; exact PySem.EqNone.eq_none_str (fin_bl I q (by simp))
    | _ => exact absurd (show false = true from hs) Bool.false_ne_true
  | bl i =>
    cases rx
    cases y with
    | non => cases ry; exact PySem.EqNone.eq_bool_none (fin_bl I q (by simp))
    | bl j => cases ry; exact eq_bool (fin_bl I q dec_bl)
    | str j => obtain ⟨t', rfl⟩ := ry; exact PySem.EqMixed.eq_bool_str (fin_bl I q (by simp))
    | _ => exact absurd (show false = true from hs) Bool.false_ne_true
  | int i =>
    obtain ⟨t, rfl⟩ := rx
    cases y with
    | non => cases ry; exact PySem.EqNone.eq_int_none (fin_bl I q (by simp))
    | int j => obtain ⟨t', rfl⟩ := ry; exact eq_int (fin_bl I q dec_int)
    | str j => obtain ⟨t', rfl⟩ := ry; exact PySem.EqMixed.eq_int_str (fin_bl I q (by simp))
    | _ => exact absurd (show false = true from hs) Bool.false_ne_true
  | str i =>
    obtain ⟨t, rfl⟩ := rx
    cases y with
    | non => cases ry; exact PySem.EqNone.eq_str_none (fin_bl I q (by simp))
    | bl j => cases ry; exact PySem.EqMixed.eq_str_bool (fin_bl I q (by simp))
    | int j => obtain ⟨t', rfl⟩ := ry; exact PySem.EqMixed.eq_str_int (fin_bl I q (by simp))
    | str j => obtain ⟨t', rfl⟩ := ry; exact eq_str (fin_bl I q dec_str)
    | _ => exact absurd (show false = true from hs) Bool.false_ne_true
  | byt i =>
    obtain ⟨t, rfl⟩ := rx
    cases y with
    | byt j => obtain ⟨t', rfl⟩ := ry; exact PySem.W.eq_bytes (fin_bl I q dec_byt)
    | _ => exact absurd (show false = true from hs) Bool.false_ne_true
  | _ => cases y <;> exact absurd (show false = true from hs) Bool.false_ne_true
theorem op_ne : OpR X (compareOp .NotEq) rNe := by
  intro pins s σ H x y v u Q I rx ry h
  obtain ⟨hs, q⟩ := h
  cases x with
  | non =>
    cases rx
    cases y with
    | non => cases ry; exact PySem.EqNone.ne_none_none (fin_bl I q (by simp))
    | bl j => cases ry; exact PySem.EqNone.ne_none_bool (fin_bl I q (by simp))
    | int j => obtain ⟨t', rfl⟩ := ry; exact PySem.EqNone.ne_none_int (fin_bl I q (by simp))
    | str j => obtain ⟨t', rfl⟩ := ry; exact PySem.EqNone.ne_none_str (fin_bl I q (by simp))
    | _ => exact absurd (show false = true from hs) Bool.false_ne_true
  | bl i =>
    cases rx
    cases y with
    | non => cases ry; exact PySem.EqNone.ne_bool_none (fin_bl I q (by simp))
    | bl j => cases ry; exact ne_bool (fin_bl I q (congrArg not dec_bl))
    | str j => obtain ⟨t', rfl⟩ := ry; exact PySem.EqMixed.ne_bool_str (fin_bl I q (by simp))
    | _ => exact absurd (show false = true from hs) Bool.false_ne_true
  | int i =>
    obtain ⟨t, rfl⟩ := rx
    cases y with
    | non => cases ry; exact PySem.EqNone.ne_int_none (fin_bl I q (by simp))
    | int j => obtain ⟨t', rfl⟩ := ry; exact ne_int (fin_bl I q (congrArg not dec_int))
    | str j => obtain ⟨t', rfl⟩ := ry; exact PySem.EqMixed.ne_int_str (fin_bl I q (by simp))
    | _ => exact absurd (show false = true from hs) Bool.false_ne_true
  | str i =>
    obtain ⟨t, rfl⟩ := rx
    cases y with
    | non => cases ry; exact PySem.EqNone.ne_str_none (fin_bl I q (by simp))
    | bl j => cases ry; exact PySem.EqMixed.ne_str_bool (fin_bl I q (by simp))
    | int j => obtain ⟨t', rfl⟩ := ry; exact PySem.EqMixed.ne_str_int (fin_bl I q (by simp))
    | str j => obtain ⟨t', rfl⟩ := ry; exact ne_str (fin_bl I q (congrArg not dec_str))
    | _ => exact absurd (show false = true from hs) Bool.false_ne_true
  | byt i =>
    obtain ⟨t, rfl⟩ := rx
    cases y with
    | byt j => obtain ⟨t', rfl⟩ := ry; exact PySem.W.ne_bytes (fin_bl I q (congrArg not dec_byt))
    | _ => exact absurd (show false = true from hs) Bool.false_ne_true
  | _ => cases y <;> exact absurd (show false = true from hs) Bool.false_ne_true
theorem op_lt : OpR X (compareOp .Lt) (rI0 fun i j => .bl (decide (i < j))) := opB0 fun _ _ _ _ _ _ _ q => lt_int q
theorem op_gt : OpR X (compareOp .Gt) (rI0 fun i j => .bl (decide (j < i))) := opB0 fun _ _ _ _ _ _ _ q => gt_int q
theorem op_ge : OpR X (compareOp .GtE) (rI0 fun i j => .bl (decide (j ≤ i))) := opB0 fun _ _ _ _ _ _ _ q => ge_int q
theorem op_isN : OpR X (compareOp .Is) (fun x y H Q => y = .non ∧ Q (.bl (decide (x = .non))) H) := by
  intro pins s σ H x y v u Q I rx ry h
  obtain ⟨rfl, q⟩ := h
  cases ry
  refine is_none_gen (fin_bl I q ?_)
  cases x <;> first
    | (cases rx; rfl)
    | (obtain ⟨t, rfl⟩ := rx; rfl)
theorem pe_cmpR {op : CmpOp} {r : R2} (ho : OpR X (compareOp op) r) (ha : PE X a ta) (hb : PE X b tb) (hm : behindInMarks op b = false) : PE X (.Compare a [op] [b] pos) (tOp r ta tb) := by
  intro pins s σ H Q I h
  exact wpAny_Compare1 (binT ha hb I h fun v u s2 x y H2 I2 rx ry q => ho pins s2 σ H2 x y v u Q I2 rx ry q) hm
def tTest (t : TE) : TT := fun σ H Q => t σ H fun x H' => ∃ k, x = .bl k ∧ Q k H'
theorem pt_cmpR {op : CmpOp} {r : R2} (ho : OpR X (compareOp op) r) (ha : PE X a ta) (hb : PE X b tb) (hm : behindInMarks op b = false) : PT X (.Compare a [op] [b] pos) (tTest (tOp r ta tb)) := by
  intro pins s σ H Q I h
  refine wpAny_isTrue_Compare1 (thn (ha pins s σ H _ I h) fun v s1 ⟨x, H1, I1, r1, q1⟩ => thn (hb pins s1 σ H1 _ I1 q1) fun u s2 ⟨y, H2, I2, r2, q2⟩ =>
    thn (ho pins s2 σ H2 x y v u _ I2 r1 r2 q2) fun c s3 ⟨z, H3, I3, r3, k, e, q3⟩ => ?_) hm
  subst e
  cases r3
  exact wpAny_truthy_bool ⟨H3, I3, q3⟩
def TruV (K : PySem.W.Frag) (x : V) (H : Hp) (k : Bool) : Prop :=
  match x with
  | .non => k = false
  | .bl b => k = b
  | .int i => k = (i != 0)
  | .str y => y.length ≤ sizeLine ∧ k = ((y.length : Int) != 0)
  | .byt y => y.size ≤ sizeLine ∧ k = ((y.size : Int) != 0)
  | .ref p => (∃ xs, SqL K H p xs ∧ k = !xs.isEmpty) ∨ (∃ xs, SqT K H p xs ∧ k = !xs.isEmpty) ∨ ∃ kvs, H p = some (.dK kvs) ∧ k = !kvs.isEmpty
  | _ => False
theorem isEmpty_kv {κ : Type} {kvs : List (κ × V)} {vs : List (κ × Value)} (r : KV kvs vs) : (!vs.isEmpty) = !kvs.isEmpty := by
  cases r <;> rfl
theorem isEmpty_of {xs : List V} {its : List Value} (r : Vals xs its) : (!its.toArray.isEmpty) = !xs.isEmpty := by
  cases r <;> simp
theorem line63 : (sizeLine : Nat) < 2 ^ 63 := by rw [sizeLine_eq]; decide
theorem tru_ok : TruR X (fun x H Q => ∃ k, TruV X.K x H k ∧ Q k H) := by
  intro pins s σ H x v Q I rx h
  obtain ⟨k, e, q⟩ := h
  have hl := line63
  have hs : sizeLine = 16777216 := sizeLine_eq
  cases x with
  | non =>
    cases rx
    have e' : k = false := e
    subst e'
    exact truthy_none ⟨H, I, q⟩
  | bl b =>
    cases rx
    have e' : k = b := e
    subst e'
    exact wpAny_truthy_bool ⟨H, I, q⟩
  | int i =>
    obtain ⟨t, rfl⟩ := rx
    have e' : k = (i != 0) := e
    subst e'
    exact PySem.P.truthy_int ⟨H, I, q⟩
  | str y =>
    obtain ⟨t, rfl⟩ := rx
    obtain ⟨hy, e'⟩ : y.length ≤ sizeLine ∧ k = ((y.length : Int) != 0) := e
    subst e'
    exact PySem.P.truthy_str (by omega) ⟨H, I.tok _, q⟩
  | byt y =>
    obtain ⟨t, rfl⟩ := rx
    obtain ⟨hy, e'⟩ : y.size ≤ sizeLine ∧ k = ((y.size : Int) != 0) := e
    subst e'
    exact PySem.W.truthy_bytes (by omega) ⟨H, I.tok _, q⟩
  | ref p =>
    cases rx
    have e' : (∃ xs, SqL X.K H p xs ∧ k = !xs.isEmpty) ∨ (∃ xs, SqT X.K H p xs ∧ k = !xs.isEmpty) ∨ ∃ kvs, H p = some (.dK kvs) ∧ k = !kvs.isEmpty := e
    rcases e' with ⟨xs, hx, e'⟩ | ⟨xs, hx, e'⟩ | ⟨kvs, hx, e'⟩
    · subst e'
      obtain ⟨its, r, pl, hz⟩ := I.list hx
      have hlen := r.length
      exact wpAny_truthy_list pl.isList (by simp only [List.size_toArray]; omega) ⟨H, I.tok _, by rw [isEmpty_of r]; exact q⟩
    · subst e'
      obtain ⟨its, r, pl, hz⟩ := I.tuple hx
      have hlen := r.length
      exact truthy_tuple pl (by simp only [List.size_toArray]; omega) ⟨H, I.tok _, by rw [isEmpty_of r]; exact q⟩
    · subst e'
      obtain ⟨hz, hS, vs, r, m⟩ : kvs.length ≤ sizeLine ∧ (p == sysModules) = false ∧ ∃ vs, KV kvs vs ∧ s.heap.DictOf (mixKind X.prog X.w) p vs := I.hok p _ hx
      have hlen : kvs.length = vs.length := Paired.length r
      exact wpAny_truthy_dict hS m (by omega) ⟨H, I.tok _, by rw [isEmpty_kv r]; exact q⟩
  | _ => exact (show False from e).elim
theorem op_add_str : OpR X (binaryOp .Add) (fun x y H Q => ∃ i j, x = .str i ∧ y = .str j ∧ i.length + j.length ≤ sizeLine ∧ Q (.str (i ++ j)) H) := by
  intro pins s σ H x y v u Q I rx ry h
  obtain ⟨i, j, rfl, rfl, hz, q⟩ := h
  obtain ⟨t, rfl⟩ := rx
  obtain ⟨t', rfl⟩ := ry
  exact add_str (fun t' tk => ⟨.str (i ++ j), H, I.tok _, ⟨_, rfl⟩, q⟩) hz
theorem vals1 {x : V} {us : List Value} (r : Vals [x] us) : ∃ u, us = [u] ∧ RelV x u := by
  cases r with
  | cons r1 r2 => cases r2; exact ⟨_, rfl, r1⟩
theorem vals2 {x y : V} {us : List Value} (r : Vals [x, y] us) : ∃ u w', us = [u, w'] ∧ RelV x u ∧ RelV y w' := by
  cases r with
  | cons r1 r2 =>
    cases r2 with
    | cons r3 r4 => cases r4; exact ⟨_, _, rfl, r1, r3⟩
theorem call_int1 : CallR X (.type "int") (fun xs H Q => (∃ i, xs = [.int i] ∧ Q (.int i) H) ∨ ∃ k, xs = [.bl k] ∧ Q (.int (if k then 1 else 0)) H) := by
  intro pins s σ H xs us Q I r h
  rcases h with ⟨i, rfl, q⟩ | ⟨k, rfl, q⟩
  · obtain ⟨u, rfl, t, rfl⟩ := vals1 r
    exact call_int_int ⟨.int i, H, I, ⟨_, rfl⟩, q⟩
  · obtain ⟨u, rfl, r1⟩ := vals1 r
    cases r1
    exact call_int_bool ⟨.int (if k then 1 else 0), H, I.tok _, ⟨_, rfl⟩, q⟩
def LenV (K : PySem.W.Frag) (x : V) (H : Hp) (n : Nat) : Prop :=
  match x with
  | .str y => y.length ≤ sizeLine ∧ n = y.length
  | .byt y => y.size ≤ sizeLine ∧ n = y.size
  | .ref p => (∃ xs, SqL K H p xs ∧ n = xs.length) ∨ ∃ xs, SqT K H p xs ∧ n = xs.length
  | _ => False
theorem call_len : CallR X (.builtin "len") (fun xs H Q => ∃ x n, xs = [x] ∧ LenV X.K x H n ∧ Q (.int n) H) := by
  intro pins s σ H xs us Q I r h
  obtain ⟨x, n, rfl, e, q⟩ := h
  obtain ⟨u, rfl, rx⟩ := vals1 r
  have hl := line63
  have hs : sizeLine = 16777216 := sizeLine_eq
  cases x with
  | str y =>
    obtain ⟨t, rfl⟩ := rx
    obtain ⟨hy, e'⟩ : y.length ≤ sizeLine ∧ n = y.length := e
    subst e'
    exact len_str (by omega) ⟨.int _, H, I.tok _, ⟨_, rfl⟩, q⟩
  | byt y =>
    obtain ⟨t, rfl⟩ := rx
    obtain ⟨hy, e'⟩ : y.size ≤ sizeLine ∧ n = y.size := e
    subst e'
    exact PySem.W.len_bytes (by omega) ⟨.int _, H, I.tok _, ⟨_, rfl⟩, q⟩
  | ref p =>
    cases rx
    have e' : (∃ xs, SqL X.K H p xs ∧ n = xs.length) ∨ ∃ xs, SqT X.K H p xs ∧ n = xs.length := e
    rcases e' with ⟨xs, hx, e'⟩ | ⟨xs, hx, e'⟩
    · subst e'
      obtain ⟨its, r', pl, hz⟩ := I.list hx
      have hlen := r'.length
      exact Calls.call_len_list pl.isList (by simp only [List.size_toArray]; omega) ⟨.int xs.length, H, I.tok _, ⟨_, by simp only [List.size_toArray]; rw [hlen]⟩, q⟩
    · subst e'
      obtain ⟨its, r', pl, hz⟩ := I.tuple hx
      have hlen := r'.length
      exact len_tuple pl (by simp only [List.size_toArray]; omega) ⟨.int xs.length, H, I.tok _, ⟨_, by simp only [List.size_toArray]; rw [hlen]⟩, q⟩
  | _ => exact (show False from e).elim
end
end L2

namespace L2
open PySem PySem.Spec PyProof.Rows

structure ObjM (h : Heap) (x dx C : Addr) (mA : Str → Option Value) : Prop where
  obj : h.get? x = some (PySem.W.instObj C dx)
  ns : h.Ns1 dx mA
  ne : dx ≠ x
theorem lookIn_ns {h : Heap} {dx : Addr} {mA : Str → Option Value} (n : h.Ns1 dx mA) : ∃ od, h.get? dx = some od ∧ ∀ name, PySem.W.lookIn name od = some (mA name) := by
  obtain ⟨o, es, ep, ho, hd, hk, _, hm⟩ := n
  refine ⟨o, ho, fun name => ?_⟩
  have e := hm name
  unfold nsFind findBy at e
  rw [← Array.find?_toList] at e
  unfold PySem.W.lookIn
  rw [hd]
  dsimp only
  split
  · rename_i y q
    rw [q] at e
    exact congrArg some e
  · rename_i q
    rw [q] at e
    have a : es.toList.any (·.refKey) = false := by
      rw [List.any_eq_false]
      intro y hy
      obtain ⟨z, t, hkey⟩ := hk y (Array.mem_toList_iff.mp hy)
      simp [DictEntry.refKey, hkey]
    have a' : ¬ es.toList.any (·.refKey) = true := by rw [a]; exact Bool.false_ne_true
    rw [if_neg a']
    exact congrArg some e
theorem ObjM.look {h : Heap} {x dx C : Addr} {mA : Str → Option Value} (I : ObjM h x dx C mA) : ∃ od, PySem.W.InstAt h x (PySem.W.instObj C dx) C (some od) ∧ ∀ name, PySem.W.lookIn name od = some (mA name) :=
  let ⟨od, ho, hl⟩ := lookIn_ns I.ns
  ⟨od, ⟨I.obj, rfl, rfl, ho⟩, hl⟩
section
variable {prog : Program} {w : World} {A : Around} {E : Value → Shared → Prop} {s : Shared} {K : PySem.W.Frag} {x dx C f : Addr} {mA : Str → Option Value} {name : Str} {v : Value}

theorem get_map {expr : Bool} {Q : Value → Shared → Prop} (X : K.In s.heap) (I : ObjM s.heap x dx C mA) (hg : PySem.W.plainGet K C name = true) (hh : PySem.W.hasDictIn K C = true)
    (ha : PySem.W.findIn K (.ref C) name = some none) (hv : mA name = some v) (hv' : PySem.W.handedIn v = true) (h : Q v { s with toks := s.toks + 1 }) :
    wpAny (model prog w) A (getAttr (.ref x) name expr) Q E s := by
  obtain ⟨od, J, hl⟩ := I.look
  exact PySem.W.get_value X J (PySem.W.plainGet_of hg).1 (PySem.W.findObj_own hh ha rfl (by rw [hl, hv])) hv' h
theorem get_meth {pl : Sem Bool} {Q : Value × List Value → Shared → Prop} (X : K.In s.heap) (I : ObjM s.heap x dx C mA) (hg : PySem.W.plainGet K C name = true)
    (hf : PySem.W.findIn K (.ref C) name = some (some (.ref f))) (ht : PySem.W.isFn K (.ref f) = true) (hv : mA name = none) (h : Q (.ref f, [.ref x]) s) :
    wpAny (model prog w) A (getMethod (.ref x) name pl) Q E s := by
  obtain ⟨od, J, hl⟩ := I.look
  exact PySem.W.method_fn X J (PySem.W.plainGet_of hg).1 (PySem.W.plainGet_of hg).2 hf (beq_iff_eq.mp ht) (by show (PySem.W.lookIn name od).map (·.isSome) = some false; rw [hl, hv]; rfl) h
theorem set_map {ns : List Str} {Q : Unit → Shared → Prop} (X : K.In s.heap) (I : ObjM s.heap x dx C mA)
    (hs : PySem.W.findIn K (.ref C) "__setattr__" = some (some (.builtin "object.__setattr__"))) (hp : PySem.W.plainOver K C = true) (ht : PySem.W.takerIn K C name = some none) (hh : PySem.W.hasDictIn K C = true)
    (hw : PySem.Within mA ns) (hsz : ns.length ≤ sizeLine)
    (h : ∀ h', ObjM h' x dx C (fun y => if y = name then some v else mA y) → Heap.SameBut dx s.heap h' → Q () { s with heap := h', toks := s.toks + 2 }) :
    wpAny (model prog w) A (setAttr (.ref x) name v) Q E s := by
  obtain ⟨od, J, hl⟩ := I.look
  refine PySem.W.set_plain X J hs (PySem.W.osa_open (s := { s with toks := s.toks + 1 }) (r := none) X J hp ht fun b => ?_)
  obtain ⟨cd, hc, hd'⟩ := PySem.W.any_some hh
  have hx : s.heap.get? x = some ⟨.ref C, some dx, .plain, #[]⟩ := I.obj
  refine wpAny_bind (wpAny_pure (wpAny_bind (wpAny_bind (wpAny_loadPart hx (wpAny_bind (PySem.W.Looks.here (s := { s with toks := s.toks + 1 }) (PySem.W.looks_clsIn X hc) ?_))))))
  rw [hd']
  refine wpAny_pure (a := some dx) (wpAny_bind (wpAny_pure (wpAny_bind ?_)))
  refine wpAny_nsSet1 (s := { s with toks := s.toks + 1 }) I.ns fun h' hn2 hs2 => ?_
  obtain ⟨oD, esD, epD, hoD, hdD, hcD⟩ := hn2.count (PySem.Within.cons name v hw)
  refine wpAny_bind (wpAny_lookBehind hoD (by rw [hdD]; exact pastItsLine_dict (Nat.le_trans hcD (by rw [List.length_cons]; omega))) ?_)
  exact wpAny_pure (h _ ⟨(hs2.2 _ (Ne.symm I.ne)).trans I.obj, hn2, I.ne⟩ hs2)
theorem make_map {R : Result → Shared → Prop} {vs : List Value} {kw : List (Str × Value)} (X : K.In s.heap) (hm : PySem.W.makesIn K C = true)
    (hi : PySem.W.findIn K (.ref C) "__init__" = some (some (.ref f))) (hf : PySem.W.typeIn K (.ref f) = some (.type "function"))
    (h : codeAny (model prog w) (A.under (.builtin "type.__call__" ⟨.ref C :: vs, kw⟩)) (.call (.ref f) ⟨.ref (s.heap.objs.size + 1) :: vs, kw⟩) (PySem.W.InitBack (s.heap.objs.size + 1) R)
      { s with heap := (s.heap.push PySem.W.emptyDict).push (PySem.W.instObj C s.heap.objs.size) }) :
    codeAny (model prog w) A (.call (.ref C) ⟨vs, kw⟩) R s := by
  obtain ⟨hh, g, d, t, os⟩ := s
  exact PySem.W.make_core (PySem.W.makes_of X hm) (PySem.W.looks_findIn X hi) (fun self => PySem.W.bind_fn X self hf) (.inl rfl) h
end

def putF (f : Str) (v : V) : List (Str × V) → List (Str × V)
  | [] => [(f, v)]
  | (g, x) :: r => if g = f then (g, v) :: r else (g, x) :: putF f v r
theorem lookup_putF (f g : Str) (v : V) : ∀ fs : List (Str × V), (putF f v fs).lookup g = if g = f then some v else fs.lookup g
  | [] => by
    show List.lookup g [(f, v)] = _
    by_cases h : g = f
    · have hb : (g == f) = true := beq_iff_eq.mpr h
      simp only [List.lookup, hb, if_pos h]
    · have hb : (g == f) = false := beq_eq_false_iff_ne.mpr h
      simp only [List.lookup, hb, if_neg h]
  | (k, x) :: r => by
    have ih := lookup_putF f g v r
    rw [show putF f v ((k, x) :: r) = (if k = f then (k, v) :: r else (k, x) :: putF f v r) from rfl]
    by_cases hk : k = f
    · rw [if_pos hk]
      by_cases h : g = k
      · have hb : (g == k) = true := beq_iff_eq.mpr h
        simp only [List.lookup, hb, if_pos (h.trans hk)]
      · have hb : (g == k) = false := beq_eq_false_iff_ne.mpr h
        simp only [List.lookup, hb, if_neg (fun e : g = f => h (e.trans hk.symm))]
    · rw [if_neg hk]
      by_cases h : g = k
      · have hb : (g == k) = true := beq_iff_eq.mpr h
        simp only [List.lookup, hb, if_neg (fun e : g = f => hk (h.symm.trans e))]
      · have hb : (g == k) = false := beq_eq_false_iff_ne.mpr h
        simp only [List.lookup, hb]
        exact ih
theorem keys_putF (f : Str) (v : V) : ∀ fs : List (Str × V), f ∈ (putF f v fs).map (·.1) ∧ ∀ g, g ∈ fs.map (·.1) → g ∈ (putF f v fs).map (·.1)
  | [] => ⟨by simp [putF], fun g h => by simp at h⟩
  | (k, x) :: r => by
    obtain ⟨i1, i2⟩ := keys_putF f v r
    rw [show putF f v ((k, x) :: r) = (if k = f then (k, v) :: r else (k, x) :: putF f v r) from rfl]
    by_cases hk : k = f
    · rw [if_pos hk]
      subst hk
      exact ⟨by simp, fun g h => by simpa using h⟩
    · rw [if_neg hk]
      refine ⟨?_, fun g h => ?_⟩
      · rw [List.map_cons]
        exact List.mem_cons_of_mem _ i1
      · rw [List.map_cons] at h ⊢
        rcases List.mem_cons.mp h with e | e
        · exact List.mem_cons.mpr (.inl e)
        · exact List.mem_cons_of_mem _ (i2 g e)
theorem length_putF (f : Str) (v : V) : ∀ fs : List (Str × V), (putF f v fs).length ≤ fs.length + 1
  | [] => by simp [putF]
  | (k, x) :: r => by
    have ih := length_putF f v r
    rw [show putF f v ((k, x) :: r) = (if k = f then (k, v) :: r else (k, x) :: putF f v r) from rfl]
    by_cases hk : k = f
    · rw [if_pos hk, List.length_cons, List.length_cons]; omega
    · rw [if_neg hk, List.length_cons, List.length_cons]; omega
theorem RelO.some_of {v : V} {o : Option Value} (r : RelO (some v) o) : ∃ u, o = some u ∧ RelV v u := by
  cases o with
  | none => exact (show False from r).elim
  | some u => exact ⟨u, rfl, r⟩
theorem RelO.none_of {o : Option Value} (r : RelO none o) : o = none := by
  cases o with
  | none => rfl
  | some u => exact (show False from r).elim
theorem handed_of {v : V} {u : Value} (r : RelV v u) : PySem.W.handedIn u = true := by
  cases v with
  | non => cases (show u = Value.none from r); rfl
  | bl b => cases (show u = Value.bool b from r); rfl
  | int i => obtain ⟨t, e⟩ := (show ∃ t, u = Value.int i t from r); cases e; rfl
  | str x => obtain ⟨t, e⟩ := (show ∃ t, u = Value.str x t from r); cases e; rfl
  | byt b => obtain ⟨t, e⟩ := (show ∃ t, u = Value.bytes b t from r); cases e; rfl
  | flt b => obtain ⟨t, e⟩ := (show ∃ t, u = Value.float b t from r); cases e; rfl
  | ref a => cases (show u = Value.ref a from r); rfl
  | ty n => cases (show u = Value.type n from r); rfl
section
variable {P : Program} {w : World} {H H' : Hp} {h h' : Heap} {a C dx : Addr} {fs fs' : List (Str × V)}
theorem ins_get (hok : HOk P w H h) (e : H a = some (.ins C dx fs)) : ∃ mA, ObjM h a dx C mA ∧ (∀ f, RelO (fs.lookup f) (mA f)) ∧ PySem.Within mA (fs.map (·.1)) ∧ fs.length ≤ 1000 ∧ H dx = some (.own a) := by
  obtain ⟨d, z, ne, ob, mA, n, r, q⟩ := (show ObjOk P w H h a (.ins C dx fs) from hok a _ e)
  exact ⟨mA, ⟨ob, n, ne⟩, r, q, z, d⟩
end

structure Cls (K : PySem.W.Frag) (C : Addr) : Prop where
  pg : PySem.W.plainGet K C Str.empty = true
  hd : PySem.W.hasDictIn K C = true
  po : PySem.W.plainOver K C = true
  sa : PySem.W.findIn K (.ref C) "__setattr__" = some (some (.builtin "object.__setattr__"))
theorem Cls.get {K : PySem.W.Frag} {C : Addr} (c : Cls K C) (f : Str) : PySem.W.plainGet K C f = true := c.pg
def NoAttr (K : PySem.W.Frag) (C : Addr) (f : Str) : Prop := PySem.W.findIn K (.ref C) f = some none
theorem NoAttr.taker {K : PySem.W.Frag} {C : Addr} {f : Str} (n : NoAttr K C f) : PySem.W.takerIn K C f = some none := by
  unfold PySem.W.takerIn
  rw [show PySem.W.findIn K (.ref C) f = some none from n]
  rfl
structure Meth (K : PySem.W.Frag) (C : Addr) (m : Str) (f : Addr) : Prop where
  at_ : PySem.W.findIn K (.ref C) m = some (some (.ref f))
  fn : PySem.W.isFn K (.ref f) = true
  kp : PySem.W.keepIn K (.ref f) = true
section
variable {X : Cx} {pins : List (Addr × Obj)} {σ : St} {H : Hp} {s : Shared} {a C dx : Addr} {fs : List (Str × V)} {f : Str} {v : V} {A : Around} {E : Value → Shared → Prop}

theorem getattr_ok {b : Bool} {Q : Value → Shared → Prop} (I : Inv X pins σ H s) (e : H a = some (.ins C dx fs)) (c : Cls X.K C) (n : NoAttr X.K C f) (l : fs.lookup f = some v)
    (h : ∀ u s', Inv X pins σ H s' → RelV v u → Q u s') : wpAny (model X.prog X.w) A (getAttr (.ref a) f b) Q E s := by
  obtain ⟨mA, O, r, _, _, _⟩ := ins_get I.hok e
  obtain ⟨u, hu, ru⟩ := RelO.some_of (v := v) (o := mA f) (by rw [← l]; exact r f)
  exact get_map I.kIn O (c.get f) c.hd n hu (handed_of ru) (h u _ (I.tok _) ru)
theorem getmeth_ok {m : Str} {g : Addr} {pl : Sem Bool} {Q : Value × List Value → Shared → Prop} (I : Inv X pins σ H s) (e : H a = some (.ins C dx fs)) (c : Cls X.K C) (k : Meth X.K C m g) (l : fs.lookup m = none)
    (h : Q (.ref g, [.ref a]) s) : wpAny (model X.prog X.w) A (getMethod (.ref a) m pl) Q E s := by
  obtain ⟨mA, O, r, _, _, _⟩ := ins_get I.hok e
  have hn : mA m = none := RelO.none_of (by rw [← l]; exact r m)
  exact get_meth I.kIn O (c.get m) k.at_ k.fn hn h
theorem setattr_ok {y : V} {u : Value} {Q : Unit → Shared → Prop} (I : Inv X pins σ H s) (e : H a = some (.ins C dx fs)) (c : Cls X.K C) (n : NoAttr X.K C f) (hl : fs.length < 1000) (ry : RelV y u)
    (h : ∀ s', Inv X pins σ (upd H a (.ins C dx (putF f y fs))) s' → Q () s') : wpAny (model X.prog X.w) A (setAttr (.ref a) f u) Q E s := by
  obtain ⟨mA, O, r, wi, _, ho⟩ := ins_get I.hok e
  have hz : (fs.map (·.1)).length ≤ sizeLine := by rw [List.length_map, sizeLine_eq]; omega
  refine set_map I.kIn O c.sa c.po n.taker c.hd wi hz fun h' O' sb => h _ ?_
  have hd : ∃ o, h'.get? dx = some o := let ⟨o, _, _, e', _⟩ := O'.ns; ⟨o, e'⟩
  refine I.write (x := a) (e := dx) (by rw [e]; exact True.intro) (.inr ho) (fun b q hb z => (sb.2 b hb).trans z) hd ?_
  refine ⟨by rw [upd_ne O.ne]; exact ho, ?_, O.ne, O'.obj, _, O'.ns, fun g => ?_, fun g hg => ?_⟩
  · have := length_putF f y fs; omega
  · show RelO ((putF f y fs).lookup g) (if g = f then some u else mA g)
    rw [lookup_putF]
    by_cases q : g = f
    · rw [if_pos q, if_pos q]; exact ry
    · rw [if_neg q, if_neg q]; exact r g
  · by_cases q : g = f
    · rw [q]; exact (keys_putF f y fs).1
    · refine (keys_putF f y fs).2 g (wi g fun z => hg ?_)
      show (if g = f then some u else mA g) = none
      rw [if_neg q]; exact z
theorem Inv.made (I : Inv X pins σ H s) : Inv X pins σ (upd (upd H s.heap.objs.size (.own (s.heap.objs.size + 1))) (s.heap.objs.size + 1) (.ins C s.heap.objs.size []))
    { s with heap := (s.heap.push PySem.W.emptyDict).push (PySem.W.instObj C s.heap.objs.size) } := by
  have e1 : (s.heap.push PySem.W.emptyDict).get? s.heap.objs.size = some PySem.W.emptyDict := Heap.get?_push_size s.heap rfl
  have e2 : ((s.heap.push PySem.W.emptyDict).push (PySem.W.instObj C s.heap.objs.size)).get? (s.heap.objs.size + 1) = some (PySem.W.instObj C s.heap.objs.size) := by
    have := Heap.get?_push_size (s.heap.push PySem.W.emptyDict) (o := PySem.W.instObj C s.heap.objs.size) rfl
    rwa [Heap.size_push] at this
  have e3 : (s.heap.push PySem.W.emptyDict).Ns s.heap.objs.size (fun _ => none) := ⟨PySem.W.emptyDict, #[], _, e1, rfl, (fun e he => absurd he (by simp)), fun _ => rfl⟩
  have I1 := I.laid (a := s.heap.objs.size) (o := .own (s.heap.objs.size + 1)) (h' := s.heap.push PySem.W.emptyDict) (t' := s.toks) (fun b u q => Heap.get?_push_of_some _ q) (Nat.le_refl _) ⟨_, e1⟩
  refine I1.laid (a := s.heap.objs.size + 1) (o := .ins C s.heap.objs.size []) (t' := s.toks) (fun b u q => Heap.get?_push_of_some _ q) (Nat.le_of_eq (Heap.size_push _ _)) ?_
  have ne : s.heap.objs.size ≠ s.heap.objs.size + 1 := Nat.ne_of_lt (Nat.lt_succ_self _)
  refine ⟨by rw [upd_ne ne, upd_same], Nat.zero_le _, ne, e2, fun _ => none, (Heap.Ns1.of_empty e3).at fun o q => Heap.get?_push_of_some _ q, fun _ => True.intro, fun y hy => absurd rfl hy⟩
theorem attr_of {prog : Program} {w : World} {env : Env} {e : Expr} {f : Str} {pos : Pos} {s : Shared} {Q : Value → Shared → Prop} (hb : attributeBase e f env (eval e env) = eval e env)
    (h : wpAny (model prog w) A (eval e env) (fun o s₁ => wpAny (model prog w) A (getAttr o f true) Q E s₁) E s) : wpAny (model prog w) A (eval (.Attribute e f pos) env) Q E s :=
  Attribute_any_ h (by rw [arm_eval_Attribute, hb])
end

def tFld (K : PySem.W.Frag) (ta : TE) (f : Str) : TE := fun σ H Q => ta σ H fun x H1 => ∃ a C dx fs v, x = .ref a ∧ H1 a = some (.ins C dx fs) ∧ Cls K C ∧ NoAttr K C f ∧ fs.lookup f = some v ∧ Q v H1
def sFld (K : PySem.W.Frag) (ta tv : TE) (f : Str) : TS := fun D σ H => tv σ H fun y H1 => ta σ H1 fun x H2 => ∃ a C dx fs, x = .ref a ∧ H2 a = some (.ins C dx fs) ∧ Cls K C ∧ NoAttr K C f ∧ fs.length < 1000 ∧
  D.nx σ (upd H2 a (.ins C dx (putF f y fs)))
section
variable {X : Cx} {o e value : Expr} {f : Str} {pos pos' tpos : Pos} {ta tv : TE}
theorem pe_fld (he : PE X e ta) (hb : attributeBase e f X.env (eval e X.env) = eval e X.env) : PE X (.Attribute e f pos) (tFld X.K ta f) := by
  intro pins s σ H Q I h
  refine attr_of hb (thn (he pins s σ H _ I h) fun u s1 ⟨x, H1, I1, rx, a, C, dx, fs, v, ex, ea, c, n, l, q⟩ => ?_)
  subst ex
  obtain rfl : u = Value.ref a := rx
  exact getattr_ok I1 ea c n l fun u' s2 I2 ru => ⟨v, H1, I2, ru, q⟩
theorem ps_fld (ha : PE X o ta) (hv : PE X value tv) (hs : swapsWith value (some (.Attribute o f pos')) pos.line X.env = pure false) : PS X (.Assign [.Attribute o f pos'] value pos) (sFld X.K ta tv f) := by
  intro pins s σ H D I h
  refine plainObj_wpAny_Assign_Attribute (thn (hv pins s σ H _ I h) fun u s1 ⟨y, H1, I1, ry, q⟩ => thn (ha pins s1 σ H1 _ I1 q) fun ov s2 ⟨x, H2, I2, rx, a, C, dx, fs, ex, ea, c, n, l, q2⟩ => ?_) hs
  subst ex
  obtain rfl : ov = Value.ref a := rx
  exact setattr_ok I2 ea c n l ry fun s3 I3 => ⟨σ, _, I3, q2⟩
theorem methcall_of {pl : Sem Bool} {m : Str} {apos : Pos} {args : List Expr} {pins : List (Addr × Obj)} {s : Shared} {σ : St} {H : Hp} {Q : Value → Shared → Prop} {te : TE} (he : PE X e te) (I : Inv X pins σ H s)
    (h : te σ H fun x H1 => ∃ a C dx fs g, x = .ref a ∧ H1 a = some (.ins C dx fs) ∧ Cls X.K C ∧ Meth X.K C m g ∧ fs.lookup m = none ∧
      ∀ s1, Inv X pins σ H1 s1 → wpAny (model X.prog X.w) X.A (callWith pos (.ref g) [.ref a] (backTo pos (starEach args X.env)) (backToKw pos (keywordEach [] X.env))) Q X.xe s1)
    (ht : eval (.Call (.Attribute e m apos) args [] pos) X.env = (do
      let ov ← eval e X.env
      standAt apos.atName
      let (f, first) ← holding [ov] (getMethod ov m pl)
      callWith pos f first (backTo pos (starEach args X.env)) (backToKw pos (keywordEach [] X.env)))) :
    wpAny (model X.prog X.w) X.A (eval (.Call (.Attribute e m apos) args [] pos) X.env) Q X.xe s := by
  refine PySem.W.methodCall_KW (pl := pl) (thn (he pins s σ H _ I h) fun u s1 ⟨x, H1, I1, rx, a, C, dx, fs, g, ex, ea, c, k, l, q⟩ => ?_) ht
  subst ex
  obtain rfl : u = Value.ref a := rx
  exact getmeth_ok I1 ea c k l (q s1 I1)
end

end L2

namespace L2
open PySem PySem.Spec PyProof.Rows

structure Room (k : Nat) (A : Around) : Prop where
  hd : A.handled = none
  dp : A.depth + 1 * k + 5 < recursionLimit
  un : A.units + 8 * k + 1100 < cLine
  gd : A.guards = some []
theorem Room.mono {j k : Nat} {A : Around} (r : Room k A) (h : j ≤ k) : Room j A := ⟨r.hd, by have := r.dp; omega, by have := r.un; omega, r.gd⟩
theorem Room.deeper {k : Nat} {A : Around} (r : Room (k + 1) A) (env : Env) : Room k (A.deeper env) :=
  ⟨r.hd, by have := r.dp; show A.depth + 1 + 1 * k + 5 < _; omega, by have := r.un; show A.units + 3 + 8 * k + 1100 < _; omega, r.gd⟩
theorem make_depth {A : Around} {C : Addr} {us : List Value} {kw : List (Str × Value)} : (A.under (.builtin "type.__call__" ⟨.ref C :: us, kw⟩)).depth = A.depth + 1 := by
  first | rfl | simp [Around.under, Code.weight, Code.isCreation, Code.isGuard, Code.isCaller, Code.frames, Code.isFrame, guardIds]
theorem make_units {A : Around} {C : Addr} {us : List Value} {kw : List (Str × Value)} : (A.under (.builtin "type.__call__" ⟨.ref C :: us, kw⟩)).units = A.units + 1 := by
  first | rfl | simp [Around.under, Code.cUnits, Code.frames, Code.isFrame]
theorem Room.make {k : Nat} {A : Around} (r : Room (k + 1) A) (C : Addr) (us : List Value) (kw : List (Str × Value)) : Room k (A.under (.builtin "type.__call__" ⟨.ref C :: us, kw⟩)) :=
  ⟨r.hd, by have := r.dp; rw [make_depth]; omega, by have := r.un; rw [make_units]; omega, by first | exact r.gd | (rw [show (A.under (.builtin "type.__call__" ⟨.ref C :: us, kw⟩)).guards = A.guards from by first | rfl | simp [Around.under, Code.isGuard, guardIds]]; exact r.gd)⟩
theorem Room.depth {k : Nat} {A : Around} (r : Room k A) : A.depth < recursionLimit := by have := r.dp; omega
theorem Room.units {k : Nat} {A : Around} (r : Room k A) : A.units + 64 < cLine := by have := r.un; omega
theorem Room.units2 {k : Nat} {A : Around} (r : Room k A) : A.units + 1001 < cLine := by have := r.un; omega
def tNil : TA := fun _ H Q => Q [] H
def tCons (ta : TE) (tr : TA) : TA := fun σ H Q => ta σ H fun x H1 => tr σ H1 fun xs H2 => Q (x :: xs) H2
section
variable {X : Cx} {e : Expr} {es : List Expr} {te : TE} {t : TA} {pos : Pos}
theorem pa_nil : PA X [] tNil := fun _ _ _ _ H Q I h => Calls.spliced_nil ⟨[], H, I, .nil, h⟩
theorem pa_cons (ha : PE X e te) (hr : PA X es t) (hs : starEach (e :: es) X.env = (false, eval e X.env) :: starEach es X.env := by rfl) : PA X (e :: es) (tCons te t) := by
  intro pos pins s σ H Q I h
  rw [hs]
  show wpAny _ _ (spliced ((false, eval e X.env) :: backTo pos (starEach es X.env))) _ _ s
  refine Calls.spliced_cons (thn (ha pins s σ H _ I h) fun u s1 ⟨x, H1, I1, r1, q1⟩ => ?_)
  exact thn (hr pos pins s1 σ H1 _ I1 q1) fun us s2 ⟨xs, H2, I2, r2, q2⟩ => ⟨x :: xs, H2, I2, .cons r1 r2, q2⟩
def tTup (t : TA) : TE := fun σ H Q => t σ H fun xs H1 => xs.length ≤ sizeLine ∧ ∀ p, H1 p = none → Q (.ref p) (upd H1 p (.tup xs))
def tLst (t : TA) : TE := fun σ H Q => t σ H fun xs H1 => xs.length ≤ sizeLine ∧ ∀ p, H1 p = none → Q (.ref p) (upd H1 p (.lst xs))
theorem pe_tup {x1} (h : PA X es t) : PE X (.Tuple es x1 pos) (tTup t) := by
  intro pins s σ H Q I hq
  refine wpAny_Tuple_spliced (thn (h pos pins s σ H _ I hq) fun us s1 ⟨xs, H1, I1, r, z, q⟩ => ⟨by rw [← r.length]; exact z, ?_⟩)
  have hf : H1 s1.heap.objs.size = none := I1.hok.fresh (Nat.le_refl _)
  refine ⟨.ref s1.heap.objs.size, upd H1 s1.heap.objs.size (.tup xs), I1.laid (t' := s1.toks) (fun b u e => Heap.get?_push_of_some _ e) (Nat.le_refl _) ?_, rfl, q _ hf⟩
  exact ⟨z, us, r, ⟨⟨_, Heap.get?_push_size _ rfl, rfl, _, rfl⟩, _, Heap.get?_push_size _ rfl, rfl⟩⟩
theorem pe_lst (h : PA X es t) : PE X (.List es pos) (tLst t) := by
  intro pins s σ H Q I hq
  refine wpAny_List_spliced (thn (h pos pins s σ H _ I hq) fun us s1 ⟨xs, H1, I1, r, z, q⟩ => ⟨by rw [← r.length]; exact z, ?_⟩)
  have hf : H1 s1.heap.objs.size = none := I1.hok.fresh (Nat.le_refl _)
  refine ⟨.ref s1.heap.objs.size, upd H1 s1.heap.objs.size (.lst xs), I1.laid (t' := s1.toks) (fun b u e => Heap.get?_push_of_some _ e) (Nat.le_refl _) ?_, rfl, q _ hf⟩
  exact ⟨z, us, 0, r, Heap.get?_push_size _ rfl⟩
end

abbrev Sp := List V → Hp → VK → XK → Prop
abbrev CXT := List Env → Hp → Shared → XK → Value → Shared → Prop
structure Env0 (P : Program) (w : World) (K : PySem.W.Frag) (mg : Str → Option Value) (base : Heap) (A : Around) (outer : List Env) (s : Shared) (H : Hp) : Prop where
  frames : A.frames = some outer
  mod : Mod K mg base
  bs : ∀ b o, base.get? b = some o → s.heap.get? b = some o ∧ H b = none
  bsz : base.objs.size ≤ s.heap.objs.size
  funs : s.heap.FunFrames base outer
  frf : ∀ b ∈ frs outer, H b = none
  hok : HOk P w H s.heap
  bare : AllBare s.gens
def CE (outer : List Env) (P : Program) (w : World) (H : Hp) (s : Shared) (Q : VK) (u : Value) (s' : Shared) : Prop :=
  ∃ v H', s'.os = s.os ∧ AllBare s'.gens ∧ Un (frs outer) [] H H' s.heap s'.heap ∧ HOk P w H' s'.heap ∧ RelV v u ∧ Q v H'
def CR (CX : CXT) (outer : List Env) (P : Program) (w : World) (H : Hp) (s : Shared) (Q : VK) (E : XK) (r : Result) (s' : Shared) : Prop :=
  match r with
  | .ok (.ret u) => CE outer P w H s Q u s'
  | .ok _ => False
  | .error e => CX outer H s E e s'
structure FnOk (P : Program) (w : World) (K : PySem.W.Frag) (mg : Str → Option Value) (base : Heap) (CX : CXT) (k : Nat) (f : Addr) (fd : FuncData) (ps : List Str) (sp : Sp) : Prop where
  len : ∀ vs H Q E, sp vs H Q E → vs.length = ps.length
  run : ∀ (A : Around) (outer : List Env) (s : Shared) (H : Hp) (args : Args) (us : List Value) (vs : List V) (Q : VK) (E : XK), Room k A → Env0 P w K mg base A outer s H → BindsTo s fd args (ps.zip us) → Vals vs us → sp vs H Q E →
    codeAny (model P w) A (.call (.ref f) args) (CR CX outer P w H s Q E) s
theorem FnOk.mono {P : Program} {w : World} {K : PySem.W.Frag} {mg : Str → Option Value} {base : Heap} {CX : CXT} {j k : Nat} {f : Addr} {fd : FuncData} {ps : List Str} {sp : Sp} (F : FnOk P w K mg base CX j f fd ps sp) (h : j ≤ k) :
    FnOk P w K mg base CX k f fd ps sp := ⟨F.len, fun A outer s H args us vs Q E hr => F.run A outer s H args us vs Q E (hr.mono h)⟩
theorem FnOk.imp {P : Program} {w : World} {K : PySem.W.Frag} {mg : Str → Option Value} {base : Heap} {CX : CXT} {k : Nat} {f : Addr} {fd : FuncData} {ps : List Str} {sp sp' : Sp} (F : FnOk P w K mg base CX k f fd ps sp)
    (h : ∀ vs H Q E, sp' vs H Q E → sp vs H Q E) : FnOk P w K mg base CX k f fd ps sp' :=
  ⟨fun vs H Q E q => F.len vs H Q E (h _ _ _ _ q), fun A outer s H args us vs Q E hr he hb hv hs => F.run A outer s H args us vs Q E hr he hb hv (h _ _ _ _ hs)⟩
theorem Env0.make {P : Program} {w : World} {K : PySem.W.Frag} {mg : Str → Option Value} {base : Heap} {A : Around} {outer : List Env} {s : Shared} {H : Hp} (e : Env0 P w K mg base A outer s H) (C : Addr) (us : List Value) (kw : List (Str × Value)) :
    Env0 P w K mg base (A.under (.builtin "type.__call__" ⟨.ref C :: us, kw⟩)) outer s H := ⟨by first | exact e.frames | (simpa [Around.under, Code.envs, Code.isFrame, pushEnvs] using e.frames), e.mod, e.bs, e.bsz, e.funs, e.frf, e.hok, e.bare⟩
section
variable {X : Cx} {pins : List (Addr × Obj)} {σ : St} {H : Hp} {s s' : Shared}
theorem Inv.env0 (I : Inv X pins σ H s) : Env0 X.prog X.w X.K X.mg X.base X.A X.stack s H :=
  ⟨I.ok.frames, I.ok.mod, I.bs, Nat.le_trans I.ok.bsz I.sz, I.stack, I.stkFree, I.hok, I.bare⟩
theorem Inv.after {Q : VK} {u : Value} (I : Inv X pins σ H s) (h : CE X.stack X.prog X.w H s Q u s') : EP X pins σ Q u s' := by
  obtain ⟨v, H', os, bare, un, hok, r, q⟩ := h
  obtain ⟨hh, g, d, t, os'⟩ := s'
  obtain rfl : os' = s.os := os
  exact ⟨v, H', I.call (h' := hh) (g' := g) (d' := d) (t' := t) (ch := []) un hok bare (fun b z => absurd z (by simp)), r, q⟩
end

def tCall (sp : Sp) (dvs : List V) (E : XK) (t : TA) : TE := fun σ H Q => t σ H fun vs H1 => sp (vs ++ dvs) H1 Q E
def tMeth (C : Addr) (m : Str) (sp : Sp) (dvs : List V) (E : XK) (ta : TE) (t : TA) : TE := fun σ H Q => ta σ H fun x H1 => ∃ a dx fs, x = .ref a ∧ H1 a = some (.ins C dx fs) ∧ fs.lookup m = none ∧
  t σ H1 fun vs H2 => sp (x :: (vs ++ dvs)) H2 Q E
def tMake (C : Addr) (sp : Sp) (dvs : List V) (E : XK) (t : TA) : TE := fun σ H Q => t σ H fun vs H1 => ∀ x dx, H1 x = none → H1 dx = none → dx ≠ x →
  sp (.ref x :: (vs ++ dvs)) (upd (upd H1 dx (.own x)) x (.ins C dx [])) (fun v H2 => v = .non ∧ Q (.ref x) H2) E
def Binds (K : PySem.W.Frag) (fd : FuncData) (ps : List Str) (ds : List Value) : Prop :=
  ∀ (s : Shared) (us : List Value), K.In s.heap → (us ++ ds).length = ps.length → BindsTo s fd ⟨us, []⟩ (ps.zip (us ++ ds))
theorem Binds.all {K : PySem.W.Frag} {fd : FuncData} {ps : List Str} (h : ∀ us : List Value, us.length = ps.length → bindArgs fd ⟨us, []⟩ = pure (ps.zip us)) : Binds K fd ps [] := fun s us _ hl => by
  rw [List.append_nil] at hl ⊢
  exact .of_eq (h us hl)
def Passes (CX : CXT) (X : Cx) (E : XK) : Prop := ∀ (pins : List (Addr × Obj)) (σ : St) (H : Hp) (s : Shared) (e : Value) (s' : Shared), Inv X pins σ H s → CX X.stack H s E e s' → X.xe e s'
section
variable {X : Cx} {CX : CXT} {k : Nat} {f C : Addr} {fd : FuncData} {ps : List Str} {sp : Sp} {dvs : List V} {ds : List Value} {E : XK} {x m : Str} {p pos apos : Pos} {e o : Expr} {es : List Expr} {ta : TE} {t : TA}

theorem run_fn {pins : List (Addr × Obj)} {σ : St} {H : Hp} {s : Shared} {Q : VK} {us : List Value} {vs : List V} (F : FnOk X.prog X.w X.K X.mg X.base CX k f fd ps sp) (hr : Room k X.A) (hb : Binds X.K fd ps ds) (hd : Vals dvs ds) (hx : Passes CX X E)
    (I : Inv X pins σ H s) (r : Vals vs us) (h : sp (vs ++ dvs) H Q E) : wpAny (model X.prog X.w) X.A (call (.ref f) us) (EP X pins σ Q) X.xe s := by
  have r2 : Vals (vs ++ dvs) (us ++ ds) := r.append hd
  have hl : (us ++ ds).length = ps.length := by rw [← r2.length]; exact F.len _ _ _ _ h
  refine wpAny_call (codeAny_mono (F.run X.A X.stack s H ⟨us, []⟩ (us ++ ds) (vs ++ dvs) Q E hr I.env0 (hb s us I.kIn hl) r2 h) fun r s' hq => ?_)
  cases r with
  | error e => exact hx pins σ H s e s' I hq
  | ok fl =>
    cases fl with
    | ret u => exact I.after hq
    | next => exact False.elim hq
    | brk => exact False.elim hq
    | cont => exact False.elim hq
theorem pe_call (F : FnOk X.prog X.w X.K X.mg X.base CX k f fd ps sp) (hr : Room k X.A) (hg : Gl X x) (hm : X.mg x = some (.ref f)) (hk : PySem.W.keepIn X.K (.ref f) = true) (hb : Binds X.K fd ps ds) (hd : Vals dvs ds) (hx : Passes CX X E)
    (ha : PA X (e :: es) t) (hdb : (x == ("__debug__" : Str)) = false := by decide) (he : starEach (e :: es) X.env = (false, eval e X.env) :: starEach es X.env := by rfl) (hpl : (backTo pos (starEach es X.env)).any (·.1) = false := by rfl) :
    PE X (.Call (.Name x p) (e :: es) [] pos) (tCall sp dvs E t) := by
  intro pins s σ H Q I h
  refine wpAny_Call_Name_kw (ld_glob I hg hm ?_ hdb)
  refine PySem.W.callWith_K (h₀ := X.base) I.ok.mod.kin hk (thn (ha pos pins s σ H _ I h) fun us s1 ⟨vs, H1, I1, r, q⟩ => ⟨I1.kIn, ?_⟩) he hpl
  exact run_fn F hr hb hd hx I1 r q
theorem pe_meth {pl : Sem Bool} (he : PE X o ta) (c : Cls X.K C) (hm : Meth X.K C m f) (F : FnOk X.prog X.w X.K X.mg X.base CX k f fd ps sp) (hr : Room k X.A) (hb : Binds X.K fd ps ds) (hd : Vals dvs ds) (hx : Passes CX X E) (ha : PA X (e :: es) t)
    (hst : starEach (e :: es) X.env = (false, eval e X.env) :: starEach es X.env := by rfl) (hpl : (backTo pos (starEach es X.env)).any (·.1) = false := by rfl)
    (ht : eval (.Call (.Attribute o m apos) (e :: es) [] pos) X.env = (do
      let ov ← eval o X.env
      standAt apos.atName
      let (f, first) ← holding [ov] (getMethod ov m pl)
      callWith pos f first (backTo pos (starEach (e :: es) X.env)) (backToKw pos (keywordEach [] X.env))) := by rfl) :
    PE X (.Call (.Attribute o m apos) (e :: es) [] pos) (tMeth C m sp dvs E ta t) := by
  intro pins s σ H Q I h
  refine PySem.W.methodCall_KW (pl := pl) (thn (he pins s σ H _ I h) fun u s1 ⟨x, H1, I1, rx, a, dx, fs, ex, ea, l, q⟩ => ?_) ht
  subst ex
  obtain rfl : u = Value.ref a := rx
  refine getmeth_ok I1 ea c hm l ?_
  refine PySem.W.callWith_K (first := [.ref a]) (h₀ := X.base) I.ok.mod.kin hm.kp (thn (ha pos pins s1 σ H1 _ I1 q) fun us s2 ⟨vs, H2, I2, r, q2⟩ => ⟨I2.kIn, ?_⟩) hst hpl
  exact run_fn (us := .ref a :: us) (vs := .ref a :: vs) F hr hb hd hx I2 (.cons rfl r) q2
theorem pe_meth0 {pl : Sem Bool} (he : PE X o ta) (c : Cls X.K C) (hm : Meth X.K C m f) (F : FnOk X.prog X.w X.K X.mg X.base CX k f fd ps sp) (hr : Room k X.A) (hb : Binds X.K fd ps ds) (hd : Vals dvs ds) (hx : Passes CX X E)
    (ht : eval (.Call (.Attribute o m apos) [] [] pos) X.env = (do
      let ov ← eval o X.env
      standAt apos.atName
      let (f, first) ← holding [ov] (getMethod ov m pl)
      callWith pos f first (backTo pos (starEach [] X.env)) (backToKw pos (keywordEach [] X.env))) := by rfl) :
    PE X (.Call (.Attribute o m apos) [] [] pos) (tMeth C m sp dvs E ta tNil) := by
  intro pins s σ H Q I h
  refine PySem.W.methodCall_KW (pl := pl) (thn (he pins s σ H _ I h) fun u s1 ⟨x, H1, I1, rx, a, dx, fs, ex, ea, l, q⟩ => ?_) ht
  subst ex
  obtain rfl : u = Value.ref a := rx
  refine getmeth_ok I1 ea c hm l ?_
  exact PySem.W.callWith_K0 (first := [.ref a]) I1.kIn hm.kp (run_fn (us := [.ref a]) (vs := [.ref a]) F hr hb hd hx I1 (.cons rfl .nil) q)
structure Mk (K : PySem.W.Frag) (C f : Addr) : Prop where
  makes : PySem.W.makesIn K C = true
  init : PySem.W.findIn K (.ref C) "__init__" = some (some (.ref f))
  fn : PySem.W.isFn K (.ref f) = true
  kp : PySem.W.keepIn K (.ref C) = true
theorem run_make {pins : List (Addr × Obj)} {σ : St} {H : Hp} {s : Shared} {Q : VK} {us : List Value} {vs : List V} (M : Mk X.K C f) (F : FnOk X.prog X.w X.K X.mg X.base CX k f fd ps sp) (hr : Room (k + 1) X.A) (hb : Binds X.K fd ps ds) (hd : Vals dvs ds)
    (hx : Passes CX X E) (I : Inv X pins σ H s) (r : Vals vs us)
    (h : ∀ x dx, H x = none → H dx = none → dx ≠ x → sp (.ref x :: (vs ++ dvs)) (upd (upd H dx (.own x)) x (.ins C dx [])) (fun v H2 => v = .non ∧ Q (.ref x) H2) E) :
    wpAny (model X.prog X.w) X.A (call (.ref C) us) (EP X pins σ Q) X.xe s := by
  have hq := h (s.heap.objs.size + 1) s.heap.objs.size (I.hok.fresh (Nat.le_succ _)) (I.hok.fresh (Nat.le_refl _)) (Nat.ne_of_lt (Nat.lt_succ_self _))
  have I2 := Inv.made (C := C) I
  have r2 : Vals (V.ref (s.heap.objs.size + 1) :: (vs ++ dvs)) (Value.ref (s.heap.objs.size + 1) :: (us ++ ds)) := .cons rfl (r.append hd)
  have hl : (Value.ref (s.heap.objs.size + 1) :: us ++ ds).length = ps.length := by
    have e := r2.length
    rw [F.len _ _ _ _ hq] at e
    exact e.symm
  refine wpAny_call (make_map (f := f) I.kIn M.makes M.init (beq_iff_eq.mp M.fn) (codeAny_mono (F.run _ X.stack _ _ ⟨Value.ref (s.heap.objs.size + 1) :: us, []⟩ (Value.ref (s.heap.objs.size + 1) :: (us ++ ds)) _ _ E (hr.make C us [])
    (I2.env0.make C us []) (hb _ (Value.ref (s.heap.objs.size + 1) :: us) I2.kIn hl) r2 hq) fun r s' hq' => ?_))
  cases r with
  | error e => exact hx pins σ _ _ e s' I2 hq'
  | ok fl =>
    cases fl with
    | ret u =>
      obtain ⟨v, H', I3, rv, ev, q3⟩ := I2.after hq'
      subst ev
      exact ⟨rv, ⟨V.ref (s.heap.objs.size + 1), H', I3, rfl, q3⟩⟩
    | next => exact False.elim hq'
    | brk => exact False.elim hq'
    | cont => exact False.elim hq'
theorem pe_make (M : Mk X.K C f) (F : FnOk X.prog X.w X.K X.mg X.base CX k f fd ps sp) (hr : Room (k + 1) X.A) (hg : Gl X x) (hm : X.mg x = some (.ref C)) (hb : Binds X.K fd ps ds) (hd : Vals dvs ds) (hx : Passes CX X E)
    (ha : PA X (e :: es) t) (hdb : (x == ("__debug__" : Str)) = false := by decide) (he : starEach (e :: es) X.env = (false, eval e X.env) :: starEach es X.env := by rfl) (hpl : (backTo pos (starEach es X.env)).any (·.1) = false := by rfl) :
    PE X (.Call (.Name x p) (e :: es) [] pos) (tMake C sp dvs E t) := by
  intro pins s σ H Q I h
  refine wpAny_Call_Name_kw (ld_glob I hg hm ?_ hdb)
  refine PySem.W.callWith_K (h₀ := X.base) I.ok.mod.kin M.kp (thn (ha pos pins s σ H _ I h) fun us s1 ⟨vs, H1, I1, r, q⟩ => ⟨I1.kIn, ?_⟩) he hpl
  exact run_make M F hr hb hd hx I1 r q
end

structure FnScope (N P : List Str) (sc : Scope) : Prop where
  kind : sc.kind = .function
  co : sc.isCoroutine = false
  gen : sc.isGenerator = false
  nd : N.Nodup
  pre : N.take P.length = P
  par : ∀ x ∈ P, sc.names.lookup x = some .local ∨ sc.names.lookup x = some .cell
  nofree : ∀ y ∈ sc.names, y.2 ≠ .free
theorem bindL_out {kindOf : Str → Option NameKind} {x : Str} : ∀ {binds : List (Str × Value)} {m : Str → Option Value}, (∀ v, (x, v) ∉ binds) → bindL kindOf binds m x = m x
  | [], _, _ => rfl
  | (n, v) :: r, m, h => by
    unfold bindL
    rw [bindL_out fun w hw => h w (List.mem_cons_of_mem _ hw)]
    split
    · have : x ≠ n := by rintro rfl; exact h v List.mem_cons_self
      simp [this]
    · rfl
theorem bindC_out {kindOf : Str → Option NameKind} {x : Str} : ∀ {binds : List (Str × Value)} {m : Str → Option Value}, (∀ v, (x, v) ∉ binds) → bindC kindOf binds m x = m x
  | [], _, _ => rfl
  | (n, v) :: r, m, h => by
    unfold bindC
    rw [bindC_out fun w hw => h w (List.mem_cons_of_mem _ hw)]
    split
    · rfl
    · have : x ≠ n := by rintro rfl; exact h v List.mem_cons_self
      simp [this]
theorem bindL_get {kindOf : Str → Option NameKind} {x : Str} {v : Value} : ∀ {P : List Str} {vs : List Value} {i : Nat} {m : Str → Option Value}, P.Nodup → P[i]? = some x → vs[i]? = some v → kindOf x = some .local →
    bindL kindOf (P.zip vs) m x = some v
  | [], _, _, _, _, h, _, _ => by simp at h
  | _ :: _, [], _, _, _, _, h, _ => by simp at h
  | p :: P, w :: vs, 0, m, nd, h1, h2, hk => by
    simp at h1 h2; subst h1; subst h2
    show bindL kindOf ((p, w) :: P.zip vs) m p = _
    unfold bindL
    rw [bindL_out fun v hv => (List.nodup_cons.mp nd).1 (List.of_mem_zip hv).1, if_pos hk]
    simp
  | p :: P, w :: vs, i + 1, m, nd, h1, h2, hk => by
    show bindL kindOf ((p, w) :: P.zip vs) m x = _
    unfold bindL
    exact bindL_get (i := i) (List.nodup_cons.mp nd).2 (by simpa using h1) (by simpa using h2) hk
theorem bindC_get {kindOf : Str → Option NameKind} {x : Str} {v : Value} : ∀ {P : List Str} {vs : List Value} {i : Nat} {m : Str → Option Value}, P.Nodup → P[i]? = some x → vs[i]? = some v → kindOf x ≠ some .local →
    bindC kindOf (P.zip vs) m x = some v
  | [], _, _, _, _, h, _, _ => by simp at h
  | _ :: _, [], _, _, _, _, h, _ => by simp at h
  | p :: P, w :: vs, 0, m, nd, h1, h2, hk => by
    simp at h1 h2; subst h1; subst h2
    show bindC kindOf ((p, w) :: P.zip vs) m p = _
    unfold bindC
    rw [bindC_out fun v hv => (List.nodup_cons.mp nd).1 (List.of_mem_zip hv).1, if_neg hk]
    simp
  | p :: P, w :: vs, i + 1, m, nd, h1, h2, hk => by
    show bindC kindOf ((p, w) :: P.zip vs) m x = _
    unfold bindC
    exact bindC_get (i := i) (List.nodup_cons.mp nd).2 (by simpa using h1) (by simpa using h2) hk
def start (N : List Str) (vs : List V) : St := vs.map some ++ List.replicate (N.length - vs.length) none
def cxOf (CX : CXT) (P : Program) (w : World) (K : PySem.W.Frag) (mg : Str → Option Value) (base : Heap) (N : List Str) (qual : Str) (scope : Scope) (f : Addr) (cd : Value) (A : Around) (outer : List Env) (s : Shared) (H : Hp) (E : XK) : Cx where
  prog := P
  w := w
  K := K
  mg := mg
  base := base
  A := A.deeper (envOfC qual scope s.heap.objs.size f cd)
  N := N
  s_0 := s
  H_0 := H
  env := envOfC qual scope s.heap.objs.size f cd
  outer := outer
  stack := envOfC qual scope s.heap.objs.size f cd :: outer
  ex := []
  calm := true
  fn := fun _ => true
  pn := []
  xe := fun e s' => wpAny (model P w) (A.deeper (envOfC qual scope s.heap.objs.size f cd)) (leaving (envOfC qual scope s.heap.objs.size f cd) e) (fun _ s'' => CX outer H s E e s'') (fun e' s'' => CX outer H s E e' s'') s'
theorem cell_has {sc : Scope} {n : Nat} {x : Str} (h : sc.names.lookup x = some .cell) : ∃ c, (cellsFrom n sc.names []).lookup x = some c := by
  have q := PySem.W.cellsFrom_some sc.names n [] (.inl h)
  exact Option.isSome_iff_exists.mp q
theorem inv_start {CX : CXT} {P : Program} {w : World} {K : PySem.W.Frag} {mg : Str → Option Value} {base : Heap} {N ps : List Str} {qual : Str} {scope : Scope} {f : Addr} {cd : Value} {A : Around} {outer : List Env} {s s1 : Shared} {H : Hp} {E : XK} {us : List Value} {vs : List V}
    (S : FnScope N ps scope) (hd : A.handled = none) (e0 : Env0 P w K mg base A outer s H) (hl : vs.length = ps.length) (r : Vals vs us)
    (x : InCallC s s.heap.objs.size (bindL (envOfC qual scope s.heap.objs.size f cd).kindOf (ps.zip us) fun _ => none) (cellsFrom (s.heap.objs.size + 1) scope.names []) (bindC (envOfC qual scope s.heap.objs.size f cd).kindOf (ps.zip us) fun _ => none) s1) :
    Inv (cxOf CX P w K mg base N qual scope f cd A outer s H E) [] (start N vs) H s1 := by
  have hpl : ps.length ≤ N.length := by have := congrArg List.length S.pre; rw [List.length_take] at this; omega
  obtain ⟨h1, tk, rfl, hk⟩ := x.done
  have noA : ∀ b : Addr, b ∉ (cxOf CX P w K mg base N qual scope f cd A outer s H E).ex := fun b z => absurd (show b ∈ ([] : List Addr) from z) (by simp)
  refine ⟨⟨e0.mod, S.kind, rfl, rfl, Nat.le_refl _, fun y z c h1 h2 => ?_, fun y hy => ?_, fun y c _ h => ?_, fun _ => hd, Around.frames_deeper e0.frames, .inr ⟨rfl, rfl⟩, fun b z => absurd z (noA b), e0.bs, e0.bsz, fun b _ _ => noA b, fun b z => absurd z (noA b), e0.funs, e0.frf⟩,
    rfl, e0.bare, Un.kept hk, ⟨_, x.toInCall.ns, fun i y v h1 h2 h3 => ?_⟩, fun y c h => ⟨_, x.cell y c h⟩, e0.hok.fresh (Nat.le_refl _), fun y c h => ?_, fun p hp => absurd (show p ∈ ([] : List (Addr × Obj)) from hp) (by simp), e0.hok.kept hk, ?_⟩
  · exact name_of_addr x.apart (PySem.mem_of_lookup h1) (PySem.mem_of_lookup h2)
  · have hy : scope.names.lookup y = some .cell ∨ scope.names.lookup y = some .free := hy
    rcases hy with hy | hy
    · exact cell_has hy
    · exact absurd rfl (S.nofree _ (PySem.mem_of_lookup hy))
  · exact Nat.le_of_lt (x.above y c (PySem.mem_of_lookup h))
  · have hi : i < vs.length := by
      unfold start at h2
      by_cases hi : i < vs.length
      · exact hi
      · rw [List.getElem?_append_right (by simpa using hi)] at h2
        rw [List.getElem?_replicate] at h2
        split at h2 <;> cases h2
    have ha : vs[i]? = some v := by
      unfold start at h2
      rw [List.getElem?_append_left (by simpa using hi), List.getElem?_map] at h2
      cases e : vs[i]? with
      | none => rw [e] at h2; cases h2
      | some a => rw [e] at h2; cases h2; rfl
    obtain ⟨u, hu, rv⟩ := r.get ha
    have hp : ps[i]? = some y := by
      rw [← S.pre, List.getElem?_take_of_lt (by omega)]; exact h1
    have ndP : ps.Nodup := by rw [← S.pre]; exact S.nd.sublist (List.take_sublist _ _)
    refine ⟨u, rv, ?_⟩
    rcases S.par y (List.mem_of_getElem? hp) with k | k
    · exact .inl ⟨k, bindL_get ndP hp hu k⟩
    · obtain ⟨c, e⟩ := cell_has (n := s.heap.objs.size + 1) k
      refine .inr ⟨.inl k, c, e, ?_⟩
      have q := x.cell y c e
      rw [bindC_get ndP hp hu (by show scope.names.lookup y ≠ _; rw [k]; decide)] at q
      exact q
  · exact e0.hok.fresh (Nat.le_of_lt (x.above y c (PySem.mem_of_lookup h)))
  · unfold start
    show _ = N.length
    rw [List.length_append, List.length_map, List.length_replicate]
    omega
theorem fn_of {CX : CXT} {P : Program} {w : World} {K : PySem.W.Frag} {mg : Str → Option Value} {base : Heap} {k : Nat} {f : Addr} {name qual : Str} {params : Arguments} {body : List Stmt} {scope : Scope} {dV kV doc pm cdv ct oc : Value} {an od : Option Addr}
    {osl : Array (Option Value)} {N ps : List Str} {sp : Sp} (lk : K.lookup f = some ⟨oc, od, .func (PySem.W.fnOf name qual params body scope dV kV doc pm an cdv ct), osl⟩) (hcd : PySem.W.codeIn K cdv qual = true) (S : FnScope N ps scope)
    (len : ∀ vs H Q E, sp vs H Q E → vs.length = ps.length)
    (hbody : ∀ (A : Around) (outer : List Env) (s : Shared) (H : Hp) (vs : List V) (Q : VK) (E : XK), Room k (A.deeper (envOfC qual scope s.heap.objs.size f cdv)) → sp vs H Q E →
      ∃ t, PSs (cxOf CX P w K mg base N qual scope f cdv A outer s H E) body t ∧ t { nx := fun _ H' => Q .non H', rt := Q } (start N vs) H) :
    FnOk P w K mg base CX (k + 1) f (PySem.W.fnOf name qual params body scope dV kV doc pm an cdv ct) ps sp := by
  refine ⟨len, fun A outer s H args us vs Q E hr e0 hb r hsp => ?_⟩
  have hl := len _ _ _ _ hsp
  have KX : K.In s.heap := e0.mod.kin.keeps fun b o e => (e0.bs b o e).1
  have lim : s.heap.NoLimit := e0.mod.nolimit.keeps fun b o e => (e0.bs b o e).1
  have hkind : ∀ y ∈ ps.zip us, scope.names.lookup y.1 = some .local ∨ (scope.names.lookup y.1 = some .cell ∧ ((cellsFrom (s.heap.objs.size + 1) scope.names []).lookup y.1).isSome = true) := fun ⟨n, v⟩ hy => by
    rcases S.par n (List.of_mem_zip hy).1 with q | q
    · exact .inl q
    · exact .inr ⟨q, PySem.W.cellsFrom_some _ _ _ (.inl q)⟩
  refine codeAny_call_function hr.depth (KX _ _ lk) rfl S.co S.gen rfl (PySem.W.codeRec_of KX hcd) (hb _ _ _ _ ?_)
  refine wpAny_newFunctionEnv_cells S.kind hkind fun env he s1 x => ?_
  subst he
  refine ⟨lim.keeps x.toInCall.keep, codeAny_func ?_⟩
  obtain ⟨t, ht, hq⟩ := hbody A outer s H vs Q E (hr.deeper _) hsp
  have I : Inv (cxOf CX P w K mg base N qual scope f cdv A outer s H E) [] (start N vs) H s1 := inv_start S hr.hd e0 hl r x
  refine wpAny_mono (ht [] s1 (start N vs) H _ I hq) (fun fl s' hs => ?_) fun e s' hs => hs
  have fin : ∀ {σ' : St} {H' : Hp} {v : V} {u : Value}, Inv (cxOf CX P w K mg base N qual scope f cdv A outer s H E) [] σ' H' s' → RelV v u → Q v H' → CE outer P w H s Q u s' :=
    fun {σ' H' v u} J rv q => ⟨v, H', J.os, J.bare, J.base, J.hok, rv, q⟩
  cases fl with
  | ret u =>
    obtain ⟨v, σ', H', J, rv, q⟩ := hs
    exact fin J rv q
  | next =>
    obtain ⟨σ', H', J, q⟩ := hs
    exact fin (v := V.non) (u := Value.none) J rfl q
  | brk =>
    obtain ⟨_, _, _, q⟩ := hs
    exact False.elim q
  | cont =>
    obtain ⟨_, _, _, q⟩ := hs
    exact False.elim q
end L2

namespace L2
open PySem PySem.Spec PyProof.Rows
section
variable {X : Cx} {x : Str} {p pos : Pos} {e : Expr} {es : List Expr} {t : TA} {id T : String} {r : List V → Hp → VK → Prop}

def tCB (r : List V → Hp → VK → Prop) (t : TA) : TE := fun σ H Q => t σ H fun vs H1 => r vs H1 Q
theorem pe_callB (hc : CallR X (.builtin id) r) (hg : Gl X x) (hm : X.mg x = none) (hv : bootBuiltins x = some (.builtin id)) (ha : PA X (e :: es) t) (hn : x ≠ "__name__" := by decide) (hdb : (x == ("__debug__" : Str)) = false := by decide)
    (he : starEach (e :: es) X.env = (false, eval e X.env) :: starEach es X.env := by rfl) (hpl : (backTo pos (starEach es X.env)).any (·.1) = false := by rfl) : PE X (.Call (.Name x p) (e :: es) [] pos) (tCB r t) := by
  intro pins s σ H Q I h
  refine wpAny_Call_Name_kw (ld_blt I hg hm hv ?_ hn hdb)
  exact PyProof.Rows.callWith_builtin1 (thn (ha pos pins s σ H _ I h) fun us s1 ⟨vs, H1, I1, r1, q1⟩ => hc pins s1 σ H1 vs us Q I1 r1 q1) he hpl
theorem pe_callTy (hc : CallR X (.type T) r) (hg : Gl X x) (hm : X.mg x = none) (hv : bootBuiltins x = some (.type T)) (ha : PA X (e :: es) t) (hn : x ≠ "__name__" := by decide) (hdb : (x == ("__debug__" : Str)) = false := by decide)
    (he : starEach (e :: es) X.env = (false, eval e X.env) :: starEach es X.env := by rfl) (hpl : (backTo pos (starEach es X.env)).any (·.1) = false := by rfl) : PE X (.Call (.Name x p) (e :: es) [] pos) (tCB r t) := by
  intro pins s σ H Q I h
  refine wpAny_Call_Name_kw (ld_blt I hg hm hv ?_ hn hdb)
  exact PyProof.Rows.callWith_type1 (thn (ha pos pins s σ H _ I h) fun us s1 ⟨vs, H1, I1, r1, q1⟩ => hc pins s1 σ H1 vs us Q I1 r1 q1) he hpl
end
end L2

namespace HT
open PySem PyProof.Rows

section
variable {prog : Program} {w : World} {A : Around} {E : Value → Shared → Prop} {s : Shared}

theorem cat_tup {t b : Addr} {vs ws : List Value} {Q : Value → Shared → Prop} (ht : IsTup s.heap t vs.toArray) (hb : IsTup s.heap b ws.toArray) (hv : vs ≠ [])
    (h1 : ws = [] → Q (.ref t) s) (h2 : ws ≠ [] → Q (.ref s.heap.objs.size) { s with heap := s.heap.push { cls := .type "tuple", data := .seq (vs ++ ws).toArray } })
    (hsz : vs.length + ws.length ≤ sizeLine) : wpAny (model prog w) A (binaryOp .Add (.ref t) (.ref b)) Q E s := by
  obtain ⟨⟨cls, dd, data, sl⟩, ho, hc, n, hd⟩ := id ht
  obtain ⟨⟨cls2, dd2, data2, sl2⟩, ho2, hc2, n2, hd2⟩ := id hb
  simp only at hc hd hc2 hd2
  subst hc hd hc2 hd2
  have e : vs.toArray ++ ws.toArray = (vs ++ ws).toArray := by simp
  by_cases hw : ws = []
  · exact concat_meets ⟨_, ho, rfl⟩ ⟨_, ho2, rfl⟩ noFill_tuple_add seq_tuple_add PySem.F.slot_tuple_add PySem.F.entry_tuple_add (PySem.F.args_tuple_add_2 _ _)
      (tuple_addW1 t b vs.toArray ws.toArray n n2 dd dd2 sl sl2 (by simpa using hv) (by simp [hw])) ⟨ho, ho2, h1 hw⟩
  · refine concat_meets ⟨_, ho, rfl⟩ ⟨_, ho2, rfl⟩ noFill_tuple_add seq_tuple_add PySem.F.slot_tuple_add PySem.F.entry_tuple_add (PySem.F.args_tuple_add_2 _ _)
      (tuple_addW2 t b vs.toArray ws.toArray n n2 dd dd2 sl sl2 (by simpa using hv) (by simpa using hw) (by rw [List.size_toArray, List.size_toArray]; exact hsz)) ⟨ho, ho2, ?_⟩
    rw [e]
    exact h2 hw
def sIx (n d : Nat) : Option Int → Nat
  | none => d
  | some v => if v < 0 then (v + (n : Int)).toNat else min v.toNat n
theorem sIx_nat (n d k : Nat) : sIx n d (some (k : Int)) = min k n := by
  show (if (k : Int) < 0 then ((k : Int) + (n : Int)).toNat else min (k : Int).toNat n) = min k n
  rw [if_neg (by omega), Int.toNat_natCast]
theorem sIx_le (n d : Nat) (hd : d ≤ n) (o : Option Int) : sIx n d o ≤ n := by
  cases o with
  | none => exact hd
  | some v =>
    show (if v < 0 then (v + (n : Int)).toNat else min v.toNat n) ≤ n
    by_cases hv : v < 0
    · rw [if_pos hv]; omega
    · rw [if_neg hv]; exact Nat.min_le_right _ _
theorem clip_eq (v : Int) (n d : Nat) : (if v < 0 then max (v + (n : Int)) 0 else min v (n : Int)) = ((sIx n d (some v) : Nat) : Int) := by
  show (if v < 0 then max (v + (n : Int)) 0 else min v (n : Int)) = (((if v < 0 then (v + (n : Int)).toNat else min v.toNat n) : Nat) : Int)
  by_cases hv : v < 0
  · simp only [if_pos hv]; omega
  · simp only [if_neg hv]; omega
theorem adjust_gen (lo hi : Option Int) (n : Nat) : Builtin.Slice.sliceAdjust lo hi 1 (n : Int) = (((sIx n 0 lo : Nat) : Int), ((sIx n n hi : Nat) : Int)) := by
  have h1 : ¬ ((1 : Int) < 0) := by omega
  unfold Builtin.Slice.sliceAdjust
  simp only [h1, if_false]
  refine Prod.ext ?_ ?_
  · cases lo with
    | none => rfl
    | some v => exact clip_eq v n 0
  · cases hi with
    | none => rfl
    | some v => exact clip_eq v n n
theorem places_gen (i j : Nat) : Builtin.Slice.slicePlaces (i : Int) (j : Int) 1 = j - i := by
  unfold Builtin.Slice.slicePlaces
  have h1 : (1 : Int) > 0 := by omega
  simp only [h1, if_true, Int.ediv_one]
  split <;> omega
theorem slicePart_ {v : Value} {o : Option Int} {Q : Option Int → Shared → Prop} (p : IsPart v o) (h : Q o s) : wpAny (model prog w) A (Builtin.Slice.slicePartIndex v) Q E s := by
  cases p with
  | none => exact slicePart_none h
  | int i t => exact slicePart_int h
theorem sliceApplied_gen {sl : Addr} {vl vu : Value} {lo hi : Option Int} {n : Nat} {Q : Int × Int × Nat → Shared → Prop} (hs : s.heap.IsSliceOf sl vl vu .none) (pl : IsPart vl lo) (pu : IsPart vu hi)
    (h : Q (((sIx n 0 lo : Nat) : Int), 1, sIx n n hi - sIx n 0 lo) s) : wpAny (model prog w) A (Builtin.Slice.sliceApplied (.ref sl) (pure (n : Int))) Q E s := by
  obtain ⟨os, hos, hcs, hds⟩ := id hs
  unfold Builtin.Slice.sliceApplied Builtin.Slice.sliceFields
  refine wpAny_bind (wpAny_bind (wpAny_field hos hds (x := vl) rfl (wpAny_bind (wpAny_field hos hds (x := vu) rfl (wpAny_bind (wpAny_field hos hds (x := .none) rfl (wpAny_pure ?_)))))))
  refine wpAny_bind (slicePart_none ?_)
  show wpAny _ _ (if ((1 : Int) == 0) = true then _ else _) _ _ s
  rw [if_neg (by decide)]
  refine wpAny_bind (slicePart_ pl (wpAny_bind (slicePart_ pu (wpAny_bind (wpAny_pure ?_)))))
  show wpAny _ _ (match Builtin.Slice.sliceAdjust lo hi 1 (n : Int) with | (lo, hi) => pure (lo, (1 : Int), Builtin.Slice.slicePlaces lo hi 1)) _ _ s
  rw [adjust_gen lo hi n]
  show wpAny _ _ (pure (((sIx n 0 lo : Nat) : Int), (1 : Int), Builtin.Slice.slicePlaces ((sIx n 0 lo : Nat) : Int) ((sIx n n hi : Nat) : Int) 1)) _ _ s
  rw [places_gen]
  exact wpAny_pure h
theorem pick_gen (xs : Array Value) (i k : Nat) : ((List.range k).filterMap fun (m : Nat) => xs[((i : Int) + (m : Int) * 1).toNat]?).toArray = ((xs.toList.drop i).take k).toArray := by
  have e : (fun (m : Nat) => xs[((i : Int) + (m : Int) * 1).toNat]?) = fun m => xs[i + m]? := by
    funext m
    have : ((i : Int) + (m : Int) * 1).toNat = i + m := by omega
    rw [this]
  rw [e]
  have := pick_run xs i k
  rw [List.filterMap_map] at this
  have e2 : ((fun x => xs[x]?) ∘ fun x => i + x) = fun m => xs[i + m]? := rfl
  rw [e2] at this
  rw [this]
theorem getItem_tuple_cut {t sl : Addr} {items : Array Value} {vl vu : Value} {lo hi : Option Int} {Q : Value → Shared → Prop} (ht : IsTup s.heap t items) (hs : s.heap.IsSliceOf sl vl vu .none) (pl : IsPart vl lo) (pu : IsPart vu hi)
    (hw : ¬ (sIx items.size 0 lo = 0 ∧ sIx items.size items.size hi = items.size))
    (h : Q (.ref s.heap.objs.size) { s with heap := s.heap.push { cls := .type "tuple", data := .seq ((items.toList.drop (sIx items.size 0 lo)).take (sIx items.size items.size hi - sIx items.size 0 lo)).toArray } })
    (hsz : items.size ≤ sizeLine) : wpAny (model prog w) A (getItem (.ref t) (.ref sl)) Q E s := by
  have htake : sizeOk (.seq ((items.toList.drop (sIx items.size 0 lo)).take (sIx items.size items.size hi - sIx items.size 0 lo)).toArray) := by
    show ((items.toList.drop (sIx items.size 0 lo)).take (sIx items.size items.size hi - sIx items.size 0 lo)).toArray.size ≤ sizeLine
    rw [List.size_toArray, List.length_take, List.length_drop, Array.length_toList]
    omega
  have hj : sIx items.size items.size hi ≤ items.size := sIx_le _ _ (Nat.le_refl _) hi
  obtain ⟨os, hos, hcs, hds⟩ := id hs
  have hTs : s.TypeIs (.ref sl) "slice" := ⟨os, hos, hcs⟩
  unfold getItem
  try with_reducible refine wpAny_holding ?_
  first | refine wpAny_bind (wpAny_pure ?_) | skip
  refine wpAny_bind (wpAny_sequenceKey ht.typeIs (by decide) ?_)
  refine wpAny_bind (wpAny_callSpecial?_slot (name := Str.ofString "__getitem__") ht.typeIs PyProof.Rows.slot_tuple_getitem
    (wpAny_call_entry PyProof.Rows.slot_tuple_getitem ht.typeIs entry_tuple_getitem ?_ (args_tuple_getitem _ _)))
  show wpAny _ _ (Builtin.Tuple.tupleItemsOf (.ref t) >>= _) _ _ s
  refine wpAny_bind (tupleItemsOf_ ht ?_)
  refine wpAny_bind (wpAny_typeOf hTs ?_)
  rw [if_pos (by decide)]
  refine wpAny_bind (sliceApplied_gen hs pl pu ?_)
  have hno : ¬ ((((sIx items.size 0 lo : Nat) : Int) == 0 && (1 : Int) == 1 && (sIx items.size items.size hi - sIx items.size 0 lo) == items.size) = true) := by
    intro q
    rw [Bool.and_eq_true, Bool.and_eq_true] at q
    have q1 : ((sIx items.size 0 lo : Nat) : Int) = 0 := eq_of_beq q.1.1
    have q2 : sIx items.size items.size hi - sIx items.size 0 lo = items.size := eq_of_beq q.2
    exact hw ⟨by omega, by omega⟩
  show wpAny _ _ (if (((sIx items.size 0 lo : Nat) : Int) == 0 && (1 : Int) == 1 && (sIx items.size items.size hi - sIx items.size 0 lo) == items.size) = true then _ else _) _ _ s
  rw [if_neg hno, pick_gen]
  first
    | exact wpAny_bind (m := Builtin.Tuple.tupleExact _) (wpAny_newObj_type (wpAny_pure ⟨_, rfl, wpAny_pure h⟩) htake)
    | exact wpAny_bind (m := Builtin.Tuple.tupleExact _) (wpAny_newObj_type (wpAny_bind (wpAny_pure (wpAny_pure ⟨_, rfl, wpAny_pure h⟩))) htake)
    | exact wpAny_bind (wpAny_bind (m := Builtin.Tuple.tupleExact _) (wpAny_newObj_type (wpAny_pure (wpAny_pure ⟨_, rfl, wpAny_pure h⟩)) htake))
    | exact wpAny_bind (wpAny_bind (m := Builtin.Tuple.tupleExact _) (wpAny_newObj_type (wpAny_pure ⟨_, rfl, wpAny_pure h⟩) htake))
end
end HT

namespace L2
open PySem PySem.Spec PyProof.Rows

abbrev TO := St → Hp → (Option Int → Hp → Prop) → Prop
def PO (X : Cx) (e : Option Expr) (t : TO) : Prop :=
  ∀ (pins : List (Addr × Obj)) (s : Shared) (σ : St) (H : Hp) (Q : Option Int → Hp → Prop), Inv X pins σ H s → t σ H Q →
    wpAny (model X.prog X.w) X.A (evalPart e X.env) (fun u s' => ∃ o H', Inv X pins σ H' s' ∧ IsPart u o ∧ Q o H') X.xe s
def tNoPart : TO := fun _ H Q => Q none H
def tPart (t : TE) : TO := fun σ H Q => t σ H fun x H1 => ∃ i, x = .int i ∧ Q (some i) H1
section
variable {X : Cx} {e : Expr} {te : TE} {lo hi : Option Expr} {tl th : TO} {pos p2 : Pos}

theorem po_none : PO X none tNoPart := by
  intro pins s σ H Q I h
  rw [evalPart_none]
  exact wpAny_pure ⟨none, H, I, .none, h⟩
theorem po_some (h : PE X e te) : PO X (some e) (tPart te) := by
  intro pins s σ H Q I hw
  rw [evalPart_some]
  refine thn (h pins s σ H _ I hw) fun u s1 ⟨x, H1, I1, r1, q1⟩ => ?_
  obtain ⟨i, rfl, q⟩ := q1
  obtain ⟨t, rfl⟩ := r1
  exact ⟨some i, H1, I1, .int i t, q⟩
def SlR (X : Cx) (r : V → Option Int → Option Int → Hp → VK → Prop) : Prop :=
  ∀ (pins : List (Addr × Obj)) (s : Shared) (σ : St) (H : Hp) (x : V) (v vl vu : Value) (lo hi : Option Int) (sl : Addr) (Q : VK), Inv X pins σ H s → RelV x v → s.heap.IsSliceOf sl vl vu .none → IsPart vl lo → IsPart vu hi → r x lo hi H Q →
    ∃ T id, typeLookup (.type T) "__getitem__" = pure (some (.builtin id)) ∧ s.TypeIs v T ∧ wpAny (model X.prog X.w) X.A (getItem v (.ref sl)) (EP X pins σ Q) X.xe s
def tSl (r : V → Option Int → Option Int → Hp → VK → Prop) (te : TE) (tl th : TO) : TE := fun σ H Q => te σ H fun x H1 => tl σ H1 fun l H2 => th σ H2 fun u H3 => r x l u H3 Q
theorem pe_slice {r : V → Option Int → Option Int → Hp → VK → Prop} (hr : SlR X r) (he : PE X e te) (hl : PO X lo tl) (hu : PO X hi th) : PE X (.Subscript e (.Slice lo hi none p2) pos) (tSl r te tl th) := by
  intro pins s σ H Q I h
  refine Subscript_ (thn (he pins s σ H _ I h) fun v s1 ⟨x, H1, I1, r1, q1⟩ => ?_)
  refine wpAny_Slice (thn (hl pins s1 σ H1 _ I1 q1) fun vl s2 ⟨l, H2, I2, pl, q2⟩ => thn (hu pins s2 σ H2 _ I2 q2) fun vu s3 ⟨u, H3, I3, pu, q3⟩ => ?_)
  rw [evalPart_none]
  refine wpAny_pure ?_
  have I4 : Inv X pins σ H3 { s3 with heap := s3.heap.push { cls := .type "slice", data := .fields #[vl, vu, .none] } } := I3.kept (t' := s3.toks) fun b ob q => Heap.get?_push_of_some _ q
  obtain ⟨T, id, hT, ht, hg⟩ := hr pins { s3 with heap := s3.heap.push { cls := .type "slice", data := .fields #[vl, vu, .none] } } σ H3 x v vl vu l u s3.heap.objs.size Q I4 r1 (Heap.IsSliceOf.new ..) pl pu q3
  show wpAny (model X.prog X.w) X.A (subscriptTail e (.Slice lo hi none p2) v (.ref s3.heap.objs.size)) (EP X pins σ Q) X.xe { s3 with heap := s3.heap.push { cls := .type "slice", data := .fields #[vl, vu, .none] } }
  exact tail_any (ops := [.ref s3.heap.objs.size, v]) ht hT hg (by with_unfolding_all rfl)
def cutV (xs : List V) (lo hi : Option Int) : List V := (xs.drop (HT.sIx xs.length 0 lo)).take (HT.sIx xs.length xs.length hi - HT.sIx xs.length 0 lo)
theorem cutV_length (xs : List V) (lo hi : Option Int) : (cutV xs lo hi).length ≤ xs.length := by
  unfold cutV
  rw [List.length_take, List.length_drop]
  omega
def rSlT (K : PySem.W.Frag) : V → Option Int → Option Int → Hp → VK → Prop := fun x lo hi H Q => ∃ a xs, x = .ref a ∧ SqT K H a xs ∧
  ¬ (HT.sIx xs.length 0 lo = 0 ∧ HT.sIx xs.length xs.length hi = xs.length) ∧ ∀ p, H p = none → Q (.ref p) (upd H p (.tup (cutV xs lo hi)))
theorem sl_tup : SlR X (rSlT X.K) := by
  intro pins s σ H x v vl vu lo hi sl Q I rx hs pl pu h
  obtain ⟨a, xs, rfl, hx, hw, q⟩ := h
  cases rx
  obtain ⟨its, r, ht, hz⟩ := I.tuple hx
  have hlen : its.toArray.size = xs.length := by rw [List.size_toArray]; exact r.length.symm
  refine ⟨"tuple", _, PyProof.Rows.slot_tuple_getitem.lookup, ht.typeIs, ?_⟩
  refine HT.getItem_tuple_cut ht hs pl pu (by rw [hlen]; exact hw) ?_ (by rw [hlen]; exact hz)
  rw [hlen]
  refine ⟨.ref s.heap.objs.size, _, I.laid (t' := s.toks) (o := .tup (cutV xs lo hi)) (fun b ob q => Heap.get?_push_of_some _ q) (Nat.le_refl _) ?_, rfl, q _ (I.hok.fresh (Nat.le_refl _))⟩
  exact ⟨Nat.le_trans (cutV_length xs lo hi) hz, _, (r.drop (HT.sIx xs.length 0 lo)).take (HT.sIx xs.length xs.length hi - HT.sIx xs.length 0 lo), ⟨IsTup.new _ _, _, Heap.get?_push_size _ rfl, rfl⟩⟩
def rCatT (K : PySem.W.Frag) : R2 := fun x y H Q => ∃ a b xs ys, x = .ref a ∧ y = .ref b ∧ SqT K H a xs ∧ SqT K H b ys ∧ xs ≠ [] ∧ xs.length + ys.length ≤ sizeLine ∧
  (ys = [] → Q (.ref a) H) ∧ (ys ≠ [] → ∀ p, H p = none → Q (.ref p) (upd H p (.tup (xs ++ ys))))
theorem Vals.nil_iff {xs : List V} {us : List Value} (r : Vals xs us) : us = [] ↔ xs = [] := by
  cases r with
  | nil => simp
  | cons _ _ => simp
theorem op_catT : OpR X (binaryOp .Add) (rCatT X.K) := by
  intro pins s σ H x y v u Q I rx ry h
  obtain ⟨a, b, xs, ys, rfl, rfl, ha, hb, hx, hz, q1, q2⟩ := h
  cases rx
  cases ry
  obtain ⟨its, r1, p1, _⟩ := I.tuple ha
  obtain ⟨its2, r2, p2, _⟩ := I.tuple hb
  refine HT.cat_tup p1 p2 (fun z => hx (r1.nil_iff.mp z)) (fun z => ⟨.ref a, H, I, rfl, q1 (r2.nil_iff.mp z)⟩) (fun z => ?_) (by rw [← r1.length, ← r2.length]; exact hz)
  refine ⟨.ref s.heap.objs.size, _, I.laid (t' := s.toks) (o := .tup (xs ++ ys)) (fun b ob q => Heap.get?_push_of_some _ q) (Nat.le_refl _) ?_, rfl, q2 (fun w => z (r2.nil_iff.mpr w)) _ (I.hok.fresh (Nat.le_refl _))⟩
  exact ⟨by rw [List.length_append]; exact hz, _, r1.append r2, ⟨IsTup.new _ _, _, Heap.get?_push_size _ rfl, rfl⟩⟩
end
end L2

namespace L2
open PySem PySem.Spec PyProof.Rows

def ixN (n : Nat) (i : Int) : Option Nat := if 0 ≤ i then (if i < n then some i.toNat else none) else if -(n : Int) ≤ i then some (i + n).toNat else none
def atI {α : Type} (xs : List α) (i : Int) : Option α := (ixN xs.length i).bind fun j => xs[j]?
theorem ixN_seq {n : Nat} {i : Int} {j : Nat} (h : ixN n i = some j) : seqIndex? i n = some j ∧ j < n ∧ -(n : Int) ≤ i ∧ i < n := by
  unfold ixN at h
  by_cases h0 : 0 ≤ i
  · rw [if_pos h0] at h
    by_cases h1 : i < n
    · rw [if_pos h1] at h
      have e : i.toNat = j := Option.some.inj h
      exact ⟨by rw [seqIndex_of h0 h1, e], by omega, by omega, h1⟩
    · rw [if_neg h1] at h; cases h
  · rw [if_neg h0] at h
    by_cases h1 : -(n : Int) ≤ i
    · rw [if_pos h1] at h
      have e : (i + n).toNat = j := Option.some.inj h
      exact ⟨by rw [seqIndex_neg (by omega) h1, e], by omega, h1, by omega⟩
    · rw [if_neg h1] at h; cases h
theorem atI_get {α : Type} {xs : List α} {i : Int} {v : α} (h : atI xs i = some v) : ∃ j, seqIndex? i xs.length = some j ∧ xs[j]? = some v ∧ j < xs.length ∧ -(xs.length : Int) ≤ i ∧ i < xs.length := by
  unfold atI at h
  cases e : ixN xs.length i with
  | none => rw [e] at h; cases h
  | some j =>
    rw [e] at h
    obtain ⟨h1, h2, h3, h4⟩ := ixN_seq e
    exact ⟨j, h1, h, h2, h3, h4⟩
theorem atI_nat {α : Type} {xs : List α} {j : Nat} {v : α} (h : xs[j]? = some v) : atI xs (j : Int) = some v := by
  have hj : j < xs.length := (List.getElem?_eq_some_iff.mp h).1
  have e : ixN xs.length (j : Int) = some j := by
    unfold ixN
    rw [if_pos (by omega), if_pos (by omega)]; simp
  unfold atI; rw [e]; exact h
def PlainIx (b : Expr) : Prop := ∀ o i, subscripted b false o i = operate [o, i] (getItem o i)
def IxR (X : Cx) (r : R2) : Prop :=
  ∀ (value slice : Expr) (pins : List (Addr × Obj)) (s : Shared) (σ : St) (H : Hp) (x y : V) (v u : Value) (Q : VK), Inv X pins σ H s → RelV x v → RelV y u → r x y H Q →
    subscripted slice false v u = operate [v, u] (getItem v u) → wpAny (model X.prog X.w) X.A (subscriptTail value slice v u) (EP X pins σ Q) X.xe s
def MtR (X : Cx) (id : String) (r : V → List V → Hp → VK → Prop) : Prop :=
  ∀ (pins : List (Addr × Obj)) (s : Shared) (σ : St) (H : Hp) (x : V) (xs : List V) (v : Value) (us : List Value) (Q : VK), Inv X pins σ H s → RelV x v → Vals xs us → r x xs H Q →
    wpAny (model X.prog X.w) X.A (call (.builtin id) (v :: us)) (EP X pins σ Q) X.xe s
section
variable {X : Cx} {a b : Expr} {ta tb : TE} {pos : Pos}
theorem pe_ix {r : R2} (hr : IxR X r) (ha : PE X a ta) (hb : PE X b tb) (hs : PlainIx b) : PE X (.Subscript a b pos) (tOp r ta tb) := by
  intro pins s σ H Q I h
  exact Subscript_ (binT ha hb I h fun v u s2 x y H2 I2 rx ry q => hr a b pins s2 σ H2 x y v u Q I2 rx ry q (hs _ _))
def rIxL (K : PySem.W.Frag) : R2 := fun x y H Q => ∃ p xs i v, x = .ref p ∧ y = .int i ∧ SqL K H p xs ∧ atI xs i = some v ∧ Q v H
def rIxT (K : PySem.W.Frag) : R2 := fun x y H Q => ∃ p xs i v, x = .ref p ∧ y = .int i ∧ SqT K H p xs ∧ atI xs i = some v ∧ Q v H
def rIxS : R2 := fun x y H Q => ∃ z i c, x = .str z ∧ y = .int i ∧ z.length ≤ sizeLine ∧ atI z.cps.toList i = some c ∧ Q (.str ⟨#[c]⟩) H
theorem ix_list : IxR X (rIxL X.K) := by
  intro value slice pins s σ H x y v u Q I rx ry h hs
  obtain ⟨p, xs, i, z, rfl, rfl, hq, he, q⟩ := h
  cases rx
  obtain ⟨t, rfl⟩ := ry
  obtain ⟨its, r, pl, hz⟩ := I.list hq
  obtain ⟨j, h1, h2, h3, h4, h5⟩ := atI_get he
  obtain ⟨w, ew, rw'⟩ := r.get h2
  have hl := r.length
  have hn := line63
  have fin : EP X pins σ Q w s := ⟨z, H, I, rw', q⟩
  by_cases h0 : 0 ≤ i
  · have hj : i.toNat = j := by
      rw [seqIndex_of h0 h5] at h1
      exact Option.some.inj h1
    exact item_listR pl.isList h0 (by omega) (by rw [hj]; simpa using ew) fin hs
  · have hj : (i + (its.toArray.size : Int)).toNat = j := by
      rw [seqIndex_neg (by omega) h4] at h1
      rw [List.size_toArray, ← hl]
      exact Option.some.inj h1
    exact subscriptTail_builtinR (x := w) pl.isList.typeIs slot_list_getitem.lookup
      (wpAny_getItem_list_neg (Q := fun r s' => r = w ∧ EP X pins σ Q r s') pl.isList (by omega) (by rw [List.size_toArray] <;> omega) (by omega) (by rw [hj]; simpa using ew) ⟨rfl, fin⟩) hs
theorem ix_tup : IxR X (rIxT X.K) := by
  intro value slice pins s σ H x y v u Q I rx ry h hs
  obtain ⟨p, xs, i, z, rfl, rfl, hq, he, q⟩ := h
  cases rx
  obtain ⟨t, rfl⟩ := ry
  obtain ⟨its, r, pl, hz⟩ := I.tuple hq
  obtain ⟨j, h1, h2, h3, h4, h5⟩ := atI_get he
  obtain ⟨w, ew, rw'⟩ := r.get h2
  have hl := r.length
  have hn := line63
  have fin : EP X pins σ Q w s := ⟨z, H, I, rw', q⟩
  exact subscriptTail_builtinR (x := w) pl.typeIs slot_tuple_getitem.lookup
    (getItem_tuple (j := j) (Q := fun r s' => r = w ∧ EP X pins σ Q r s') pl (by omega) (by omega) (by rw [List.size_toArray, ← hl]; exact h1) (by simpa using ew) ⟨rfl, fin⟩) hs
theorem ix_str : IxR X rIxS := by
  intro value slice pins s σ H x y v u Q I rx ry h hs
  obtain ⟨z, i, c, rfl, rfl, hz, he, q⟩ := h
  obtain ⟨t, rfl⟩ := rx
  obtain ⟨t', rfl⟩ := ry
  obtain ⟨j, h1, h2, h3, h4, h5⟩ := atI_get he
  have hl : z.cps.toList.length = z.length := by simp [Str.length]
  rw [hl] at h1 h4 h5
  have hn := line63
  exact tail_any (typeIs_str s z t) slot_str_getitem.lookup (getItem_str (c := c) (by
    have e1 : decide (i < -(2 ^ 63 : Int)) = false := decide_eq_false (by omega)
    have e2 : decide (i ≥ 2 ^ 63) = false := decide_eq_false (by omega)
    rw [e1, e2, Bool.or_false]) (by rw [h1]; simpa using h2) ⟨.str ⟨#[c]⟩, H, I.tok _, ⟨_, rfl⟩, q⟩) hs
theorem mapSeq_set (its : List Value) (n j : Nat) (u : Value) : Obj.mapSeq (·.setIfInBounds j u) { cls := .type "list", data := .seq its.toArray n } = { cls := .type "list", data := .seq (its.set j u).toArray n } := by
  simp [Obj.mapSeq]
theorem Inv.lst {pins : List (Addr × Obj)} {σ : St} {H : Hp} {s : Shared} {p : Addr} {xs : List V} (I : Inv X pins σ H s) (h : H p = some (.lst xs)) :
    ∃ (its : List Value) (n : Nat), Vals xs its ∧ s.heap.get? p = some { cls := .type "list", data := .seq its.toArray n } ∧ xs.length ≤ sizeLine := by
  obtain ⟨z, its, n, r, e⟩ := I.hok p _ h
  exact ⟨its, n, r, e, z⟩
theorem Inv.lstUpd {pins : List (Addr × Obj)} {σ : St} {H : Hp} {s : Shared} {p : Addr} {xs ys : List V} {its its' : List Value} {n n' : Nat} {f : Obj → Obj} (I : Inv X pins σ H s) (h : H p = some (.lst xs))
    (ho : s.heap.get? p = some { cls := .type "list", data := .seq its.toArray n }) (hf : f { cls := .type "list", data := .seq its.toArray n } = { cls := .type "list", data := .seq its'.toArray n' }) (r : Vals ys its') (hz : ys.length ≤ sizeLine) (t : Nat) :
    Inv X pins σ (upd H p (.lst ys)) { s with heap := s.heap.update p f, toks := t } := by
  have e : (s.heap.update p f).get? p = some { cls := .type "list", data := .seq its'.toArray n' } := by
    rw [Heap.get?_update_self f ho (by rw [hf] <;> rfl), hf]
  refine I.write (x := p) (e := p) (by rw [h]; trivial) (.inl rfl) (fun b u hb q => (Heap.get?_update_other _ _ (Ne.symm hb)).trans q) ⟨_, e⟩ ?_
  exact ⟨hz, its', n', r, e⟩
def rSetL : V → V → V → Hp → (Hp → Prop) → Prop := fun o i v H Q => ∃ p xs k j, o = .ref p ∧ i = .int k ∧ H p = some (.lst xs) ∧ ixN xs.length k = some j ∧ Q (upd H p (.lst (xs.set j v)))
theorem set_list : PSet X rSetL := by
  intro pins s σ H o i v ov iv u Q I ro ri rv h
  obtain ⟨p, xs, k, j, rfl, rfl, hp, hj, q⟩ := h
  cases ro
  obtain ⟨t, rfl⟩ := ri
  obtain ⟨its, n, r, ho, hz⟩ := I.lst hp
  obtain ⟨h1, h2, h3, h4⟩ := ixN_seq hj
  have hl := r.length
  have hn := line63
  have I' : Inv X pins σ (upd H p (.lst (xs.set j v))) { s with heap := s.heap.update p (Obj.mapSeq (·.setIfInBounds j u)) } :=
    I.lstUpd hp ho (mapSeq_set its n j u) (r.set rv j) (by rw [List.length_set]; exact hz) s.toks
  by_cases h0 : 0 ≤ k
  · have hk : k.toNat = j := by
      rw [seqIndex_of h0 h4] at h1
      exact Option.some.inj h1
    exact PySem.W.ki_setAt ho h0 (by omega) (by rw [List.size_toArray, ← hl]; exact h4) (by rw [hk]; exact ⟨_, I', q⟩)
  · have hk : (k + (its.toArray.size : Int)).toNat = j := by
      rw [seqIndex_neg (by omega) h3] at h1
      rw [List.size_toArray, ← hl]
      exact Option.some.inj h1
    exact PySem.W.ki_setBack ho (by omega) (by rw [List.size_toArray, ← hl]; exact h3) (by omega) (by rw [hk]; exact ⟨_, I', q⟩)
theorem slice_bounds (lo hi : Option Int) (n : Nat) : (sliceBounds lo hi none n).1 = ((HT.sIx n 0 lo : Nat) : Int) ∧ (sliceBounds lo hi none n).2.1 = ((HT.sIx n n hi : Nat) : Int) ∧ (sliceBounds lo hi none n).2.2 = 1 := by
  refine ⟨?_, ?_, rfl⟩
  · cases lo with
    | none => simp [sliceBounds, HT.sIx]
    | some i =>
      simp only [sliceBounds, HT.sIx, Option.getD_none, show (1 : Int) > 0 by decide, if_true]
      by_cases h : i < 0
      · simp only [h, if_true] <;> omega
      · simp only [h, if_false] <;> omega
  · cases hi with
    | none => simp [sliceBounds, HT.sIx]
    | some i =>
      simp only [sliceBounds, HT.sIx, Option.getD_none, show (1 : Int) > 0 by decide, if_true]
      by_cases h : i < 0
      · simp only [h, if_true] <;> omega
      · simp only [h, if_false] <;> omega
theorem slicePick_cut (its : List Value) (lo hi : Option Int) : slicePick its.toArray lo hi none = ((its.drop (HT.sIx its.length 0 lo)).take (HT.sIx its.length its.length hi - HT.sIx its.length 0 lo)).toArray := by
  obtain ⟨h1, h2, h3⟩ := slice_bounds lo hi its.toArray.size
  unfold slicePick
  rw [h1, h2, h3]
  simp only [sliceRange_one, pick_run, List.size_toArray] <;> rfl
def rSlL (K : PySem.W.Frag) : V → Option Int → Option Int → Hp → VK → Prop := fun x lo hi H Q => ∃ a xs, x = .ref a ∧ SqL K H a xs ∧ ∀ p, H p = none → Q (.ref p) (upd H p (.lst (cutV xs lo hi)))
theorem sl_list : SlR X (rSlL X.K) := by
  intro pins s σ H x v vl vu lo hi sl Q I rx hs pl pu h
  obtain ⟨a, xs, rfl, hx, q⟩ := h
  cases rx
  obtain ⟨its, r, ht, hz⟩ := I.list hx
  have hlen := r.length
  refine ⟨"list", _, slot_list_getitem.lookup, ht.isList.typeIs, ?_⟩
  refine wpAny_getItem_list_slice ht.isList hs pl pu .none (by simp) ?_ (by rw [List.size_toArray] <;> omega)
  rw [slicePick_cut, ← hlen]
  refine ⟨.ref s.heap.objs.size, _, I.laid (t' := s.toks) (o := .lst (cutV xs lo hi)) (fun b ob q => Heap.get?_push_of_some _ q) (Nat.le_refl _) ?_, rfl, q _ (I.hok.fresh (Nat.le_refl _))⟩
  exact ⟨Nat.le_trans (cutV_length xs lo hi) hz, _, 0, (r.drop (HT.sIx xs.length 0 lo)).take (HT.sIx xs.length xs.length hi - HT.sIx xs.length 0 lo), Heap.get?_push_size _ rfl⟩
def flatV : V → Bool
  | .non => true
  | .bl _ => true
  | .int _ => true
  | .str _ => true
  | _ => false
def eqV : V → V → Bool
  | .non, .non => true
  | .bl a, .bl b => a == b
  | .bl a, .int b => (if a then 1 else 0) == b
  | .int a, .bl b => a == (if b then 1 else 0)
  | .int a, .int b => a == b
  | .str a, .str b => a == b
  | _, _ => false
theorem eqAt_V {A : Around} {s : Shared} {y x : V} {u v : Value} (ry : RelV y u) (rx : RelV x v) (fy : flatV y = true) (fx : flatV x = true) : SeqAt.EqAt A s u v (eqV y x) := by
  cases y with
  | non =>
    cases ry
    cases x with
    | non => cases rx; exact SeqAt.EqAt.same _
    | bl b => cases rx; exact SeqAt.EqAt.none_bool b
    | int b => obtain ⟨t, rfl⟩ := rx; exact SeqAt.EqAt.none_int b t
    | str b => obtain ⟨t, rfl⟩ := rx; exact SeqAt.EqAt.none_str b t
    | _ => exact absurd (show false = true from fx) Bool.false_ne_true
  | bl a =>
    cases ry
    cases x with
    | non => cases rx; exact SeqAt.EqAt.bool_none a
    | bl b => cases rx; exact SeqAt.EqAt.bool_bool a b
    | int b => obtain ⟨t, rfl⟩ := rx; exact SeqAt.EqAt.bool_int a b t
    | str b => obtain ⟨t, rfl⟩ := rx; exact SeqAt.EqAt.bool_str a b t
    | _ => exact absurd (show false = true from fx) Bool.false_ne_true
  | int a =>
    obtain ⟨t', rfl⟩ := ry
    cases x with
    | non => cases rx; exact SeqAt.EqAt.int_none a t'
    | bl b => cases rx; exact SeqAt.EqAt.int_bool a t' b
    | int b => obtain ⟨t, rfl⟩ := rx; exact SeqAt.EqAt.int_int a t' b t
    | str b => obtain ⟨t, rfl⟩ := rx; exact SeqAt.EqAt.int_str a t' b t
    | _ => exact absurd (show false = true from fx) Bool.false_ne_true
  | str a =>
    obtain ⟨t', rfl⟩ := ry
    cases x with
    | non => cases rx; exact SeqAt.EqAt.str_none a t'
    | bl b => cases rx; exact SeqAt.EqAt.str_bool a t' b
    | int b => obtain ⟨t, rfl⟩ := rx; exact SeqAt.EqAt.str_int a t' b t
    | str b => obtain ⟨t, rfl⟩ := rx; exact SeqAt.EqAt.str_str a t' b t
    | _ => exact absurd (show false = true from fx) Bool.false_ne_true
  | _ => exact absurd (show false = true from fy) Bool.false_ne_true
def eqU (x : V) (u : Value) : Bool := match u with
  | .none => eqV .non x
  | .bool b => eqV (.bl b) x
  | .int i _ => eqV (.int i) x
  | .str z _ => eqV (.str z) x
  | _ => false
theorem eqU_of {x y : V} {u : Value} (r : RelV y u) (f : flatV y = true) : eqU x u = eqV y x := by
  cases y with
  | non => cases r; rfl
  | bl b => cases r; rfl
  | int i => obtain ⟨t, rfl⟩ := r; rfl
  | str z => obtain ⟨t, rfl⟩ := r; rfl
  | _ => exact absurd (show false = true from f) Bool.false_ne_true
theorem any_eqU {x : V} : ∀ {xs : List V} {us : List Value}, Vals xs us → xs.all flatV = true → us.any (eqU x) = xs.any fun y => eqV y x
  | _, _, .nil, _ => rfl
  | y :: xs, u :: us, .cons r t, f => by
    rw [List.all_cons, Bool.and_eq_true] at f
    rw [List.any_cons, List.any_cons, eqU_of r f.1, any_eqU t f.2]
theorem mem_eqAt {A : Around} {s : Shared} {x : V} {v : Value} (rx : RelV x v) (fx : flatV x = true) : ∀ {xs : List V} {us : List Value}, Vals xs us → xs.all flatV = true → ∀ u ∈ us, SeqAt.EqAt A s u v (eqU x u)
  | _, _, .nil, _ => fun u hu => by cases hu
  | y :: xs, u :: us, .cons r t, f => fun u' hu => by
    rw [List.all_cons, Bool.and_eq_true] at f
    rcases List.mem_cons.mp hu with rfl | hu
    · rw [eqU_of r f.1]; exact eqAt_V r rx f.1 fx
    · exact mem_eqAt rx fx t f.2 u' hu
def inV (x : V) (xs : List V) : Bool := xs.any fun y => eqV y x
def rIn (K : PySem.W.Frag) (neg : Bool) : R2 := fun x y H Q => ∃ p xs, y = .ref p ∧ (SqL K H p xs ∨ SqT K H p xs) ∧ flatV x = true ∧ xs.all flatV = true ∧ Q (.bl (if neg then !inV x xs else inV x xs)) H
theorem op_in_seq : OpR X (compareOp .In) (rIn X.K false) := by
  intro pins s σ H x y v u Q I rx ry h
  obtain ⟨p, xs, rfl, hq, fx, fs, q⟩ := h
  cases ry
  rcases hq with hq | hq
  · obtain ⟨its, r, pl, hz⟩ := I.list hq
    refine SeqAt.in_listAt (eqU x) pl.isList (fun w hw => mem_eqAt rx fx r fs w (by simpa using hw)) ⟨.bl _, H, I, rfl, ?_⟩
    rw [show its.toArray.any (eqU x) = its.any (eqU x) by simp, any_eqU r fs]
    exact q
  · obtain ⟨its, r, pl, hz⟩ := I.tuple hq
    refine SeqAt.in_tupleAt (eqU x) pl (fun w hw => mem_eqAt rx fx r fs w (by simpa using hw)) ⟨.bl _, H, I, rfl, ?_⟩
    rw [show its.toArray.any (eqU x) = its.any (eqU x) by simp, any_eqU r fs]
    exact q
theorem op_notIn_seq : OpR X (compareOp .NotIn) (rIn X.K true) := by
  intro pins s σ H x y v u Q I rx ry h
  obtain ⟨p, xs, rfl, hq, fx, fs, q⟩ := h
  cases ry
  rcases hq with hq | hq
  · obtain ⟨its, r, pl, hz⟩ := I.list hq
    refine SeqAt.notIn_listAt (eqU x) pl.isList (fun w hw => mem_eqAt rx fx r fs w (by simpa using hw)) ⟨.bl _, H, I, rfl, ?_⟩
    rw [show its.toArray.any (eqU x) = its.any (eqU x) by simp, any_eqU r fs]
    exact q
  · obtain ⟨its, r, pl, hz⟩ := I.tuple hq
    refine SeqAt.notIn_tupleAt (eqU x) pl (fun w hw => mem_eqAt rx fx r fs w (by simpa using hw)) ⟨.bl _, H, I, rfl, ?_⟩
    rw [show its.toArray.any (eqU x) = its.any (eqU x) by simp, any_eqU r fs]
    exact q
theorem call_list_of : CallR X (.type "list") (fun xs H Q => ∃ p ys, xs = [.ref p] ∧ (SqL X.K H p ys ∨ SqT X.K H p ys) ∧ ∀ l, H l = none → Q (.ref l) (upd H l (.lst ys))) := by
  intro pins s σ H xs us Q I r h
  obtain ⟨p, ys, rfl, hq, q⟩ := h
  obtain ⟨u, rfl, rx⟩ := vals1 r
  cases rx
  have fin : ∀ (its : List Value), Vals ys its → ys.length ≤ sizeLine → ∀ (h' : Heap) (c' : Nat), (∀ b o', s.heap.get? b = some o' → h'.get? b = some o') →
      h'.get? s.heap.objs.size = some { cls := .type "list", dict := none, data := .seq its.toArray c', slots := #[] } → EP X pins σ Q (.ref s.heap.objs.size) { s with heap := h' } := fun its r' hz h' c' kp e =>
    ⟨.ref s.heap.objs.size, _, I.laid (t' := s.toks) kp (Nat.le_refl _) (show ObjOk X.prog X.w _ h' _ (.lst ys) from ⟨hz, its, c', r', e⟩), rfl, q _ (I.hok.fresh (Nat.le_refl _))⟩
  rcases hq with hq | hq
  · obtain ⟨its, r', pl, hz⟩ := I.list hq
    have hlen := r'.length
    obtain ⟨o, ho, hc, n, hd⟩ := pl.isList
    exact call_list_seq p (.inl rfl) ho hc hd (fun h' c' kp e => fin its r' hz h' c' kp e) (by simp only [List.size_toArray] <;> omega)
  · obtain ⟨its, r', pl, hz⟩ := I.tuple hq
    have hlen := r'.length
    obtain ⟨o, ho, hc, n, hd⟩ := pl
    exact call_list_seq p (.inr rfl) ho hc hd (fun h' c' kp e => fin its r' hz h' c' kp e) (by simp only [List.size_toArray] <;> omega)
theorem call_tuple_of : CallR X (.type "tuple") (fun xs H Q => ∃ p ys, xs = [.ref p] ∧ ((SqL X.K H p ys ∧ ∀ l, H l = none → Q (.ref l) (upd H l (.tup ys))) ∨ (SqT X.K H p ys ∧ Q (.ref p) H))) := by
  intro pins s σ H xs us Q I r h
  obtain ⟨p, ys, rfl, h⟩ := h
  obtain ⟨u, rfl, rx⟩ := vals1 r
  cases rx
  rcases h with ⟨hq, q⟩ | ⟨hq, q⟩
  · obtain ⟨its, r', pl, hz⟩ := I.list hq
    have hlen := r'.length
    refine call_tuple_list pl.isList (fun h' kp => ?_) (by simp only [List.size_toArray] <;> omega)
    have I1 : Inv X pins σ H { s with heap := h' } := I.kept (t' := s.toks) kp
    have I2 : Inv X pins σ (upd H h'.objs.size (.tup ys)) { s with heap := h'.push { cls := .type "tuple", data := .seq its.toArray } } :=
      I1.laid (t' := s.toks) (fun b o e => Heap.get?_push_of_some _ e) (Nat.le_refl _) (show ObjOk X.prog X.w _ _ _ (.tup ys) from ⟨hz, its, r', ⟨IsTup.new _ _, _, Heap.get?_push_size _ rfl, rfl⟩⟩)
    exact ⟨.ref h'.objs.size, _, I2, rfl, q _ (I1.hok.fresh (Nat.le_refl _))⟩
  · obtain ⟨its, r', pl, hz⟩ := I.tuple hq
    exact call_tuple_same pl ⟨.ref p, H, I, rfl, q⟩
def tyV (K : PySem.W.Frag) (T : String) (x : V) (H : Hp) : Prop := match x with
  | .str _ => T = "str"
  | .int _ => T = "int"
  | .ref p => (T = "list" ∧ ∃ xs, SqL K H p xs) ∨ (T = "tuple" ∧ ∃ o, K.lookup p = some o ∧ o.cls = .type "tuple" ∧ o.dict = none) ∨
      (T = "dict" ∧ ((∃ kvs, H p = some (.dK kvs)) ∨ ∃ kvs, H p = some (.dT kvs))) ∨ (T = "set" ∧ ∃ S n, H p = some (.set S n))
  | _ => False
theorem tyV_is {pins : List (Addr × Obj)} {σ : St} {H : Hp} {s : Shared} {T : String} {x : V} {v : Value} (I : Inv X pins σ H s) (r : RelV x v) (ty : tyV X.K T x H) :
    s.TypeIs v T ∧ ∀ a, v = .ref a → ∃ ob, s.heap.get? a = some ob ∧ ob.dict = none := by
  cases x with
  | str z =>
    obtain ⟨t, rfl⟩ := r
    cases (show T = "str" from ty)
    exact ⟨typeIs_str s z t, fun _ e => nomatch e⟩
  | int i =>
    obtain ⟨t, rfl⟩ := r
    cases (show T = "int" from ty)
    exact ⟨typeIs_int s i t, fun _ e => nomatch e⟩
  | ref p =>
    cases r
    rcases ty with ⟨rfl, xs, hq⟩ | ⟨rfl, o, hk, hc, hd⟩ | ⟨rfl, hk⟩ | ⟨rfl, S, n, hk⟩
    · obtain ⟨its, _, pl, _⟩ := I.list hq
      refine ⟨pl.isList.typeIs, fun a e => ?_⟩
      cases e
      obtain ⟨o, n, e, c, hd, _⟩ := pl
      exact ⟨o, e, hd⟩
    · refine ⟨⟨o, I.kIn p o hk, hc⟩, fun a e => ?_⟩
      cases e
      exact ⟨o, I.kIn _ o hk, hd⟩
    · have z : ∃ o, s.heap.get? p = some o ∧ o.ExactDict := by
        rcases hk with ⟨kvs, hk⟩ | ⟨kvs, hk⟩
        · obtain ⟨_, _, _, _, o, _, _, e, ex, _⟩ := I.hok p _ hk
          exact ⟨o, e, ex⟩
        · obtain ⟨_, _, _, _, o, _, _, e, ex, _⟩ := I.hok p _ hk
          exact ⟨o, e, ex⟩
      obtain ⟨o, e, ex⟩ := z
      refine ⟨⟨o, e, ex.1⟩, fun a e2 => ?_⟩
      cases e2
      exact ⟨o, e, ex.2.1⟩
    · obtain ⟨o, _, _, _, e, ex, _⟩ := I.hok p _ hk
      refine ⟨⟨o, e, ex.1⟩, fun a e2 => ?_⟩
      cases e2
      exact ⟨o, e, ex.2.1⟩
  | _ => exact False.elim ty
def tBM (K : PySem.W.Frag) (T : String) (r : V → List V → Hp → VK → Prop) (to : TE) (t : TA) : TE := fun σ H Q => to σ H fun x H1 => tyV K T x H1 ∧ t σ H1 fun xs H2 => r x xs H2 Q
variable {o e : Expr} {es : List Expr} {to : TE} {t : TA} {name : Str} {apos cpos : Pos} {T id : String} {r : V → List V → Hp → VK → Prop}
theorem pe_bm (pa : PlainAttrs T) (slot : Slot T name id) (hty : typeOf (.builtin id) = pure (.type "method_descriptor")) (hm : MtR X id r) (ho : PE X o to) (ha : PA X (e :: es) t)
    (hbase : attributeBase o name X.env (eval o X.env) = eval o X.env := by rfl)
    (hfew : ((backTo cpos (starEach (e :: es) X.env)).all (fun x => !x.1) && (backToKw cpos (keywordEach [] X.env)).all (fun x => x.1.isSome)
      && decide ((e :: es).length + ([] : List Keyword).length + (if ([] : List Keyword).isEmpty then 0 else 1) < 30)) = true := by rfl)
    (hline : (apos.endLine == cpos.line) = true := by rfl) (hs : starEach (e :: es) X.env = (false, eval e X.env) :: starEach es X.env := by rfl) (hplain : (backTo cpos (starEach es X.env)).any (·.1) = false := by rfl) :
    PE X (.Call (.Attribute o name apos) (e :: es) [] cpos) (tBM X.K T r to t) := by
  intro pins s σ H Q I h
  refine wpAny_Call_method_late hbase hfew hline rfl (thn (ho pins s σ H _ I h) fun v s1 ⟨x, H1, I1, r1, ty, q1⟩ => ?_)
  obtain ⟨h1, h2⟩ := tyV_is I1 r1 ty
  refine ⟨T, id, pa, slot, hty, h1, h2, ?_⟩
  have hA := ha cpos pins s1 σ H1 _ I1 q1
  rw [hs] at hA ⊢
  refine Calls.callWith_builtin (by show (false || (backTo cpos (starEach es X.env)).any (·.1)) = false; rw [hplain] <;> rfl) (Calls.evalArgs_plain ?_)
  exact thn hA fun us s2 ⟨vs, H2, I2, r2, q2⟩ => hm pins s2 σ H2 x vs v us Q I2 r1 r2 q2
end
end L2

namespace L2
open PySem PySem.Spec PyProof.Rows

def MtM (X : Cx) (id : String) (r : V → List V → Hp → VK → Prop) : Prop :=
  ∀ (pins : List (Addr × Obj)) (s : Shared) (σ : St) (H : Hp) (x : V) (xs : List V) (v : Value) (us : List Value) (Q : VK), Inv X pins σ H s → RelV x v → Vals xs us → r x xs H Q →
    wpAny (model X.prog X.w) X.A (call (.builtin id) (v :: us)) (EP X pins σ Q) X.xe s
theorem Vals.one : ∀ {x : V} {us : List Value}, Vals [x] us → ∃ u, us = [u] ∧ RelV x u
  | _, _, .cons r .nil => ⟨_, rfl, r⟩
theorem Vals.rep {xs : List V} {us : List Value} (h : Vals xs us) : ∀ k : Nat, Vals (List.replicate k xs).flatten (List.replicate k us).flatten
  | 0 => .nil
  | k + 1 => by
    rw [List.replicate_succ, List.replicate_succ, List.flatten_cons, List.flatten_cons]
    exact Vals.append h (Vals.rep h k)
theorem foldl_rep (its : List Value) : ∀ (k : Nat) (acc : List Value),
    List.foldl (fun x1 x2 => x1 ++ x2) acc.toArray (List.replicate k its.toArray) = (acc ++ (List.replicate k its).flatten).toArray
  | 0, acc => by simp
  | k + 1, acc => by
    have e : acc.toArray ++ its.toArray = (acc ++ its).toArray := by simp
    have e2 : (acc ++ its) ++ (List.replicate k its).flatten = acc ++ (List.replicate (k + 1) its).flatten := by
      rw [List.replicate_succ, List.flatten_cons, List.append_assoc]
    rw [← e2, ← foldl_rep its k (acc ++ its), ← e, List.replicate_succ, List.foldl_cons]
section
variable {X : Cx} {pins : List (Addr × Obj)} {σ : St} {H : Hp} {s : Shared} {l b : Addr} {xs ys zs : List V}

theorem Inv.lset {its its' : List Value} {n : Nat} {f : Array Value → Array Value} {t' : Nat} (I : Inv X pins σ H s) (hH : H l = some (.lst xs))
    (e : s.heap.get? l = some { cls := .type "list", data := .seq its.toArray n }) (hf : f its.toArray = its'.toArray) (hv : Vals ys its') (hz : ys.length ≤ sizeLine) :
    Inv X pins σ (upd H l (.lst ys)) { s with heap := s.heap.update l (Obj.mapSeq f), toks := t' } := by
  have q := PySem.IsL.update e f
  rw [hf] at q
  refine I.write (x := l) (e := l) (by rw [hH]; exact trivial) (.inl rfl) (fun b' u hb hu => (Heap.get?_update_other s.heap (Obj.mapSeq f) (Ne.symm hb)).trans hu) ⟨_, q⟩ ?_
  exact ⟨hz, its', _, hv, q⟩
theorem Inv.lnew {its : List Value} {t' : Nat} (I : Inv X pins σ H s) (hv : Vals ys its) (hz : ys.length ≤ sizeLine) :
    Inv X pins σ (upd H s.heap.objs.size (.lst ys)) { s with heap := s.heap.push { cls := .type "list", data := .seq its.toArray }, toks := t' } :=
  I.laid (fun _ _ q => Heap.get?_push_of_some _ q) (Nat.le_refl _) ⟨hz, its, 0, hv, Heap.get?_push_size _ rfl⟩
theorem Inv.fresh (I : Inv X pins σ H s) : H s.heap.objs.size = none := I.hok.fresh (Nat.le_refl _)
theorem Inv.lstM (I : Inv X pins σ H s) (hH : H l = some (.lst xs)) : xs.length ≤ sizeLine ∧ ∃ (its : List Value) (n : Nat), Vals xs its ∧ xs.length = its.length ∧ s.heap.get? l = some { cls := .type "list", data := .seq its.toArray n } := by
  obtain ⟨z, its, n, r, e⟩ := I.hok l _ hH
  exact ⟨z, its, n, r, r.length, e⟩
theorem notLongL {n : Nat} (h : n ≤ sizeLine) : Builtin.List.listTooLong n = false := by
  unfold Builtin.List.listTooLong
  exact decide_eq_false (by omega)
end

section
variable {X : Cx}

def rAppend : V → List V → Hp → VK → Prop := fun x vs H Q => ∃ l xs y, x = .ref l ∧ vs = [y] ∧ H l = some (.lst xs) ∧ xs.length < sizeLine ∧ Q .non (upd H l (.lst (xs ++ [y])))
theorem mt_append : MtM X "list.append" rAppend := by
  intro pins s σ H x vs v us Q I rx rv h
  obtain ⟨l, xs, y, rfl, rfl, hH, hz, q⟩ := h
  cases rx
  obtain ⟨u, rfl, ru⟩ := rv.one
  obtain ⟨z, its, n, r, hl, e⟩ := I.lstM hH
  refine call_meets F.slot_list_append ⟨_, e, rfl⟩ F.entry_list_append (F.args_list_append_2 _ _) (PySem.list_append l its.toArray n u (by rw [List.size_toArray]; omega)) ⟨e, ?_⟩
  refine ⟨.non, _, I.lset (its' := its ++ [u]) hH e (by simp) (r.append (.cons ru .nil)) ?_, rfl, q⟩
  rw [List.length_append, List.length_singleton]
  omega
def rExtend : V → List V → Hp → VK → Prop := fun x vs H Q => ∃ l b xs zs, x = .ref l ∧ vs = [.ref b] ∧ H l = some (.lst xs) ∧ H b = some (.lst zs) ∧ xs.length + zs.length ≤ sizeLine ∧ Q .non (upd H l (.lst (xs ++ zs)))
theorem mt_extend : MtM X "list.extend" rExtend := by
  intro pins s σ H x vs v us Q I rx rv h
  obtain ⟨l, b, xs, zs, rfl, rfl, hH, hB, hz, q⟩ := h
  cases rx
  obtain ⟨u, rfl, ru⟩ := rv.one
  cases ru
  obtain ⟨z, its, n, r, hl, e⟩ := I.lstM hH
  obtain ⟨z2, its2, n2, r2, hl2, e2⟩ := I.lstM hB
  have hsz : its.toArray.size + its2.toArray.size ≤ sizeLine := by rw [List.size_toArray, List.size_toArray]; omega
  have hlong : ¬ (!its.toArray.isEmpty && Builtin.List.listTooLong (its.toArray.size + its2.toArray.size)) = true := by
    rw [notLongL hsz, Bool.and_false]
    exact Bool.false_ne_true
  refine call_meets F.slot_list_extend ⟨_, e, rfl⟩ F.entry_list_extend (F.args_list_extend_2 _ _)
    (AutoSeq1.list_extend_list_list_0 l its.toArray n b its2.toArray n2 hlong (by rw [List.size_toArray]; omega) (by omega)) ⟨e, e2, ?_⟩
  refine ⟨.non, _, I.lset (its' := its ++ its2) hH e (by simp) (r.append r2) ?_, rfl, q⟩
  rw [List.length_append]
  omega
def rCat : R2 := fun x y H Q => ∃ l b xs zs, x = .ref l ∧ y = .ref b ∧ H l = some (.lst xs) ∧ H b = some (.lst zs) ∧ xs.length + zs.length ≤ sizeLine ∧ ∀ p, H p = none → Q (.ref p) (upd H p (.lst (xs ++ zs)))
theorem op_cat : OpR X (binaryOp .Add) rCat := by
  intro pins s σ H x y v u Q I rx ry h
  obtain ⟨l, b, xs, zs, rfl, rfl, hH, hB, hz, q⟩ := h
  cases rx
  cases ry
  obtain ⟨z, its, n, r, hl, e⟩ := I.lstM hH
  obtain ⟨z2, its2, n2, r2, hl2, e2⟩ := I.lstM hB
  refine PySem.P.add_list e e2 ?_ (by rw [List.size_toArray, List.size_toArray]; omega)
  have ea : its.toArray ++ its2.toArray = (its ++ its2).toArray := by simp
  rw [ea]
  exact ⟨.ref _, _, I.lnew (t' := s.toks) (r.append r2) (by rw [List.length_append]; omega), rfl, q _ I.fresh⟩
def rRep : R2 := fun x y H Q => ∃ l k xs, x = .ref l ∧ y = .int k ∧ H l = some (.lst xs) ∧ -(2 ^ 63) ≤ k ∧ k < 2 ^ 63 ∧ xs.length * k.toNat ≤ sizeLine ∧
  ∀ p, H p = none → Q (.ref p) (upd H p (.lst (List.replicate k.toNat xs).flatten))
theorem len_rep {α : Type} (xs : List α) (k : Nat) : (List.replicate k xs).flatten.length = k * xs.length := by
  induction k with
  | zero => simp
  | succ k ih => rw [List.replicate_succ, List.flatten_cons, List.length_append, ih, Nat.succ_mul, Nat.add_comm]
theorem op_rep : OpR X (binaryOp .Mult) rRep := by
  intro pins s σ H x y v u Q I rx ry h
  obtain ⟨l, k, xs, rfl, rfl, hH, h1, h2, hz, q⟩ := h
  cases rx
  obtain ⟨t, rfl⟩ := ry
  obtain ⟨z, its, n, r, hl, e⟩ := I.lstM hH
  have hlen : its.toArray.size * k.toNat ≤ sizeLine := by rw [List.size_toArray, ← hl]; exact hz
  have hcap : ¬ its.toArray.size * k.toNat > (2 ^ 63 - 1) / 8 := by
    have : (sizeLine : Nat) ≤ (2 ^ 63 - 1) / 8 := by decide
    omega
  have hfit : ¬ (!Builtin.List.listFitsIndex k) = true := by
    rw [fitsIndex_both h1 h2]
    exact Bool.false_ne_true
  have hlong : ¬ Builtin.List.listTooLong (its.toArray.size * k.toNat) = true := by
    rw [notLongL hlen]
    exact Bool.false_ne_true
  have hnew : List.foldl (fun x1 x2 => x1 ++ x2) #[] (List.replicate (if its.toArray.isEmpty = true then 0 else k.toNat) its.toArray) = (List.replicate k.toNat its).flatten.toArray := by
    have f0 : ∀ m : Nat, List.foldl (fun x1 x2 => x1 ++ x2) #[] (List.replicate m its.toArray) = (List.replicate m its).flatten.toArray := fun m => by
      have := foldl_rep its m []
      rw [List.nil_append] at this
      exact this
    rw [f0]
    cases its with
    | nil => simp
    | cons a r' => rw [if_neg (by simp)]
  refine wpAny_binaryOp_repeat_ref (T := "list") (U := "int") (by decide) ⟨_, e, rfl⟩ (fun s' => typeIs_int s' k t) noFill_list_mul F.fills_int_mul F.slot_int_rmul repeat_list F.slot_int_index.lookup
    (call_meets F.slot_int_rmul (typeIs_int s k t) F.entry_int_rmul (F.args_int_rmul_2 _ _) (int___rmul___int_list k t l its.toArray n)
      ⟨e, rfl, ⟨_, e, rfl⟩, call_meets F.slot_list_mul ⟨_, e, rfl⟩ F.entry_list_mul (F.args_list_mul_2 _ _) (AutoListH.list___mul___list_int_3 l its.toArray n k t hfit hcap hlong) ⟨e, ?_⟩⟩)
  rw [hnew]
  exact ⟨.ref _, _, I.lnew (t' := s.toks) (r.rep k.toNat) (by rw [len_rep, Nat.mul_comm]; exact hz), rfl, q _ I.fresh⟩
end

end L2

namespace L2
open PySem PySem.Spec PyProof.Rows

theorem vals_of_ints : ∀ {us : List Value} {ns : List Int}, IntsAre us ns → Vals (ns.map V.int) us
  | _, _, .nil => by rw [List.map_nil]; exact Paired.nil
  | _, _, .cons n t h => by rw [List.map_cons]; exact Paired.cons (show RelV (V.int n) (Value.int n t) from ⟨t, rfl⟩) (vals_of_ints h)
mutual
inductive Dp (K : PySem.W.Frag) (H : Hp) : V → PyData → Prop
  | non : Dp K H .non .none
  | bl (b : Bool) : Dp K H (.bl b) (.bool b)
  | int (i : Int) : Dp K H (.int i) (.int i)
  | str (x : Str) : Dp K H (.str x) (.str x)
  | lst {a : Addr} {xs : List V} {ds : List PyData} : SqL K H a xs → DpAll K H xs ds → Dp K H (.ref a) (.list ds)
  | tup {a : Addr} {xs : List V} {ds : List PyData} : SqT K H a xs → DpAll K H xs ds → Dp K H (.ref a) (.tuple ds)
inductive DpAll (K : PySem.W.Frag) (H : Hp) : List V → List PyData → Prop
  | nil : DpAll K H [] []
  | cons {v : V} {vs : List V} {d : PyData} {ds : List PyData} : Dp K H v d → DpAll K H vs ds → DpAll K H (v :: vs) (d :: ds)
end
section
variable {X : Cx} {pins : List (Addr × Obj)} {σ : St} {H : Hp} {s : Shared}
mutual
theorem Dp.reads (I : Inv X pins σ H s) : ∀ (d : PyData) (v : V) (u : Value), Dp X.K H v d → RelV v u → ∃ as, Reads s.heap u d as
  | .none, _, _, h, r => by
    cases h
    cases r
    exact ⟨_, Reads.none⟩
  | .bool b, _, _, h, r => by
    cases h
    cases r
    exact ⟨_, Reads.bool b⟩
  | .int i, _, _, h, r => by
    cases h
    obtain ⟨t, rfl⟩ := r
    exact ⟨_, Reads.int i t⟩
  | .str x, _, _, h, r => by
    cases h
    obtain ⟨t, rfl⟩ := r
    exact ⟨_, Reads.str x t⟩
  | .list ds, _, _, h, r => by
    cases h with
    | lst hs ha =>
      cases r
      obtain ⟨its, rv, ⟨o, n, ho, hc, _, hd⟩, _⟩ := I.list hs
      obtain ⟨as, hr⟩ := Dp.readsAll I ds _ its ha rv
      exact ⟨_, Reads.list ho hc hd hr⟩
  | .tuple ds, _, _, h, r => by
    cases h with
    | tup hs ha =>
      cases r
      obtain ⟨its, rv, ⟨o, ho, hc, n, hd⟩, _⟩ := I.tuple hs
      obtain ⟨as, hr⟩ := Dp.readsAll I ds _ its ha rv
      exact ⟨_, Reads.tuple ho hc hd hr⟩
  | .dict _, _, _, h, _ => by cases h
theorem Dp.readsAll (I : Inv X pins σ H s) : ∀ (ds : List PyData) (vs : List V) (us : List Value), DpAll X.K H vs ds → Vals vs us → ∃ as, ReadsAll s.heap us ds as
  | [], _, _, h, r => by
    cases h
    cases r
    exact ⟨_, ReadsAll.nil⟩
  | d :: ds, _, _, h, r => by
    cases h with
    | cons h1 h2 =>
      cases r with
      | cons r1 r2 =>
        obtain ⟨as, q1⟩ := Dp.reads I d _ _ h1 r1
        obtain ⟨bs, q2⟩ := Dp.readsAll I ds _ _ h2 r2
        exact ⟨_, ReadsAll.cons q1 q2⟩
end
end
end L2

namespace L2
open PySem PySem.Spec PyProof.Rows
abbrev CellAt (h : Heap) (c : Addr) (v : Option Value) : Prop := h.IsCell c v
def relS (scope sc : Scope) : Scope :=
  { scope with names := scope.names.map fun (n, k) => if (k == .free && sc.kind == .function && sc.names.lookup n == some .cell) then (n, .cell) else (n, k) }
def cloFrom (cells : List (Str × Addr)) : List (Str × NameKind) → List (Str × Addr) → List (Str × Addr)
  | [], acc => acc
  | (n, k) :: r, acc => if k == .free then cloFrom cells r ((n, (cells.lookup n).getD 0) :: acc) else cloFrom cells r acc
theorem closure_loop (env : Env) (f : Str × NameKind → List (Str × Addr) → Sem (ForInStep (List (Str × Addr))))
    (hf : ∀ n k c, f (n, k) c = if k == .free then (do let a ← cellOf env n; pure (.yield ((n, a) :: c))) else pure (.yield c)) :
    ∀ (names : List (Str × NameKind)) (acc : List (Str × Addr)), (∀ y ∈ names, y.2 = .free → ∃ c, env.cells.lookup y.1 = some c) → forIn names acc f = pure (cloFrom env.cells names acc)
  | [], acc, _ => by rw [List.forIn_nil]; rfl
  | (n, k) :: r, acc, h => by
    rw [List.forIn_cons, hf]
    have ih := fun acc => closure_loop env f hf r acc fun y hy => h y (List.mem_cons_of_mem _ hy)
    unfold cloFrom
    by_cases hk : (k == NameKind.free) = true
    · rw [if_pos hk, if_pos hk]
      obtain ⟨c, hc⟩ := h (n, k) List.mem_cons_self (by simpa using hk)
      have e : cellOf env n = pure c := by unfold cellOf; rw [hc]
      rw [e]
      have e2 : (env.cells.lookup n).getD 0 = c := by rw [hc]; rfl
      rw [e2]
      exact ih _
    · rw [if_neg hk, if_neg hk]
      exact ih _
theorem closure_ok {scope : Scope} {env : Env} (h : ∀ y ∈ scope.names, y.2 = .free → ∃ c, env.cells.lookup y.1 = some c) : closureFor scope env = pure (cloFrom env.cells scope.names []) := by
  simp only [closureFor]
  rw [closure_loop env _ (fun n k c => rfl) scope.names [] h]
  rfl
theorem mem_lookup {α : Type} : ∀ {l : List (Str × α)} {n : Str} {c : α}, (n, c) ∈ l → ∃ c', l.lookup n = some c'
  | (k, v) :: r, n, c, h => by
    rw [List.lookup_cons]
    cases hb : n == k with
    | true => exact ⟨_, rfl⟩
    | false =>
      rcases List.mem_cons.mp h with e | h
      · cases e; simp at hb
      · exact mem_lookup h
theorem cloFrom_mem {cells : List (Str × Addr)} : ∀ {names : List (Str × NameKind)} {acc : List (Str × Addr)} {n : Str} {c : Addr}, (n, c) ∈ cloFrom cells names acc → (n, c) ∈ acc ∨ ((n, .free) ∈ names ∧ c = (cells.lookup n).getD 0)
  | [], _, _, _, h => .inl h
  | (m, k) :: r, acc, n, c, h => by
    unfold cloFrom at h
    split at h
    · rename_i hk
      have hk : k = .free := by simpa using hk
      rcases cloFrom_mem h with h | ⟨h1, h2⟩
      · rcases List.mem_cons.mp h with e | h
        · cases e; exact .inr ⟨hk ▸ List.mem_cons_self, rfl⟩
        · exact .inl h
      · exact .inr ⟨List.mem_cons_of_mem _ h1, h2⟩
    · rcases cloFrom_mem h with h | ⟨h1, h2⟩
      · exact .inl h
      · exact .inr ⟨List.mem_cons_of_mem _ h1, h2⟩
theorem cloFrom_acc {cells : List (Str × Addr)} : ∀ {names : List (Str × NameKind)} {acc : List (Str × Addr)} {p : Str × Addr}, p ∈ acc → p ∈ cloFrom cells names acc
  | [], _, _, h => h
  | (m, k) :: r, acc, p, h => by
    unfold cloFrom
    split
    · exact cloFrom_acc (List.mem_cons_of_mem _ h)
    · exact cloFrom_acc h
theorem cloFrom_has {cells : List (Str × Addr)} : ∀ {names : List (Str × NameKind)} {acc : List (Str × Addr)} {n : Str}, (n, .free) ∈ names → (n, (cells.lookup n).getD 0) ∈ cloFrom cells names acc
  | (m, k) :: r, acc, n, h => by
    unfold cloFrom
    rcases List.mem_cons.mp h with e | h
    · cases e
      exact cloFrom_acc List.mem_cons_self
    · split
      · exact cloFrom_has h
      · exact cloFrom_has h
theorem cells_mem : ∀ {names : List (Str × NameKind)} {h : Heap} {acc : List (Str × Addr)} {x : Str} {c : Addr}, (x, c) ∈ cellsFrom h.objs.size names acc →
    (x, c) ∈ acc ∨ ((x, .cell) ∈ names ∧ h.objs.size ≤ c ∧ CellAt (pushCells h names) c none)
  | [], _, _, _, _, h => .inl h
  | (n, k) :: r, h, acc, x, c, hm => by
    unfold cellsFrom at hm
    unfold pushCells
    split at hm
    · rename_i hk
      rw [if_pos hk]
      have hk : k = .cell := by simpa using hk
      rw [← Heap.size_push h { cls := .type "cell", data := .cell none }] at hm
      rcases cells_mem hm with hm | ⟨h1, h2, h3⟩
      · rcases List.mem_cons.mp hm with e | hm
        · cases e
          exact .inr ⟨hk ▸ List.mem_cons_self, Nat.le_refl _, _, pushCells_keeps r _ _ _ (Heap.get?_push_size _ rfl), rfl⟩
        · exact .inl hm
      · rw [Heap.size_push] at h2
        exact .inr ⟨List.mem_cons_of_mem _ h1, Nat.le_of_succ_le h2, h3⟩
    · rename_i hk
      rw [if_neg hk]
      rcases cells_mem hm with hm | ⟨h1, h2, h3⟩
      · exact .inl hm
      · exact .inr ⟨List.mem_cons_of_mem _ h1, h2, h3⟩
theorem cells_acc : ∀ {names : List (Str × NameKind)} {n : Nat} {acc : List (Str × Addr)} {p : Str × Addr}, p ∈ acc → p ∈ cellsFrom n names acc
  | [], _, _, _, h => h
  | (m, k) :: r, n, acc, p, h => by
    unfold cellsFrom
    split
    · exact cells_acc (List.mem_cons_of_mem _ h)
    · exact cells_acc h
theorem cells_has : ∀ {names : List (Str × NameKind)} {n : Nat} {acc : List (Str × Addr)} {x : Str}, (x, .cell) ∈ names → ∃ c, (x, c) ∈ cellsFrom n names acc
  | (m, k) :: r, n, acc, x, h => by
    unfold cellsFrom
    rcases List.mem_cons.mp h with e | h
    · cases e
      exact ⟨n, cells_acc List.mem_cons_self⟩
    · split
      · exact cells_has h
      · exact cells_has h
theorem cells_inj : ∀ {names : List (Str × NameKind)} {h : Heap} {acc : List (Str × Addr)} {x y : Str} {c : Addr}, (∀ p ∈ acc, p.2 < h.objs.size) → (∀ x y c, (x, c) ∈ acc → (y, c) ∈ acc → x = y) →
    (x, c) ∈ cellsFrom h.objs.size names acc → (y, c) ∈ cellsFrom h.objs.size names acc → x = y
  | [], _, _, _, _, _, _, hi, h1, h2 => hi _ _ _ h1 h2
  | (n, k) :: r, h, acc, x, y, c, hl, hi, h1, h2 => by
    unfold cellsFrom at h1 h2
    split at h1
    · rename_i hk
      rw [if_pos hk] at h2
      rw [← Heap.size_push h { cls := .type "cell", data := .cell none }] at h1 h2
      refine cells_inj (h := h.push _) (fun p hp => ?_) (fun x y c a b => ?_) h1 h2
      · rw [Heap.size_push]
        rcases List.mem_cons.mp hp with rfl | hp
        · exact Nat.lt_succ_self _
        · exact Nat.lt_succ_of_lt (hl p hp)
      · rcases List.mem_cons.mp a with e | a <;> rcases List.mem_cons.mp b with e' | b
        · cases e; cases e'; rfl
        · cases e; exact absurd (hl _ b) (Nat.lt_irrefl _)
        · cases e'; exact absurd (hl _ a) (Nat.lt_irrefl _)
        · exact hi _ _ _ a b
    · rename_i hk
      rw [if_neg hk] at h2
      exact cells_inj hl hi h1 h2
theorem newEnv_comp {M : Model} {A : Around} {E : Value → Shared → Prop} {s : Shared} {scope : Scope} {globals : Addr} {closure : List (Str × Addr)} {qual : Str} {func : Option Addr} {code : Value} {around : Env} {builtins : Addr} {Q : Env → Shared → Prop}
    (h : Q (newEnv scope s.heap.objs.size globals (cellsFrom (s.heap.objs.size + 1) scope.names closure) qual func code (some around) builtins)
      { s with heap := pushCells (s.heap.push { cls := .type "dict", data := .dict #[] }) scope.names }) :
    wpAny M A (newFunctionEnv scope globals closure [] qual func code (some around) builtins) Q E s := by
  simp only [newFunctionEnv, Option.isSome_some, if_true]
  refine wpAny_bind (wpAny_alloc ?_)
  refine wpAny_bind (wpAny_layCells _ (fun n k c => rfl) scope.names closure _ _ ?_)
  rw [show ({ s with heap := s.heap.push { cls := .type "dict", data := .dict #[] } } : Shared).heap.objs.size = s.heap.objs.size + 1 from Heap.size_push ..]
  rw [List.forIn_nil]
  exact wpAny_bind (wpAny_pure (wpAny_pure h))
theorem lookup_relS {sc : Scope} : ∀ {names : List (Str × NameKind)} {x : Str} {k : NameKind},
    (names.map fun (n, k) => if (k == NameKind.free && sc.kind == .function && sc.names.lookup n == some .cell) then (n, NameKind.cell) else (n, k)).lookup x = some k →
    ∃ k', names.lookup x = some k' ∧ (k = k' ∨ (k' = .free ∧ k = .cell))
  | [], _, _, h => by simp at h
  | (n, k₀) :: r, x, k, h => by
    have ih := @lookup_relS sc r x k
    have h' : List.lookup x ((if (k₀ == NameKind.free && sc.kind == .function && sc.names.lookup n == some .cell) = true then (n, NameKind.cell) else (n, k₀)) :: (r.map _)) = some k := h
    cases hx : x == n with
    | true =>
      simp only [List.lookup_cons, hx]
      by_cases hc : (k₀ == NameKind.free && sc.kind == .function && sc.names.lookup n == some .cell) = true
      · rw [if_pos hc] at h'
        simp only [List.lookup_cons, hx] at h'
        cases h'
        simp only [Bool.and_eq_true, beq_iff_eq] at hc
        exact ⟨k₀, rfl, .inr ⟨hc.1.1, rfl⟩⟩
      · rw [if_neg hc] at h'
        simp only [List.lookup_cons, hx] at h'
        cases h'
        exact ⟨_, rfl, .inl rfl⟩
    | false =>
      simp only [List.lookup_cons, hx]
      by_cases hc : (k₀ == NameKind.free && sc.kind == .function && sc.names.lookup n == some .cell) = true
      · rw [if_pos hc] at h'
        simp only [List.lookup_cons, hx] at h'
        exact ih h'
      · rw [if_neg hc] at h'
        simp only [List.lookup_cons, hx] at h'
        exact ih h'
structure BlkOk (N : List Str) (sc scope : Scope) (own : List (Str × Nat)) : Prop where
  kind : scope.kind = .function
  uniq : ∀ y ∈ scope.names, scope.names.lookup y.1 = some y.2
  ix : ∀ p ∈ own, N[p.2]? = some p.1
  free : ∀ y ∈ scope.names, y.2 = .free → sc.names.lookup y.1 = some .cell ∨ sc.names.lookup y.1 = some .free
  own : ∀ y ∈ scope.names, y.2 = .local ∨ y.2 = .cell → y.1 ∈ own.map (·.1) ∨ y.1 ∉ N
def wipe (σ : St) : List Nat → St
  | [] => σ
  | v :: vs => (wipe σ vs).set v none
theorem wipe_length (σ : St) : ∀ vs : List Nat, (wipe σ vs).length = σ.length
  | [] => rfl
  | v :: vs => by unfold wipe; rw [List.length_set, wipe_length σ vs]
theorem wipe_some {σ : St} {i : Nat} {x : V} : ∀ {vs : List Nat}, (wipe σ vs)[i]? = some (some x) → σ[i]? = some (some x) ∧ i ∉ vs
  | [], h => ⟨h, by simp⟩
  | v :: vs, h => by
    unfold wipe at h
    by_cases hi : v = i
    · subst hi
      by_cases hv : v < (wipe σ vs).length
      · rw [List.getElem?_set_self hv] at h; cases h
      · rw [List.getElem?_eq_none (by simpa using hv)] at h; cases h
    · rw [List.getElem?_set_ne hi] at h
      obtain ⟨h1, h2⟩ := wipe_some h
      exact ⟨h1, by simp only [List.mem_cons, not_or]; exact ⟨fun e => hi e.symm, h2⟩⟩
abbrev Cx.blk (X : Cx) (s : Shared) (H : Hp) (scope : Scope) (cenv : Env) (fp : List Addr) : Cx := { X with s_0 := s, H_0 := H, env := cenv, outer := X.stack, ex := fp, fn := fun x => scope.names.lookup x == some .cell, pn := [], xe := fun _ _ => False }
section
variable {X : Cx} {pins : List (Addr × Obj)} {σ : St} {H : Hp} {s : Shared}
theorem block_start {scope : Scope} {own : List (Str × Nat)} {fp : List Addr} (I : Inv X pins σ H s) (ok : BlkOk X.N X.env.scope scope own) (hN : X.N.Nodup) (hfp : ∀ b ∈ fp, FpOk X pins H b ∧ b < s.heap.objs.size) :
    Inv (X.blk s H scope (compEnvC scope (cellsFrom (s.heap.objs.size + 1) scope.names (cloFrom X.env.cells scope.names [])) s.heap.objs.size X.env) fp) [] (wipe σ (own.map (·.2))) H { s with heap := pushCells (s.heap.push { cls := .type "dict", data := .dict #[] }) scope.names } := by
  have hfree : ∀ y ∈ scope.names, y.2 = .free → ∃ c, X.env.cells.lookup y.1 = some c := fun y hy e => by
    rcases ok.free y hy e with k | k
    · exact I.ok.has _ (.inl k)
    · exact I.ok.has _ (.inr k)
  generalize hcenv : compEnvC scope (cellsFrom (s.heap.objs.size + 1) scope.names (cloFrom X.env.cells scope.names [])) s.heap.objs.size X.env = cenv
  have kp : ∀ b o, s.heap.get? b = some o → (pushCells (s.heap.push { cls := .type "dict", data := .dict #[] }) scope.names).get? b = some o := fun b o e => pushCells_keeps _ _ _ _ (Heap.get?_push_of_some _ e)
  have hL : cenv.locals = s.heap.objs.size := by rw [← hcenv]; rfl
  have hcl : cenv.cells = cellsFrom (s.heap.objs.size + 1) scope.names (cloFrom X.env.cells scope.names []) := by rw [← hcenv]; rfl
  have hsc : cenv.scope = relS scope X.env.scope := by rw [← hcenv]; rfl
  rw [← Heap.size_push s.heap { cls := .type "dict", data := .dict #[] }] at hcl
  have cm : ∀ {y c}, (y, c) ∈ cloFrom X.env.cells scope.names [] → X.env.cells.lookup y = some c ∧ c < s.heap.objs.size := fun {y c} hm => by
    rcases cloFrom_mem hm with hm | ⟨h1, rfl⟩
    · cases hm
    · obtain ⟨c, hc⟩ := hfree _ h1 rfl
      rw [hc]
      obtain ⟨w, z⟩ := I.cell _ _ hc
      exact ⟨rfl, z.lt⟩
  have mem : ∀ {y c}, cenv.cells.lookup y = some c → (X.env.cells.lookup y = some c ∧ c < s.heap.objs.size) ∨ (s.heap.objs.size + 1 ≤ c ∧ CellAt (pushCells (s.heap.push { cls := .type "dict", data := .dict #[] }) scope.names) c none) := fun {y c} e => by
    rw [hcl] at e
    rcases cells_mem (PySem.mem_of_lookup e) with hm | ⟨_, h2, h3⟩
    · exact .inl (cm hm)
    · rw [Heap.size_push] at h2; exact .inr ⟨h2, h3⟩
  have look : ∀ {y}, scope.names.lookup y = some .free → ∃ c, cenv.cells.lookup y = some c ∧ X.env.cells.lookup y = some c := fun {y} hl => by
    have hy : (y, NameKind.free) ∈ scope.names := PySem.mem_of_lookup hl
    obtain ⟨c', e'⟩ := mem_lookup (cells_acc (names := scope.names) (n := (s.heap.push { cls := .type "dict", data := .dict #[] }).objs.size) (cloFrom_has (cells := X.env.cells) (acc := []) hy))
    rw [← hcl] at e'
    refine ⟨c', e', ?_⟩
    rw [hcl] at e'
    rcases cells_mem (PySem.mem_of_lookup e') with hm | ⟨h1, _, _⟩
    · exact (cm hm).1
    · have := ok.uniq _ h1
      rw [hl] at this; cases this
  have okB : (X.blk s H scope cenv fp).Ok := by
    refine ⟨I.ok.mod, by show cenv.scope.kind = _; rw [hsc]; exact ok.kind, by show cenv.globals = _; rw [← hcenv]; exact I.ok.glob, by show cenv.builtins = _; rw [← hcenv]; exact I.ok.blt, by show s.heap.objs.size ≤ cenv.locals; rw [hL]; exact Nat.le_refl _,
      fun y z c e1 e2 => ?_, fun y hy => ?_, fun y c z e => ?_, I.ok.hd, I.ok.frames, .inl rfl, fun b hb => ⟨?_, fun y c e z => ?_⟩, I.bs, Nat.le_trans I.ok.bsz I.sz, fun b o e hb => ?_, fun b hb z => ?_, I.stack, I.stkFree⟩
    · have e1 : cenv.cells.lookup y = some c := e1
      have e2 : cenv.cells.lookup z = some c := e2
      rw [hcl] at e1 e2
      refine cells_inj (fun p hp => ?_) (fun y z c a b => I.ok.inj y z c (cm a).1 (cm b).1) (PySem.mem_of_lookup e1) (PySem.mem_of_lookup e2)
      rw [Heap.size_push]
      exact Nat.lt_succ_of_lt (cm (y := p.1) (c := p.2) hp).2
    · show ∃ c, cenv.cells.lookup y = some c
      have key : ∀ k, cenv.kindOf y = some k → (k = .cell ∨ k = .free) → ∃ c, cenv.cells.lookup y = some c := fun k hk hk' => by
        unfold Env.kindOf at hk
        rw [hsc] at hk
        obtain ⟨k', e, r⟩ := lookup_relS hk
        have : k' = .cell ∨ k' = .free := by
          rcases r with rfl | ⟨rfl, _⟩
          · exact hk'
          · exact .inr rfl
        rcases this with rfl | rfl
        · obtain ⟨c, hm⟩ := cells_has (n := (s.heap.push { cls := .type "dict", data := .dict #[] }).objs.size) (acc := cloFrom X.env.cells scope.names []) (PySem.mem_of_lookup e)
          obtain ⟨c', e'⟩ := mem_lookup hm
          exact ⟨c', by rw [hcl]; exact e'⟩
        · obtain ⟨c, h1, _⟩ := look e
          exact ⟨c, h1⟩
      rcases hy with hy | hy
      · exact key _ hy (.inl rfl)
      · exact key _ hy (.inr rfl)
    · have z : (scope.names.lookup y == some NameKind.cell) = true := z
      have z : scope.names.lookup y = some .cell := by simpa using z
      have e : cenv.cells.lookup y = some c := e
      rw [hcl] at e
      rcases cells_mem (PySem.mem_of_lookup e) with hm | ⟨_, h2, _⟩
      · rcases cloFrom_mem hm with hm | ⟨h1, _⟩
        · cases hm
        · have q := ok.uniq _ h1
          rw [z] at q; cases q
      · rw [Heap.size_push] at h2
        exact Nat.le_of_succ_le h2
    · show b ≠ cenv.locals
      rw [hL]; exact Nat.ne_of_lt (hfp b hb).2
    · have e : cenv.cells.lookup y = some c := e
      rcases mem e with ⟨h1, _⟩ | ⟨h1, _⟩
      · exact (hfp b hb).1.2.2.2.2.1 y c h1 z
      · have h2 : s.heap.objs.size + 1 ≤ b := by rw [← z]; exact h1
        exact absurd (Nat.lt_of_lt_of_le (hfp b hb).2 (Nat.le_of_succ_le h2)) (Nat.lt_irrefl _)
    · rcases (hfp b hb).1.2.2.2.1 with z | z
      · exact I.ok.noex b o e z
      · exact absurd (Nat.lt_of_lt_of_le (Heap.lt_size e) (Nat.le_trans I.ok.bsz z)) (Nat.lt_irrefl _)
    · rcases List.mem_cons.mp (I.stkSub b z) with z | z
      · exact (hfp b hb).1.2.1 z
      · exact (hfp b hb).1.2.2.1 z
  refine ⟨okB, rfl, I.bare, Un.kept kp, ⟨fun _ => none, ?_, fun i y av e1 e2 e3 => ?_⟩, fun y c e => ?_, ?_, fun y c e => ?_, fun p hp => ?_, I.hok.kept kp, by rw [wipe_length]; exact I.len⟩
  · show Heap.Ns _ cenv.locals _
    rw [hL]
    exact Heap.Ns.keeps (Heap.Ns.new ..) fun b o e => pushCells_keeps _ _ _ _ e
  · obtain ⟨e2, hne⟩ := wipe_some e2
    have hfr : scope.names.lookup y = some .free ∧ (cenv.kindOf y = some .cell ∨ cenv.kindOf y = some .free) := by
      have key : ∀ k, cenv.scope.names.lookup y = some k → k = .local ∨ k = .cell ∨ k = .free → scope.names.lookup y = some .free ∧ (cenv.kindOf y = some .cell ∨ cenv.kindOf y = some .free) := fun k hk hk' => by
        have hk0 := hk
        rw [hsc] at hk
        obtain ⟨k', e, r⟩ := lookup_relS hk
        have no : ¬ (k' = .local ∨ k' = .cell) := fun hh => by
          rcases ok.own _ (PySem.mem_of_lookup e) hh with e' | e'
          · obtain ⟨p, hp, hpy⟩ := List.mem_map.mp e'
            have e3 := ok.ix p hp
            have : p.1 = y := hpy
            rw [this] at e3
            exact hne (List.mem_map.mpr ⟨p, hp, nodup_ix hN e3 e1⟩)
          · exact e' (List.mem_of_getElem? e1)
        rcases r with rfl | ⟨rfl, rfl⟩
        · rcases hk' with rfl | rfl | rfl
          · exact absurd (.inl rfl) no
          · exact absurd (.inr rfl) no
          · exact ⟨e, .inr hk0⟩
        · exact ⟨e, .inl hk0⟩
      have e3 : Vis cenv.scope y := e3
      rcases e3 with e3 | e3 | e3
      · exact key _ e3 (.inl rfl)
      · exact key _ e3 (.inr (.inl rfl))
      · exact key _ e3 (.inr (.inr rfl))
    obtain ⟨m, hn, hl⟩ := I.loc
    have hvis : Vis X.env.scope y := (ok.free _ (PySem.mem_of_lookup hfr.1) rfl).elim (fun k => .inr (.inl k)) (fun k => .inr (.inr k))
    obtain ⟨w, r, q⟩ := hl i y av e1 e2 hvis
    refine ⟨w, r, .inr ⟨hfr.2, ?_⟩⟩
    obtain ⟨c, h1, h2⟩ := look hfr.1
    rcases q with ⟨k, _⟩ | ⟨_, c', e', z⟩
    · have k : X.env.scope.names.lookup y = some .local := k
      rcases ok.free _ (PySem.mem_of_lookup hfr.1) rfl with k' | k' <;> rw [show X.env.scope.names.lookup y = _ from k'] at k <;> cases k
    · rw [h2] at e'; cases e'
      exact ⟨c, h1, z.keeps kp⟩
  · have e : cenv.cells.lookup y = some c := e
    rcases mem e with ⟨h1, _⟩ | ⟨_, z⟩
    · obtain ⟨w, z⟩ := I.cell y c h1
      exact ⟨w, z.keeps kp⟩
    · exact ⟨_, z⟩
  · show H cenv.locals = none
    rw [hL]; exact I.hok.fresh (Nat.le_refl _)
  · have e : cenv.cells.lookup y = some c := e
    rcases mem e with ⟨h1, _⟩ | ⟨h1, _⟩
    · exact I.freeC y c h1
    · exact I.hok.fresh (Nat.le_of_succ_le h1)
  · exact absurd (show p ∈ ([] : List (Addr × Obj)) ++ [] from hp) (by simp)
theorem app_ok {E : Value → Shared → Prop} {D : Addr} {xs : List V} {y : V} {v : Value} {Q : Value → Shared → Prop} (I : Inv X pins σ H s) (hD : H D = some (.lst xs)) (hz : xs.length < sizeLine) (r : RelV y v)
    (h : ∀ s', Inv X pins σ (upd H D (.lst (xs ++ [y]))) s' → Q .none s') : wpAny (model X.prog X.w) X.A (call (.builtin "list.append") [.ref D, v]) Q E s := by
  obtain ⟨hz', its, n, ri, e⟩ := I.hok D _ hD
  have hl := ri.length
  refine append_at (hsz := by rw [List.size_toArray]; omega) e fun h' sb ho' => ?_
  refine h { s with heap := h' } (I.write (t' := s.toks) (by rw [hD]; trivial) (.inl rfl) (fun b u hb q => (sb.2 b hb).trans q) ⟨_, ho'⟩ ⟨by rw [List.length_append]; exact hz, its ++ [v], n + 1, ri.append (.cons r .nil), ?_⟩)
  rw [ho']
  simp
def PTs (X : Cx) (ifs : List Expr) (t : TT) : Prop :=
  ∀ (pins : List (Addr × Obj)) (s : Shared) (σ : St) (H : Hp) (Q : Bool → Hp → Prop), Inv X pins σ H s → t σ H Q →
    wpAny (model X.prog X.w) X.A (forIn ifs true fun c r => if r = true then do let ok ← isTrue c X.env (eval c X.env); pure (ForInStep.yield ok) else pure (ForInStep.yield r)) (TP X pins σ Q) X.xe s
def tYes : TT := fun _ H Q => Q true H
theorem pts_nil : PTs X [] tYes := fun _ _ _ H _ I h => wpAny_tests_nil ⟨H, I, h⟩
end

theorem thnF {α : Type} {t : Sem α} {Q Q' : α → Shared → Prop} {M : Model} {A : Around} {E : Value → Shared → Prop} {s : Shared} (h : wpAny M A t Q (fun _ _ => False) s) (hQ : ∀ a s, Q a s → Q' a s) : wpAny M A t Q' E s := wpAny_mono h hQ fun _ _ z => False.elim z
theorem compLoop_any {prog : Program} {w : World} {A : Around} {R : Result → Shared → Prop} {s : Shared} {elt target iter : Expr} {ifs : List Expr} {scope : Scope} {pos : Pos} {it acc : Value} {env : Env} (I : Nat → Shared → Prop)
    (turn : ∀ n s, I n s → wpAny (model prog w) A (pyNext it) (fun r s₁ => match r with
      | none => R (.ok .next) s₁
      | some v => wpAny (model prog w) A (letOwnedTupleGo target it v) (fun _ s₁' => wpAny (model prog w) A (assign target env v) (fun _ s₂ =>
          wpAny (model prog w) A (forIn ifs true fun c r => if r = true then do let ok ← isTrue c env (eval c env); pure (ForInStep.yield ok) else pure (ForInStep.yield r)) (fun ok s₃ =>
            if ok = true then wpAny (model prog w) A (eval elt env) (fun x s₄ =>
              wpAny (model prog w) A (call (.builtin "list.append") [acc, x]) (fun _ s₅ => ∃ m, m < n ∧ I m s₅) (notedBy (model prog w) A env fun e s' => R (.error e) s') s₄) (notedBy (model prog w) A env fun e s' => R (.error e) s') s₃
            else ∃ m, m < n ∧ I m s₃) (notedBy (model prog w) A env fun e s' => R (.error e) s') s₂) (notedBy (model prog w) A env fun e s' => R (.error e) s') s₁') (notedBy (model prog w) A env fun e s' => R (.error e) s') s₁) (notedBy (model prog w) A env fun e s' => R (.error e) s') s)
    (n : Nat) (h : I n s) :
    codeAny (model prog w) A (.compLoop (.ListComp elt [⟨target, iter, ifs, 0⟩] scope pos) 0 it acc env) R s := by
  refine codeAny_loop rfl I (fun n s hI => ?_) n h
  show wpAny _ A ((compTurn (.ListComp elt [⟨target, iter, ifs, 0⟩] scope pos) 0 it acc env).onRaise (fun x => do noteFrame x env; theTreesLotGoes x)) _ _ s
  refine wpAny_noted ?_
  rw [compTurn_list]
  refine wpAny_bind (wpAny_standAt (wpAny_bind (wpAny_mono (turn n s hI) (fun r s₁ h₁ => ?_) fun _ _ h' => h')))
  cases r with
  | none => exact wpAny_pure h₁
  | some v =>
    refine wpAny_bind (wpAny_mono h₁ (fun _ s₁' h₁' => ?_) fun _ _ h' => h')
    refine wpAny_bind (wpAny_mono h₁' (fun _ s₂ h₂ => wpAny_bind (wpAny_mono h₂ (fun ok s₃ h₃ => ?_) fun _ _ h' => h')) fun _ _ h' => h')
    cases ok with
    | false => exact wpAny_pure ⟨rfl, h₃⟩
    | true =>
      exact wpAny_bind (wpAny_bind (wpAny_mono h₃ (fun x s₄ h₄ => wpAny_bind (wpAny_mono h₄ (fun _ s₅ h₅ => wpAny_pure (wpAny_pure ⟨rfl, h₅⟩)) fun _ _ h' => h')) fun _ _ h' => h'))
section
variable {X : Cx}
def tLc (wi : TI) (g : TG) (tt : TT) (te : TE) (vs : List Nat) : TE := fun σ H Q => wi σ H fun J H1 => ∀ D, H1 D = none → ∃ W : Nat → Nat → Hp → Prop, (∃ m, W 0 m (upd H1 D (.lst []))) ∧ ∀ i m H, W i m H →
  (J.stop i H ∧ Q (.ref D) H) ∨ (J.go i H ∧ ∃ Nx : Hp → Prop, (∀ H', Nx H' → ∃ m', m' < m ∧ W (i + 1) m' H') ∧ ∀ x H', J.yld i H x H' → g x (wipe σ vs) H' fun σ2 H2 => wipe σ2 vs = wipe σ vs ∧ tt σ2 H2 fun b H3 =>
    if b = true then te σ2 H3 fun y H4 => ∃ acc, H4 D = some (.lst acc) ∧ acc.length < sizeLine ∧ Nx (upd H4 D (.lst (acc ++ [y]))) else Nx H3)
theorem lc_core {pins : List (Addr × Obj)} {s : Shared} {σ : St} {H : Hp} {Q : VK} {elt tg iter : Expr} {ifs : List Expr} {scope : Scope} {own : List (Str × Nat)} {pos pos' : Pos} {wi : TI} {g : TG} {tt : TT} {te : TE} {use : Option (Value → Sem Unit)} {Qf : Value → Shared → Prop}
    (hc : X.calm = true) (hN : X.N.Nodup) (I : Inv X pins σ H s) (hi : PI X tg iter wi) (ok : BlkOk X.N X.env.scope scope own)
    (hg : ∀ (s : Shared) (H : Hp) (C : Addr) (cl : List (Str × Addr)) (fp : List Addr), PG (X.blk s H scope (compEnvC scope cl C X.env) fp) tg g) (ht : ∀ (s : Shared) (H : Hp) (C : Addr) (cl : List (Str × Addr)) (fp : List Addr), PTs (X.blk s H scope (compEnvC scope cl C X.env) fp) ifs tt)
    (he : ∀ (s : Shared) (H : Hp) (C : Addr) (cl : List (Str × Addr)) (fp : List Addr), PE (X.blk s H scope (compEnvC scope cl C X.env) fp) elt te) (hs : ∀ x, foldedSetIterable iter X.env x = pure x)
    (h : tLc wi g tt te (own.map (·.2)) σ H Q)
    (hRR : ∀ D C s' m H', Inv X pins σ H' s' → Q (.ref D) H' → s'.heap.Ns C m → FpOk X pins H' C → compPost (model X.prog X.w) X.A X.xe use Qf (.ref D) C (.ok .next) s') :
    wpAny (model X.prog X.w) X.A (comprehension (.ListComp elt [⟨tg, iter, ifs, 0⟩] scope pos) scope X.env pos' (newList []) false (eval iter X.env) use) Qf X.xe s := by
  have hfree : ∀ y ∈ scope.names, y.2 = .free → ∃ c, X.env.cells.lookup y.1 = some c := fun y hy e => by
    rcases ok.free y hy e with k | k
    · exact I.ok.has _ (.inl k)
    · exact I.ok.has _ (.inr k)
  refine wpAny_comprehension_free (use := use) rfl hs (closure_ok hfree) ok.kind (fun y hy e => by rw [ok.uniq y hy, e])
    (thn (hi pins s σ H _ I h) fun xv s1 hx => thn hx fun itv s2 h2 => ?_)
  obtain ⟨it, fp, tn, J, H2, e, I2, T, st2, f2, q⟩ := h2
  subst e
  refine wpAny_newObj_type (newEnv_comp ?_) (by show 0 ≤ sizeLine; decide)
  generalize hD : s2.heap.objs.size = D
  have hDn : H2 D = none := I2.hok.fresh (Nat.le_of_eq hD)
  obtain ⟨W, ⟨m0, w0⟩, turn⟩ := q D hDn
  -- the new list
  generalize hs3 : ({ s2 with heap := s2.heap.push { cls := .type "list", data := .seq ([] : List Value).toArray } } : Shared) = s3
  have I3 : Inv X pins σ (upd H2 D (.lst [])) s3 := by
    rw [← hs3]
    refine I2.laid (t' := s2.toks) (fun b o e => Heap.get?_push_of_some _ e) (Nat.le_of_eq hD) ⟨Nat.zero_le _, [], 0, .nil, ?_⟩
    rw [← hD]
    exact Heap.get?_push_size _ rfl
  have h3 : s3.heap = s2.heap.push { cls := .type "list", data := .seq ([] : List Value).toArray } := by rw [← hs3]
  have sz : ∀ b ∈ fp, b < s2.heap.objs.size := fun b hb => by
    obtain ⟨o, e, _⟩ := T.obj _ _ st2 b hb
    exact Heap.lt_size e
  have f3 : ∀ b ∈ fp, FpOk X pins (upd H2 D (.lst [])) b ∧ b < s3.heap.objs.size := fun b hb => by
    have hlt := sz b hb
    refine ⟨⟨?_, (f2 b hb).2⟩, by rw [h3, Heap.size_push]; exact Nat.lt_succ_of_lt hlt⟩
    rw [upd_ne (by rw [← hD]; exact Nat.ne_of_lt hlt)]
    exact (f2 b hb).1
  have st3 : tn 0 s3.heap := T.keep _ _ _ st2 fun b _ o e => by rw [h3]; exact Heap.get?_push_of_some _ e
  have I4 := block_start I3 ok hN f3
  have pg := hg s3 (upd H2 D (.lst [])) s3.heap.objs.size (cellsFrom (s3.heap.objs.size + 1) scope.names (cloFrom X.env.cells scope.names [])) fp
  have pt := ht s3 (upd H2 D (.lst [])) s3.heap.objs.size (cellsFrom (s3.heap.objs.size + 1) scope.names (cloFrom X.env.cells scope.names [])) fp
  have pe := he s3 (upd H2 D (.lst [])) s3.heap.objs.size (cellsFrom (s3.heap.objs.size + 1) scope.names (cloFrom X.env.cells scope.names [])) fp
  show codeAny _ _ (.compStart (.ListComp elt [⟨tg, iter, ifs, 0⟩] scope pos) 0 (.ref it) (.ref D) (compEnvC scope (cellsFrom (s3.heap.objs.size + 1) scope.names (cloFrom X.env.cells scope.names [])) s3.heap.objs.size X.env)) (compPost (model X.prog X.w) X.A X.xe use Qf (.ref D) s3.heap.objs.size) { s3 with heap := pushCells (s3.heap.push { cls := .type "dict", data := .dict #[] }) scope.names }
  have nfp : ∀ b ∈ fp, (upd H2 D (.lst [])) b = none := fun b hb => (f3 b hb).1.1
  generalize hce : compEnvC scope (cellsFrom (s3.heap.objs.size + 1) scope.names (cloFrom X.env.cells scope.names [])) s3.heap.objs.size X.env = ce at I4 pg pt pe ⊢
  have cL : ce.locals = s3.heap.objs.size := by subst hce; rfl
  generalize hH3 : upd H2 D (.lst []) = H3 at I3 I4 pg pt pe w0 nfp f3
  generalize hs4 : ({ s3 with heap := pushCells (s3.heap.push { cls := .type "dict", data := .dict #[] }) scope.names } : Shared) = s4 at I4 ⊢
  have st4 : tn 0 s4.heap := T.keep _ _ _ st3 fun b _ o e => by rw [← hs4]; exact pushCells_keeps _ _ _ _ (Heap.get?_push_of_some _ e)
  have stat : ∀ {σ' : St} {H' : Hp} {s' : Shared}, Inv (X.blk s3 H3 scope ce fp) [] σ' H' s' → (∀ b ∈ fp, H' b = none) → ∀ b ∈ fp, FpOk (X.blk s3 H3 scope ce fp) [] H' b := fun {σ' H' s'} I' hn b hb =>
    ⟨hn b hb, (I'.ok.exf b hb).1, I'.ok.exfs b hb, .inl hb, fun x c e => (I'.ok.exf b hb).2 x c e, fun p hp => absurd (show p ∈ ([] : List (Addr × Obj)) ++ [] from hp) (by simp)⟩
  have loop : codeAny (model X.prog X.w) X.A (.compLoop (.ListComp elt [⟨tg, iter, ifs, 0⟩] scope pos) 0 (.ref it) (.ref D) ce) (compPost (model X.prog X.w) X.A X.xe use Qf (.ref D) s3.heap.objs.size) s4 := by
    refine compLoop_any (fun n s' => ∃ i H', Inv (X.blk s3 H3 scope ce fp) [] (wipe σ (own.map (·.2))) H' s' ∧ tn i s'.heap ∧ (∀ b ∈ fp, H' b = none) ∧ W i n H') ?_ m0 ⟨0, H3, I4, st4, nfp, w0⟩
    rintro n s5 ⟨i, H5, I5, st5, n5, w5⟩
    rcases turn i n H5 w5 with ⟨stop, qq⟩ | ⟨go, Nx, hNx, step⟩
    · have td := T.done (X.blk s3 H3 scope ce fp) rfl rfl rfl hc i [] s5 _ H5 (fun _ _ => False) I5 (stat I5 n5) st5 stop
      refine thnF td fun r s6 ⟨hr, I6⟩ => ?_
      subst hr
      -- back in the def's context
      have I7 : Inv X pins σ H5 s6 := I3.call' (ch := fp) I6.os I6.base I6.hok I6.bare fun b hb => ⟨(f3 b hb).1.2.2.2.1, (f3 b hb).1.2.1, (f3 b hb).1.2.2.2.2.1, (f3 b hb).1.2.2.2.2.2⟩
      have nC : H5 s3.heap.objs.size = none := by
        have z : H5 ce.locals = none := I6.free
        rw [cL] at z
        exact z
      obtain ⟨m, hn, _⟩ := I6.loc
      have hn : s6.heap.Ns ce.locals m := hn
      rw [cL] at hn
      exact hRR D s3.heap.objs.size s6 m H5 I7 qq hn (I3.fpOk (Nat.le_refl _) nC)
    · have ti := T.item (X.blk s3 H3 scope ce fp) rfl rfl rfl hc i [] s5 _ H5 (fun _ _ => False) I5 (stat I5 n5) st5 go
      refine thnF ti fun r s6 ⟨u, hr, h6⟩ => ?_
      subst hr
      refine thnF h6 fun _ s7 ⟨x, H7, I7, r7, y7, st7, n7⟩ => ?_
      have I7' := I7.pinned (stat I7 n7) (T.obj _ _ st7)
      refine thnF (pg _ s7 _ H7 x u _ I7' r7 (step x H7 y7)) fun _ s8 ⟨σ8, H8, I8, hw8, q8⟩ => ?_
      refine thnF (pt _ s8 σ8 H8 _ I8 q8) fun b s9 ⟨H9, I9, q9⟩ => ?_
      -- the turn's end
      have fin : ∀ {s' : Shared} {H' : Hp}, Inv (X.blk s3 H3 scope ce fp) ([] ++ pinsAt fp s7.heap) σ8 H' s' → Nx H' → ∃ m, m < n ∧ ∃ i H', Inv (X.blk s3 H3 scope ce fp) [] (wipe σ (own.map (·.2))) H' s' ∧ tn i s'.heap ∧ (∀ b ∈ fp, H' b = none) ∧ W i m H' := fun {s' H'} I' nx => by
        obtain ⟨m', hm, w'⟩ := hNx H' nx
        have pin' : ∀ b ∈ fp, ∀ o, s7.heap.get? b = some o → s'.heap.get? b = some o ∧ H' b = none := fun b hb o e =>
          let z := I'.pin (b, o) (List.mem_append_right _ (List.mem_append_right _ (mem_pinsAt hb e)))
          ⟨z.1, z.2.1⟩
        have hl : (wipe σ (own.map (·.2))).length = σ8.length := by rw [← hw8, wipe_length]
        refine ⟨m', hm, i + 1, H', (I'.unpinned (pins := [])).weak hl (fun j v e => ?_), T.keep _ _ _ st7 fun b hb o e => (pin' b hb o e).1, fun b hb => ?_, w'⟩
        · rw [← hw8] at e
          exact (wipe_some e).1
        · obtain ⟨o, e, _⟩ := T.obj _ _ st7 b hb
          exact (pin' b hb o e).2
      cases b with
      | false =>
        simp only [Bool.false_eq_true, if_false] at q9 ⊢
        exact fin I9 q9
      | true =>
        simp only [if_true] at q9 ⊢
        refine thnF (pe _ s9 σ8 H9 _ I9 q9) fun z s10 ⟨yv, H10, I10, r10, acc, hD10, hz10, nx⟩ => ?_
        exact app_ok (X := X.blk s3 H3 scope ce fp) I10 hD10 hz10 r10 fun s11 I11 => fin I11 nx
  exact codeAny_compStart_list loop (T.self X.A 0 _ _ _ st4 loop)
theorem pe_lc {elt tg iter : Expr} {ifs : List Expr} {scope : Scope} {own : List (Str × Nat)} {pos : Pos} {wi : TI} {g : TG} {tt : TT} {te : TE} (hc : X.calm = true) (hN : X.N.Nodup) (hi : PI X tg iter wi) (ok : BlkOk X.N X.env.scope scope own)
    (hg : ∀ (s : Shared) (H : Hp) (C : Addr) (cl : List (Str × Addr)) (fp : List Addr), PG (X.blk s H scope (compEnvC scope cl C X.env) fp) tg g) (ht : ∀ (s : Shared) (H : Hp) (C : Addr) (cl : List (Str × Addr)) (fp : List Addr), PTs (X.blk s H scope (compEnvC scope cl C X.env) fp) ifs tt)
    (he : ∀ (s : Shared) (H : Hp) (C : Addr) (cl : List (Str × Addr)) (fp : List Addr), PE (X.blk s H scope (compEnvC scope cl C X.env) fp) elt te) (hs : ∀ x, foldedSetIterable iter X.env x = pure x := by intro _; rfl) :
    PE X (.ListComp elt [⟨tg, iter, ifs, 0⟩] scope pos) (tLc wi g tt te (own.map (·.2))) := by
  intro pins s σ H Q I h
  rw [eval_ListComp]
  refine lc_core hc hN I hi ok hg ht he hs h fun D C s' m H' I' q hn f => ⟨m, hn, fun h'' sb => ?_⟩
  obtain ⟨f0, f1, f2, f3, f4, f5⟩ := f
  exact ⟨.ref D, H', I'.turned (t' := s'.toks) (fun b o hb e => (sb.2 b hb).trans e) f0 f1 f3 f4 f5, rfl, q⟩
end

theorem lc_list {K : PySem.W.Frag} {a : Addr} {xs : List V} {g : TG} {tt : TT} {te : TE} {vs : List Nat} {σ : St} {H1 : Hp} {D : Addr} {Qd : Hp → Prop} (Pv : Nat → Hp → Prop) (h0 : Pv 0 (upd H1 D (.lst []))) (hl : ∀ i H, i ≤ xs.length → Pv i H → SqL K H a xs)
    (hs : ∀ i x H, xs[i]? = some x → Pv i H → g x (wipe σ vs) H fun σ2 H2 => wipe σ2 vs = wipe σ vs ∧ tt σ2 H2 fun b H3 =>
      if b = true then te σ2 H3 fun y H4 => ∃ acc, H4 D = some (.lst acc) ∧ acc.length < sizeLine ∧ Pv (i + 1) (upd H4 D (.lst (acc ++ [y]))) else Pv (i + 1) H3) (hd : ∀ H, Pv xs.length H → Qd H) :
    ∃ W : Nat → Nat → Hp → Prop, (∃ m, W 0 m (upd H1 D (.lst []))) ∧ ∀ i m H, W i m H →
      ((Itl K a).stop i H ∧ Qd H) ∨ ((Itl K a).go i H ∧ ∃ Nx : Hp → Prop, (∀ H', Nx H' → ∃ m', m' < m ∧ W (i + 1) m' H') ∧ ∀ x H', (Itl K a).yld i H x H' → g x (wipe σ vs) H' fun σ2 H2 => wipe σ2 vs = wipe σ vs ∧ tt σ2 H2 fun b H3 =>
        if b = true then te σ2 H3 fun y H4 => ∃ acc, H4 D = some (.lst acc) ∧ acc.length < sizeLine ∧ Nx (upd H4 D (.lst (acc ++ [y]))) else Nx H3) := by
  refine ⟨fun i m H => m = xs.length - i ∧ i ≤ xs.length ∧ Pv i H, ⟨xs.length, by simp, Nat.zero_le _, h0⟩, ?_⟩
  rintro i m H ⟨rfl, hi, p⟩
  have q := hl i H hi p
  by_cases hlt : i < xs.length
  · refine .inr ⟨⟨xs, xs[i], q, by simp [hlt]⟩, Pv (i + 1), fun H' p' => ⟨xs.length - (i + 1), by omega, rfl, hlt, p'⟩, fun x H' y => ?_⟩
    obtain ⟨e, y⟩ := y
    subst e
    exact hs i x _ (y xs q) p
  · have e : i = xs.length := by omega
    subst e
    exact .inl ⟨⟨xs, q, Nat.le_refl _⟩, hd H p⟩
def blkC (N : List Str) (sc scope : Scope) (own : List (Str × Nat)) : Bool :=
  (match scope.kind with | .function => true | _ => false) && (scope.names.all fun y => decide (scope.names.lookup y.1 = some y.2)) && (own.all fun p => decide (N[p.2]? = some p.1)) &&
    (scope.names.all fun y => match y.2 with
      | .free => (match sc.names.lookup y.1 with | some .cell => true | some .free => true | _ => false)
      | .local => decide (y.1 ∈ own.map (·.1)) || decide (y.1 ∉ N)
      | .cell => decide (y.1 ∈ own.map (·.1)) || decide (y.1 ∉ N)
      | _ => true)
theorem blkOk_by {N : List Str} {sc scope : Scope} {own : List (Str × Nat)} (h : blkC N sc scope own = true) : BlkOk N sc scope own := by
  unfold blkC at h
  simp only [Bool.and_eq_true, List.all_eq_true, decide_eq_true_eq] at h
  obtain ⟨⟨⟨h1, h2⟩, h3⟩, h4⟩ := h
  refine ⟨?_, h2, h3, fun y hy e => ?_, fun y hy e => ?_⟩
  · split at h1
    · assumption
    · cases h1
  · have q := h4 y hy
    simp only [e] at q
    split at q <;> first | exact .inl (by assumption) | exact .inr (by assumption) | cases q
  · have q := h4 y hy
    rcases e with e | e <;> (simp only [e, Bool.or_eq_true, decide_eq_true_eq] at q; exact q)
end L2

namespace L2
open PySem PySem.Spec PyProof.Rows

section
variable {κ : Type} [DecidableEq κ]
def valV (kvs : List (κ × V)) (k : κ) : Option V := (kvs.find? fun kv => decide (kv.1 = k)).map (·.2)
def putK (kvs : List (κ × V)) (k : κ) (v : V) : List (κ × V) :=
  if (kvs.any fun kv => decide (kv.1 = k)) = true then kvs.map (fun kv => if kv.1 = k then (kv.1, v) else kv) else kvs ++ [(k, v)]
theorem valV_pos {p : κ × V} {r : List (κ × V)} {k : κ} (e : p.1 = k) : valV (p :: r) k = some p.2 := by simp [valV, List.find?_cons, e]
theorem valV_neg {p : κ × V} {r : List (κ × V)} {k : κ} (e : ¬ p.1 = k) : valV (p :: r) k = valV r k := by simp [valV, List.find?_cons, e]
theorem valV_any (k : κ) : ∀ kvs : List (κ × V), (kvs.any fun kv => decide (kv.1 = k)) = (valV kvs k).isSome
  | [] => rfl
  | p :: r => by
    rw [List.any_cons]
    by_cases e : p.1 = k
    · simp only [valV_pos e, decide_eq_true e, Bool.true_or, Option.isSome_some]
    · rw [valV_neg e, decide_eq_false e, Bool.false_or]; exact valV_any k r
theorem length_putK (kvs : List (κ × V)) (k : κ) (v : V) : (putK kvs k v).length ≤ kvs.length + 1 := by
  unfold putK
  split
  · rw [List.length_map]; omega
  · rw [List.length_append, List.length_cons, List.length_nil]; omega
theorem RelO.isSome_eq {o : Option V} {u : Option Value} (r : RelO o u) : o.isSome = u.isSome := by
  cases o with
  | none => cases u with
    | none => rfl
    | some _ => exact (show False from r).elim
  | some _ => cases u with
    | none => exact (show False from r).elim
    | some _ => rfl
theorem KV.val {kvs : List (κ × V)} {vs : List (κ × Value)} (r : KV kvs vs) (k : κ) : RelO (valV kvs k) (valueAt vs k) := by
  unfold KV at r
  induction r with
  | nil => exact True.intro
  | @cons p q ps qs h t ih =>
    obtain ⟨h1, h2⟩ := h
    by_cases e : p.1 = k
    · have e' : q.1 = k := h1.symm.trans e
      have b : valueAt (q :: qs) k = some q.2 := by simp [valueAt, List.find?_cons, e']
      rw [valV_pos e, b]; exact h2
    · have e' : ¬ q.1 = k := fun z => e (h1.trans z)
      have b : valueAt (q :: qs) k = valueAt qs k := by simp [valueAt, List.find?_cons, e']
      rw [valV_neg e, b]; exact ih
theorem KV.any {kvs : List (κ × V)} {vs : List (κ × Value)} (r : KV kvs vs) (k : κ) : (kvs.any fun kv => decide (kv.1 = k)) = vs.any fun kv => decide (kv.1 = k) := by
  unfold KV at r
  induction r with
  | nil => rfl
  | cons h t ih => rw [List.any_cons, List.any_cons, ih, h.1]
theorem KV.repl {kvs : List (κ × V)} {vs : List (κ × Value)} (r : KV kvs vs) (k : κ) {y : V} {u : Value} (ry : RelV y u) :
    KV (kvs.map fun kv => if kv.1 = k then (kv.1, y) else kv) (vs.map fun kv => if kv.1 = k then (kv.1, u) else kv) := by
  unfold KV at r ⊢
  induction r with
  | nil => exact .nil
  | @cons p q ps qs h t ih =>
    rw [List.map_cons, List.map_cons]
    refine .cons ?_ ih
    obtain ⟨h1, h2⟩ := h
    by_cases e : p.1 = k
    · rw [if_pos e, if_pos (h1.symm.trans e)]; exact ⟨h1, ry⟩
    · rw [if_neg e, if_neg (fun z => e (h1.trans z))]; exact ⟨h1, h2⟩
theorem KV.put {kvs : List (κ × V)} {vs : List (κ × Value)} (r : KV kvs vs) (k : κ) {y : V} {u : Value} (ry : RelV y u) : KV (putK kvs k y) (stored vs k u) := by
  unfold putK stored
  rw [r.any k]
  by_cases e : (vs.any fun kv => decide (kv.1 = k)) = true
  · rw [if_pos e, if_pos e]; exact r.repl k ry
  · rw [if_neg e, if_neg e]; exact Paired.snoc r ⟨rfl, ry⟩
theorem KV.length {kvs : List (κ × V)} {vs : List (κ × Value)} (r : KV kvs vs) : kvs.length = vs.length := Paired.length r
end


theorem kV_is {P : Program} {w : World} {k : Key} {u : Value} (r : RelV (kV k) u) : (mixKind P w).is k u = true := by
  cases k with
  | inl i => obtain ⟨t, e⟩ := (show ∃ t, u = Value.int i t from r); subst e; exact mixKind_int P w i t
  | inr x => obtain ⟨t, e⟩ := (show ∃ t, u = Value.str x t from r); subst e; exact mixKind_str P w x t
theorem items_are {P : Program} {w : World} : ∀ {ks : List Key} {us : List Value}, Vals (ks.map kV) us → ItemsAre (mixKind P w) ks us
  | [], _, r => by rw [List.map_nil] at r; cases r; exact .nil
  | k :: ks, _, r => by
    rw [List.map_cons] at r
    cases r with
    | cons h t => exact .cons (kV_is h) (items_are t)
abbrev KT (H : Hp) : List (List Key × V) → List (List Key × Addr × Value) → Prop := Paired fun p q => p.1 = q.1 ∧ H q.2.1 = some (.tup (p.1.map kV)) ∧ RelV p.2 q.2.2
theorem KT.val {H : Hp} {kvs : List (List Key × V)} {xs : List (List Key × Addr × Value)} (r : KT H kvs xs) (k : List Key) : RelO (valV kvs k) ((atKey xs k).map (·.2)) := by
  induction r with
  | nil => exact True.intro
  | @cons p q ps qs h t ih =>
    obtain ⟨h1, _, h2⟩ := h
    by_cases e : p.1 = k
    · have e' : q.1 = k := h1.symm.trans e
      have b : atKey (q :: qs) k = some q.2 := by simp [atKey, List.find?_cons, e']
      rw [valV_pos e, b]; exact h2
    · have e' : ¬ q.1 = k := fun z => e (h1.trans z)
      have b : atKey (q :: qs) k = atKey qs k := by simp [atKey, List.find?_cons, e']
      rw [valV_neg e, b]; exact ih
theorem KT.repl {H : Hp} {kvs : List (List Key × V)} {xs : List (List Key × Addr × Value)} (r : KT H kvs xs) (k : List Key) {y : V} {u : Value} (ry : RelV y u) :
    KT H (kvs.map fun kv => if kv.1 = k then (kv.1, y) else kv) (xs.map (putAt k u)) := by
  induction r with
  | nil => exact .nil
  | @cons p q ps qs h t ih =>
    rw [List.map_cons, List.map_cons]
    refine .cons ?_ ih
    obtain ⟨h1, h2, h3⟩ := h
    unfold putAt
    by_cases e : p.1 = k
    · rw [if_pos e, if_pos (h1.symm.trans e)]; exact ⟨h1, h2, ry⟩
    · rw [if_neg e, if_neg (fun z => e (h1.trans z))]; exact ⟨h1, h2, h3⟩
theorem KT.put {H : Hp} {kvs : List (List Key × V)} {xs : List (List Key × Addr × Value)} (r : KT H kvs xs) (k : List Key) {b : Addr} {y : V} {u : Value} (hb : H b = some (.tup (k.map kV))) (ry : RelV y u) :
    KT H (putK kvs k y) (storedH xs k b u) := by
  have e : (kvs.any fun kv => decide (kv.1 = k)) = (atKey xs k).isSome := by
    rw [valV_any, (r.val k).isSome_eq, Option.isSome_map]
  unfold putK storedH
  rw [e]
  by_cases q : (atKey xs k).isSome = true
  · rw [if_pos q, if_pos q]; exact r.repl k ry
  · rw [if_neg q, if_neg q]; exact Paired.snoc r ⟨rfl, hb, ry⟩
theorem KT.keeps {H H' : Hp} {kvs : List (List Key × V)} {xs : List (List Key × Addr × Value)} (r : KT H kvs xs) (ht : ∀ b ys, H b = some (.tup ys) → H' b = some (.tup ys)) : KT H' kvs xs :=
  Paired.mapP r fun _ _ z => ⟨z.1, ht _ _ z.2.1, z.2.2⟩
section
variable {P : Program} {w : World} {H : Hp} {h : Heap} {a : Addr}
theorem rd_of {u : HO} (ok : HOk P w H h) (e : Rd H a u) : ObjOk P w H h a u := e.ok ok
theorem dk_rd {kvs : List (Key × V)} (ok : HOk P w H h) (e : Rd H a (.dK kvs)) : kvs.length ≤ sizeLine ∧ (a == sysModules) = false ∧ ∃ vs, KV kvs vs ∧ h.DictOf (mixKind P w) a vs :=
  show ObjOk P w H h a (.dK kvs) from rd_of ok e
theorem dk_of {kvs : List (Key × V)} (ok : HOk P w H h) (e : H a = some (.dK kvs)) : kvs.length ≤ sizeLine ∧ (a == sysModules) = false ∧ ∃ vs, KV kvs vs ∧ h.DictOf (mixKind P w) a vs := dk_rd ok (.inl e)
theorem key_of {ks : List Key} (ok : HOk P w H h) (e : H a = some (.tup (ks.map kV))) : (tupleKind (mixKind P w)).is h ks a := by
  obtain ⟨_, its, r, ⟨o, h1, h2, n, h3⟩, _⟩ := (show ObjOk P w H h a (.tup (ks.map kV)) from ok a _ e)
  exact ⟨o, its.toArray, n, h1, h2, h3, by simpa using items_are r⟩
theorem dt_rd {kvs : List (List Key × V)} (ok : HOk P w H h) (e : Rd H a (.dT kvs)) : kvs.length ≤ sizeLine ∧ (a == sysModules) = false ∧
    ∃ xs, KT H kvs xs ∧ h.DictOfH (tupleKind (mixKind P w)) a xs := by
  obtain ⟨z, y, xs, r, o, es, ep, h1, h2, h3, h4, h5⟩ := (show ObjOk P w H h a (.dT kvs) from rd_of ok e)
  refine ⟨z, y, xs, r, o, es, ep, h1, h2, h3, h4, fun x hx => ?_, h5⟩
  have all : ∀ {l : List (List Key × V)} {m : List (List Key × Addr × Value)}, KT H l m → ∀ x ∈ m, (tupleKind (mixKind P w)).is h x.1 x.2.1 := by
    intro l m q
    induction q with
    | nil => intro x hx; exact nomatch hx
    | @cons p q ps qs hq t ih =>
      intro x hx
      rcases List.mem_cons.mp hx with e | hx
      · subst e
        exact key_of ok (by rw [← hq.1]; exact hq.2.1)
      · exact ih x hx
  exact all r x hx
theorem dt_of {kvs : List (List Key × V)} (ok : HOk P w H h) (e : H a = some (.dT kvs)) : kvs.length ≤ sizeLine ∧ (a == sysModules) = false ∧
    ∃ xs, KT H kvs xs ∧ h.DictOfH (tupleKind (mixKind P w)) a xs := dt_rd ok (.inl e)
end

def DGet (H : Hp) (a : Addr) (y : V) (r : Option V) : Prop :=
  (∃ kvs k, Rd H a (.dK kvs) ∧ y = kV k ∧ r = valV kvs k) ∨ ∃ kvs k b, Rd H a (.dT kvs) ∧ y = .ref b ∧ H b = some (.tup (k.map kV)) ∧ r = valV kvs k
def DPut (H : Hp) (a : Addr) (y v : V) (H' : Hp) : Prop :=
  (∃ kvs k, H a = some (.dK kvs) ∧ y = kV k ∧ kvs.length < sizeLine ∧ H' = upd H a (.dK (putK kvs k v))) ∨
  ∃ kvs k b, H a = some (.dT kvs) ∧ y = .ref b ∧ H b = some (.tup (k.map kV)) ∧ kvs.length < sizeLine ∧ H' = upd H a (.dT (putK kvs k v))
theorem DGet.k {H : Hp} {a : Addr} {kvs : List (Key × V)} {k : Key} (e : H a = some (.dK kvs)) : DGet H a (kV k) (valV kvs k) := .inl ⟨kvs, k, .inl e, rfl, rfl⟩
theorem DGet.t {H : Hp} {a b : Addr} {kvs : List (List Key × V)} {k : List Key} (e : H a = some (.dT kvs)) (eb : H b = some (.tup (k.map kV))) : DGet H a (.ref b) (valV kvs k) := .inr ⟨kvs, k, b, .inl e, rfl, eb, rfl⟩
theorem DPut.k {H : Hp} {a : Addr} {kvs : List (Key × V)} {k : Key} {v : V} (e : H a = some (.dK kvs)) (hl : kvs.length < sizeLine) : DPut H a (kV k) v (upd H a (.dK (putK kvs k v))) := .inl ⟨kvs, k, e, rfl, hl, rfl⟩
theorem DPut.t {H : Hp} {a b : Addr} {kvs : List (List Key × V)} {k : List Key} {v : V} (e : H a = some (.dT kvs)) (eb : H b = some (.tup (k.map kV))) (hl : kvs.length < sizeLine) :
    DPut H a (.ref b) v (upd H a (.dT (putK kvs k v))) := .inr ⟨kvs, k, b, e, rfl, eb, hl, rfl⟩
section
variable {X : Cx} {pins : List (Addr × Obj)} {σ : St} {H : Hp} {s : Shared} {a : Addr} {y v : V} {u r : Value} {o : Option V} {A : Around} {E : Value → Shared → Prop}

theorem Inv.big (I : Inv X pins σ H s) : sysModules < s.heap.objs.size := by
  have h : mainGlobals < s.heap.objs.size := (I.mod.glob.keeps I.bk).lt
  exact Nat.lt_trans (by decide) h
theorem d_getItem {Q : Value → Shared → Prop} (hu : A.units + 1 < cLine) (I : Inv X pins σ H s) (g : DGet H a y (some v)) (ry : RelV y u) (h : ∀ w' s', Inv X pins σ H s' → RelV v w' → Q w' s') :
    wpAny (model X.prog X.w) A (getItem (.ref a) u) Q E s := by
  rcases g with ⟨kvs, k, e, ey, l⟩ | ⟨kvs, k, b, e, ey, eb, l⟩
  · subst ey
    obtain ⟨z, hd, vs, rel, dd⟩ := dk_rd I.hok e
    obtain ⟨w', hw, rw'⟩ := RelO.some_of (v := v) (o := valueAt vs k) (by rw [l]; exact rel.val k)
    exact wpAny_getItem_of (kV_is ry) dd.mapOf hw (h w' _ (I.tok _) rw')
  · subst ey
    cases (show u = Value.ref b from ry)
    obtain ⟨z, hd, xs, rel, dd⟩ := dt_rd I.hok e
    obtain ⟨w', hw, rw'⟩ := RelO.some_of (v := v) (o := (atKey xs k).map (·.2)) (by rw [l]; exact rel.val k)
    obtain ⟨p, hp, hp2⟩ := Option.map_eq_some_iff.mp hw
    refine wpAny_getItem_heap (tupleKind_room_in1 hu) (key_of I.hok eb) dd hp ?_
    rw [hp2]
    exact h w' _ (I.tok _) rw'
theorem d_write {h' : Heap} {t' : Nat} {ob : HO} (I : Inv X pins σ H s) (mu : Mut (H a)) (hs : Heap.SameBut a s.heap h') (he : ∃ q, h'.get? a = some q) (new : ObjOk X.prog X.w (upd H a ob) h' a ob) :
    Inv X pins σ (upd H a ob) { s with heap := h', toks := t' } :=
  I.write (x := a) (e := a) mu (.inl rfl) (fun b q hb z => (hs.2 b hb).trans z) he new
theorem dk_new {P : Program} {w : World} {H' : Hp} {h' : Heap} {kvs : List (Key × V)} {vs : List (Key × Value)} (z : kvs.length ≤ sizeLine) (hd : (a == sysModules) = false) (rel : KV kvs vs) (dd : h'.DictOf (mixKind P w) a vs) :
    ObjOk P w H' h' a (.dK kvs) := ⟨z, hd, vs, rel, dd⟩
theorem d_setItem {H' : Hp} {Q : Unit → Shared → Prop} (hu : A.units + 1 < cLine) (I : Inv X pins σ H s) (g : DPut H a y v H') (ry : RelV y u) (rv : RelV v r) (h : ∀ s', Inv X pins σ H' s' → Q () s') :
    wpAny (model X.prog X.w) A (setItem (.ref a) u r) Q E s := by
  rcases g with ⟨kvs, k, e, ey, l, eH⟩ | ⟨kvs, k, b, e, ey, eb, l, eH⟩
  · subst ey eH
    obtain ⟨z, hd, vs, rel, dd⟩ := dk_of I.hok e
    have hz : vs.length ≤ sizeLine := by rw [← rel.length]; exact z
    have hl : (putK kvs k v).length ≤ sizeLine := by have := length_putK kvs k v; omega
    refine wpAny_setItem_pairs (hsz := hz) (kV_is ry) dd fun h' dd' hs => h _ ?_
    have he : ∃ q, h'.get? a = some q := let ⟨q, _, _, hq, _⟩ := dd'; ⟨q, hq⟩
    exact d_write I (by rw [e]; exact True.intro) hs he (dk_new hl hd (rel.put k rv) dd')
  · subst ey eH
    cases (show u = Value.ref b from ry)
    obtain ⟨z, hd, xs, rel, dd⟩ := dt_of I.hok e
    have hz : xs.length ≤ sizeLine := by rw [← Paired.length rel]; exact z
    have hl : (putK kvs k v).length ≤ sizeLine := by have := length_putK kvs k v; omega
    refine wpAny_setItem_heap (hsz := hz) (tupleKind_room_in1 hu) (key_of I.hok eb) dd fun h' dd' hs => h _ ?_
    obtain ⟨q, es, ep, hq, h2, h3, h4, _, h5⟩ := dd'
    refine d_write I (by rw [e]; exact True.intro) hs ⟨q, hq⟩ ⟨hl, hd, _, (rel.put k eb rv).keeps fun c ys ec => ?_, q, es, ep, hq, h2, h3, h4, h5⟩
    rw [upd_ne (ne_of ec e (fun z => nomatch z))]
    exact ec
end

def NoSl (i : Expr) : Prop := ∀ ov iv, subscripted i false ov iv = operate [ov, iv] (getItem ov iv)
theorem subD_of {prog : Program} {w : World} {A : Around} {E : Value → Shared → Prop} {s : Shared} {env : Env} {value slice : Expr} {pos : Pos} {T id : String} {Q : Value → Shared → Prop}
    (hl : typeLookup (.type T) "__getitem__" = pure (some (.builtin id))) (hs : NoSl slice)
    (h : wpAny (model prog w) A (eval value env) (fun o s₁ => wpAny (model prog w) A (eval slice env) (fun i s₂ => s₂.TypeIs o T ∧ wpAny (model prog w) A (getItem o i) Q E s₂) E s₁) E s) :
    wpAny (model prog w) A (eval (.Subscript value slice pos) env) Q E s := by
  refine Subscript_ (wpAny_mono h (fun o s₁ h₁ => wpAny_mono h₁ (fun i s₂ h₂ => ?_) fun _ _ x => x) fun _ _ x => x)
  obtain ⟨hT, h₂⟩ := h₂
  unfold subscriptTail
  refine wpAny_bind ?_
  rw [getitemInPython_of_ne hT.not_modules]
  refine wpAny_bind (wpAny_specialOf hT hl ?_)
  have fin : wpAny (model prog w) A (subscripted slice false o i) (fun r s₃ => wpAny (model prog w) A (letTemporaryGo value o r >>= fun _ => pure r) Q E s₃) E s₂ := by
    rw [hs o i]
    exact wpAny_operating (wpAny_mono h₂ (fun r s₃ h₃ => wpAny_bind (wpAny_letTemporaryGo (wpAny_pure h₃))) fun _ _ x => x)
  first
    | exact wpAny_pure (wpAny_bind fin)
    | exact wpAny_bind (wpAny_pure (wpAny_bind fin))
    | exact wpAny_bind fin
theorem dict_typeIs {X : Cx} {pins : List (Addr × Obj)} {σ : St} {H : Hp} {s : Shared} {a : Addr} {y : V} {o : Option V} (I : Inv X pins σ H s) (g : DGet H a y o) : s.TypeIs (.ref a) "dict" := by
  rcases g with ⟨kvs, k, e, _, _⟩ | ⟨kvs, k, b, e, _, _, _⟩
  · obtain ⟨_, _, vs, _, dd⟩ := dk_rd I.hok e
    exact dd.typeIs
  · obtain ⟨_, _, xs, _, dd⟩ := dt_rd I.hok e
    exact dd.typeIs
def tDGet (td ty : TE) : TE := fun σ H Q => td σ H fun x H1 => ty σ H1 fun y H2 => ∃ a v, x = .ref a ∧ DGet H2 a y (some v) ∧ Q v H2
section
variable {X : Cx} {o i e value : Expr} {pos pos' tpos : Pos} {td ty tv : TE}
theorem pe_dget (hu : X.A.units + 1 < cLine) (ho : PE X o td) (hi : PE X i ty) (hs : NoSl i) : PE X (.Subscript o i pos) (tDGet td ty) := by
  intro pins s σ H Q I h
  refine subD_of PySem.F.slot_dict_getitem.lookup hs (thn (ho pins s σ H _ I h) fun u s1 ⟨x, H1, I1, rx, q1⟩ => thn (hi pins s1 σ H1 _ I1 q1) fun iv s2 ⟨y, H2, I2, ry, a, v, ex, g, q2⟩ => ?_)
  subst ex
  obtain rfl : u = Value.ref a := rx
  exact ⟨dict_typeIs I2 g, d_getItem hu I2 g ry fun w' s3 I3 rw' => ⟨v, H2, I3, rw', q2⟩⟩
end


end L2

namespace L2
open PySem PySem.Spec PyProof.Rows

section
variable {X : Cx} {pins : List (Addr × Obj)} {σ : St} {H : Hp} {s : Shared} {h' : Heap}
theorem Inv.turnedL {t' : Nat} {ch : List Addr} (I : Inv X pins σ H s) (k : ∀ b o, b ∉ ch → s.heap.get? b = some o → h'.get? b = some o) (hf : ∀ b ∈ ch, FpOk X pins H b) : Inv X pins σ H { s with heap := h', toks := t' } := by
  have nit : ∀ b u, H b = some u → b ∉ ch := fun b u e z => by
    have q := (hf b z).1
    rw [q] at e; cases e
  refine I.step (g' := s.gens) (d' := s.drawn) (ch := ch) (fun b hb => ⟨(hf b hb).2.2.2.1, (hf b hb).2.1, (hf b hb).2.2.2.2.1, (hf b hb).2.2.2.2.2⟩) (fun b o _ _ hc e _ => k b o hc e) (fun b o _ _ hc e _ => ⟨o.slots, k b o hc e⟩)
    (fun _ _ _ _ n => n) (fun b o hc e => ⟨o, k b o hc e⟩) (fun _ _ e => e) (fun _ _ _ e => e) (fun b ps e => ⟨#[], by rw [e]; simp⟩) (fun m hm => ?_) (fun b u e => ?_) I.bare
  · obtain ⟨o, es, ep, ho, r⟩ := hm
    exact ⟨o, es, ep, k _ o (fun z => (hf _ z).2.1 rfl) ho, r⟩
  · refine (I.hok b u e).stay (fun c v hc q => k c v ?_ q) (fun _ q => q) fun _ _ q => q
    rcases hc with z | z
    · rw [z]; exact nit b u e
    · exact nit c _ z
theorem Inv.turnedNew {t' : Nat} {ch : List Addr} {T : Addr} {ob : HO} (I : Inv X pins σ H s) (k : ∀ b o, b ∉ ch → s.heap.get? b = some o → h'.get? b = some o) (hf : ∀ b ∈ ch, FpOk X pins H b) (hT : s.heap.objs.size ≤ T)
    (new : ObjOk X.prog X.w (upd H T ob) h' T ob) : Inv X pins σ (upd H T ob) { s with heap := h', toks := t' } := by
  have hn : H T = none := I.hok.fresh hT
  have nit : ∀ b u, H b = some u → b ∉ ch := fun b u e z => by
    have q := (hf b z).1
    rw [q] at e; cases e
  refine I.step (g' := s.gens) (d' := s.drawn) (ch := ch) (fun b hb => ⟨(hf b hb).2.2.2.1, (hf b hb).2.1, (hf b hb).2.2.2.2.1, (hf b hb).2.2.2.2.2⟩) (fun b o _ _ hc e _ => k b o hc e) (fun b o _ _ hc e _ => ⟨o.slots, k b o hc e⟩)
    (fun b o _ e n => ?_) (fun b o hc e => ⟨o, k b o hc e⟩) (fun b xs e => ?_) (fun b o u e => ?_) (fun b ps e => ⟨#[], ?_⟩) (fun m hm => ?_) (fun b u e => ?_) I.bare
  · rw [upd_ne (Nat.ne_of_lt (Nat.lt_of_lt_of_le (Heap.lt_size e) hT))]; exact n
  · rw [upd_ne (ne_of_none e hn)]; exact e
  · rw [upd_ne (ne_of_none e hn)]; exact e
  · rw [upd_ne (ne_of_none e hn), e]; simp
  · obtain ⟨o, es, ep, ho, r⟩ := hm
    exact ⟨o, es, ep, k _ o (fun z => (hf _ z).2.1 rfl) ho, r⟩
  · by_cases hb : b = T
    · subst hb
      rw [upd_same] at e
      cases e
      exact new
    · rw [upd_ne hb] at e
      refine (I.hok b u e).stay (fun c v hc q => k c v ?_ q) (fun c q => by rw [upd_ne (ne_of_none q hn)]; exact q) fun c xs q => by rw [upd_ne (ne_of_none q hn)]; exact q
      rcases hc with z | z
      · rw [z]; exact nit b u e
      · exact nit c _ z
end
def Ite (K : PySem.W.Frag) (a : Addr) : It :=
  ⟨fun i H => ∃ (xs : List V) (x : V), SqL K H a xs ∧ xs[i]? = some x, fun i H v H' => ∃ T x, v = .ref T ∧ H T = none ∧ H' = upd H T (.tup [.int (i : Nat), x]) ∧ ∀ xs, SqL K H a xs → xs[i]? = some x, fun i H => ∃ xs : List V, SqL K H a xs ∧ xs.length ≤ i⟩
theorem turn_enum {P : Program} {w : World} {K : PySem.W.Frag} {elts : List Expr} {kk : Nat} {tpos : Pos} (a e it : Addr) :
    Turn P w K (.Tuple elts kk tpos) (Ite K a) [e, it] e (fun i h => (∃ old, IsEnum h e it ((i : Nat) : Int) old) ∧ h.IsListIter it a i ∧ e ≠ it) where
  mem := by simp
  obj := fun i h st b hb => by
    obtain ⟨⟨old, he⟩, ⟨o, ho, hc, hd⟩, _⟩ := st
    have e' : b = e ∨ b = it := by simpa using hb
    rcases e' with z | z
    · rw [z]; exact ⟨_, he, fun v q => nomatch q⟩
    · rw [z]; exact ⟨o, ho, fun v q => by rw [hd] at q; cases q⟩
  keep := fun i h h' st k => let ⟨⟨old, he⟩, hi, hne⟩ := st; ⟨⟨old, k e (by simp) _ he⟩, hi.at fun o q => k it (by simp) o q, hne⟩
  item := by
    intro X hP hw hK hc i pins s σ H E I hf st hg
    subst hP hw hK
    obtain ⟨⟨old, he⟩, hit, hne⟩ := st
    obtain ⟨xs, x, hq, hx⟩ := hg
    obtain ⟨its, rv, p, hz⟩ := I.list hq
    obtain ⟨u, hu, ru⟩ := rv.get hx
    have hel : e < s.heap.objs.size := Heap.lt_size he
    have hil : it < s.heap.objs.size := by obtain ⟨_, q, _⟩ := hit; exact Heap.lt_size q
    refine wpAny_pyNext_enum_item he hit p.isList (x := u) (by simpa using hu) hne fun h' ho hit' hT hsz hk => ?_
    refine ⟨_, rfl, wpAny_letOwnedTupleGo_enum (s := { s with heap := h', toks := s.toks + 1 }) ho fun h'' he' sb => ?_⟩
    have hT2 : h''.get? s.heap.objs.size = some { cls := .type "tuple", data := .seq #[.int i s.toks, u] } := (sb.2 _ (Nat.ne_of_gt hel)).trans hT
    have new : ObjOk X.prog X.w (upd H s.heap.objs.size (.tup [.int (i : Nat), x])) h'' s.heap.objs.size (.tup [.int (i : Nat), x]) :=
      ⟨by show 2 ≤ sizeLine; decide, [.int i s.toks, u], .cons ⟨_, rfl⟩ (.cons ru .nil), ⟨⟨_, hT2, rfl, _, rfl⟩, _, hT2, rfl⟩⟩
    have I1 : Inv X pins σ (upd H s.heap.objs.size (.tup [.int (i : Nat), x])) { s with heap := h'', toks := s.toks + 1 } :=
      I.turnedNew (ch := [e, it]) (fun b ob hb q => (sb.2 b (fun z => hb (by simp [z]))).trans (hk b ob (fun z => hb (by simp [z])) (fun z => hb (by simp [z])) q)) hf (Nat.le_refl _) new
    refine ⟨.ref s.heap.objs.size, _, I1, rfl, ⟨_, x, rfl, I.hok.fresh (Nat.le_refl _), rfl, fun ys hy => by rw [I.list_inj hy hq]; exact hx⟩, ⟨⟨u, ?_⟩, hit'.at fun o q => (sb.2 it (Ne.symm hne)).trans q, hne⟩, fun b hb => ?_⟩
    · have e1 : ((i + 1 : Nat) : Int) = (i : Int) + 1 := by omega
      rw [e1]; exact he'
    · have hb' : b < s.heap.objs.size := by
        have e' : b = e ∨ b = it := by simpa using hb
        rcases e' with z | z
        · rw [z]; exact hel
        · rw [z]; exact hil
      rw [upd_ne (Nat.ne_of_lt hb')]
      exact (hf b hb).1
  done := by
    intro X hP hw hK hc i pins s σ H E I hf st hg
    subst hP hw hK
    obtain ⟨⟨old, he⟩, hit, hne⟩ := st
    obtain ⟨xs, hq, hx⟩ := hg
    obtain ⟨its, rv, p, hz⟩ := I.list hq
    obtain ⟨f0, f1, f2, f3, f4, f5⟩ := hf it (by simp)
    have hl := rv.length
    exact wpAny_pyNext_enum_end (I.ok.hd hc) he hit p.isList (by simp; omega) fun h' eb => ⟨rfl, I.turned (t' := s.toks) (fun b o hb q => eb b o hb q) f0 f1 f3 f4 f5⟩
  self := fun A i s Q E st h => let ⟨⟨_, he⟩, _⟩ := st; wpAny_pyIter_enum he h
def iEnum (K : PySem.W.Frag) (ta : TA) : TI := fun σ H R => ta σ H fun vs H1 => ∃ a xs, vs = [.ref a] ∧ SqL K H1 a xs ∧ R (Ite K a) H1
theorem pi_enum {X : Cx} {e : Expr} {ta : TA} {p pos tpos : Pos} {elts : List Expr} {kk : Nat} (hg : Gl X "enumerate") (hm : X.mg "enumerate" = none) (ha : PA X [e] ta) (hs : starEach [e] X.env = [(false, eval e X.env)] := by rfl) :
    PI X (.Tuple elts kk tpos) (.Call (.Name "enumerate" p) [e] [] pos) (iEnum X.K ta) := by
  intro pins s σ H R I h
  refine Call_ (ld_blt I hg hm boot_enumerate (PyProof.Rows.callWith_type1 (thn (ha pos pins s σ H _ I h) fun us s1 ⟨vs, H1, I1, r1, q1⟩ => ?_) hs rfl))
  obtain ⟨a, xs, ex, hq, q⟩ := q1
  subst ex
  cases r1 with
  | cons r rr =>
    cases rr
    cases r
    obtain ⟨its, rv, p', hz⟩ := I1.list hq
    refine call_enumerate_list p'.isList fun h' he hit hsz hk => wpAny_pyIter_enum he ?_
    have I2 : Inv X pins σ H1 { s1 with heap := h' } := I1.kept (t' := s1.toks) hk
    refine ⟨s1.heap.objs.size + 1, [s1.heap.objs.size + 1, s1.heap.objs.size], _, _, H1, rfl, I2, turn_enum a (s1.heap.objs.size + 1) s1.heap.objs.size, ⟨⟨.none, he⟩, hit, Nat.succ_ne_self _⟩, fun b hb => ?_, q⟩
    have e' : b = s1.heap.objs.size + 1 ∨ b = s1.heap.objs.size := by simpa using hb
    have hle : s1.heap.objs.size ≤ b := by
      rcases e' with z | z
      · rw [z]; exact Nat.le_add_right _ _
      · rw [z]; exact Nat.le_refl _
    exact I1.fpOk hle (I1.hok.fresh hle)
end L2

section 
namespace TL
open PySem PySem.Builtin PySem.Builtin.Str PySem.StrLaws

abbrev tl (x : Str) : List Nat := x.cps.toList
end TL
end 

namespace L2
open PySem PySem.Spec PyProof.Rows

section
variable {X : Cx}
theorem op_in_sign : OpR X (compareOp .In) (fun x y H Q => ∃ (c : Nat) (z : Str), x = .str ⟨#[c]⟩ ∧ y = .str z ∧ Q (.bl (decide (c ∈ z.cps.toList))) H) := by
  intro pins s σ H x y v u Q I rx ry h
  obtain ⟨c, z, rfl, rfl, q⟩ := h
  obtain ⟨t, rfl⟩ := rx
  obtain ⟨t', rfl⟩ := ry
  exact PyProof.Rows.in_str (fin_bl I q (PySem.StrLaws.found_one z c).symm)
theorem op_notIn_sign : OpR X (compareOp .NotIn) (fun x y H Q => ∃ (c : Nat) (z : Str), x = .str ⟨#[c]⟩ ∧ y = .str z ∧ Q (.bl (!decide (c ∈ z.cps.toList))) H) := by
  intro pins s σ H x y v u Q I rx ry h
  obtain ⟨c, z, rfl, rfl, q⟩ := h
  obtain ⟨t, rfl⟩ := rx
  obtain ⟨t', rfl⟩ := ry
  exact PyProof.Rows.notIn_str (fin_bl I q (congrArg Bool.not (PySem.StrLaws.found_one z c).symm))
end

theorem IsPart.raw {v : Value} {o : Option Int} (p : IsPart v o) : ∃ l : Option (Int × Tok), v = partValue l ∧ l.map (·.1) = o := by
  cases p with
  | none => exact ⟨none, rfl, rfl⟩
  | int i t => exact ⟨some (i, t), rfl, rfl⟩
def clipS (n d : Nat) : Option Int → Int
  | none => (d : Int)
  | some i => max 0 (min (if i < 0 then i + (n : Int) else i) (n : Int))
theorem clipS_eq (n d : Nat) (o : Option Int) : clipS n d o = ((HT.sIx n d o : Nat) : Int) := by
  cases o with
  | none => rfl
  | some v =>
    show max (0 : Int) (min (if v < 0 then v + (n : Int) else v) (n : Int)) = (((if v < 0 then (v + (n : Int)).toNat else min v.toNat n) : Nat) : Int)
    by_cases hv : v < 0
    · simp only [if_pos hv]
      omega
    · simp only [if_neg hv]
      omega
theorem sidx_clip (a b : Option Int) (n : Nat) : Builtin.Str.strSliceIndices a b 1 n = sliceRange (clipS n 0 a) (clipS n n b) 1 := by
  have h1 : ((1 : Int) > 0) = True := by simp
  cases a <;> cases b <;> first
    | rfl
    | (simp only [Builtin.Str.strSliceIndices, clipS, h1, if_true]; rfl)
    | simp [Builtin.Str.strSliceIndices, clipS]
theorem sidx (a b : Option Int) (n : Nat) : Builtin.Str.strSliceIndices a b 1 n = (List.range (HT.sIx n n b - HT.sIx n 0 a)).map (fun k => HT.sIx n 0 a + k) := by
  rw [sidx_clip, clipS_eq, clipS_eq]
  generalize HT.sIx n 0 a = p
  generalize HT.sIx n n b = q
  simp only [sliceRange, show ((1 : Int) > 0) = True from by simp, if_true]
  by_cases hlt : (p : Int) < q
  · have e3 : (((q : Int) - p + 1 - 1) / 1).toNat = q - p := by first | omega | (simp; done) | (simp; omega)
    simp only [hlt, if_true, e3]
    refine List.map_congr_left fun k _ => ?_
    omega
  · have : q - p = 0 := by omega
    simp [hlt, this]
def cutS (z : Str) (lo hi : Option Int) : Str :=
  ⟨((z.cps.toList.drop (HT.sIx z.length 0 lo)).take (HT.sIx z.length z.length hi - HT.sIx z.length 0 lo)).toArray⟩
theorem sliceText_cut (z : Str) (lo hi : Option Int) : PySem.StrLaws.sliceText z lo hi = cutS z lo hi := by
  have h1 : HT.sIx z.length 0 lo ≤ z.length := HT.sIx_le _ _ (Nat.zero_le _) _
  have h2 : HT.sIx z.length z.length hi ≤ z.length := HT.sIx_le _ _ (Nat.le_refl _) _
  have hp : HT.sIx z.length 0 lo ≤ max (HT.sIx z.length 0 lo) (HT.sIx z.length z.length hi) := Nat.le_max_left _ _
  have hq : max (HT.sIx z.length 0 lo) (HT.sIx z.length z.length hi) ≤ z.length := Nat.max_le.mpr ⟨h1, h2⟩
  have hd : max (HT.sIx z.length 0 lo) (HT.sIx z.length z.length hi) - HT.sIx z.length 0 lo = HT.sIx z.length z.length hi - HT.sIx z.length 0 lo := by omega
  have e : Builtin.Str.strSliceIndices lo hi 1 z.length =
      Builtin.Str.strSliceIndices (some ((HT.sIx z.length 0 lo : Nat) : Int)) (some ((max (HT.sIx z.length 0 lo) (HT.sIx z.length z.length hi) : Nat) : Int)) 1 z.length := by
    rw [PySem.StrLaws.strSliceIndices_plain hp hq, hd, sidx]
  have e2 : PySem.StrLaws.sliceText z lo hi =
      PySem.StrLaws.sliceText z (some ((HT.sIx z.length 0 lo : Nat) : Int)) (some ((max (HT.sIx z.length 0 lo) (HT.sIx z.length z.length hi) : Nat) : Int)) := by
    unfold PySem.StrLaws.sliceText
    rw [e]
  rw [e2, PySem.StrLaws.sliceText_nat z hp hq, hd]
  rfl
theorem cutS_length (z : Str) (lo hi : Option Int) : (cutS z lo hi).length ≤ z.length := by
  show (((z.cps.toList.drop (HT.sIx z.length 0 lo)).take (HT.sIx z.length z.length hi - HT.sIx z.length 0 lo)).toArray).size ≤ z.cps.size
  rw [List.size_toArray, List.length_take, List.length_drop, Array.length_toList]
  omega
def rSlS : V → Option Int → Option Int → Hp → VK → Prop := fun x lo hi H Q => ∃ z, x = .str z ∧ z.length ≤ sizeLine ∧ Q (.str (cutS z lo hi)) H
theorem sl_str {X : Cx} : SlR X rSlS := by
  intro pins s σ H x v vl vu lo hi sl Q I rx hs pl pu h
  obtain ⟨z, rfl, hz, q⟩ := h
  obtain ⟨t, rfl⟩ := rx
  obtain ⟨os, hos, hcs, hds⟩ := hs
  obtain ⟨l, rfl, rfl⟩ := IsPart.raw pl
  obtain ⟨u, rfl, rfl⟩ := IsPart.raw pu
  refine ⟨"str", _, F.slot_str_getitem.lookup, typeIs_str _ _ _, ?_⟩
  refine wpAny_getItem_str_slice (l := l) (u := u) (st := none) ⟨os, hos, hcs, hds⟩ rfl ?_
  have hl : (PySem.StrLaws.sliceText z (l.map (·.1)) (u.map (·.1))).length ≤ sizeLine := by
    rw [sliceText_cut]
    exact Nat.le_trans (cutS_length z _ _) hz
  rw [← sliceText_cut] at q
  unfold PySem.StrLaws.sliceText at q hl
  show Made.post (if ((1 : Int) == 1 && (Builtin.Str.strSliceIndices (l.map (·.1)) (u.map (·.1)) 1 z.length).length == z.length) = true then Made.val (.str z t)
    else Made.str ⟨((Builtin.Str.strSliceIndices (l.map (·.1)) (u.map (·.1)) 1 z.length).filterMap (z.cps[·]?)).toArray⟩) (EP X pins σ Q) s
  by_cases c : ((1 : Int) == 1 && (Builtin.Str.strSliceIndices (l.map (·.1)) (u.map (·.1)) 1 z.length).length == z.length) = true
  · rw [if_pos c] at q ⊢
    exact ⟨.str z, H, I, ⟨t, rfl⟩, q⟩
  · rw [if_neg c] at q hl ⊢
    exact ⟨hl, .str _, H, I.tok _, ⟨_, rfl⟩, q⟩
end L2

namespace Att
open PySem PySem.W PySem.Calls PyProof.Rows

theorem ints_of_wellAll {P : Params} {h : Heap} : ∀ (ns : List Int) (vs : List Value), WellAll P h vs (ns.map WData.int) → IntsAre vs ns := by
  intro ns
  induction ns with
  | nil =>
    intro vs w
    rw [List.map_nil] at w
    cases w
    exact .nil
  | cons n ns ih =>
    intro vs w
    rw [List.map_cons] at w
    cases w with
    | cons a b =>
      cases a
      exact .cons _ _ (ih _ b)
theorem script_of {l : OpenLaw} {n : Nat} (hn : l.most = some n) {P : Params} {h : Heap} {args : List WData} {vals : List Value}
    (hpre : l.row.toRowW.claim.pre args = true) (hwl : WellAll P h vals args) :
    ∃ a vs ns, vals = [Value.ref a] ∧ args = [WData.list (ns.map WData.int)] ∧ h.get? a = some { cls := .type "list", data := .seq vs.toArray } ∧ IntsAre vs ns ∧ ns.length ≤ n := by
  have hsh : WShape.hasAll [] args [.list .int] = true := (pre_splitW hpre).1
  have hc : l.pre.holds [] { args := args } = true := (pre_splitW hpre).2
  obtain ⟨d, r, rfl, h1, h2⟩ := hasAllW_cons hsh
  obtain rfl := hasAllW_nil h2
  obtain ⟨xs, rfl, h3⟩ := hasW_list h1
  obtain ⟨ns, rfl⟩ := items_int h3
  have hlen : ns.length ≤ n := by
    unfold OpenLaw.pre at hc
    have h4 : (WTm.not (.lt (.lit (.int (n : Int))) (.len (.arg 0)))).holds [] { args := [.list (ns.map .int)] } = true := by
      have h4 := (holds_andW hc).1
      rw [hn] at h4
      exact h4
    have h5 := condW_of h4 (w_not (w_lt w_lit (w_len_list (w_arg rfl))))
    rw [List.length_map] at h5
    refine Nat.le_of_not_lt fun q => ?_
    have q' : (n : Int) < ((ns.length : Nat) : Int) := by omega
    first
      | (rw [decide_eq_true q'] at h5; exact absurd h5 (by decide))
      | (simp at h5; omega)
  cases hwl with
  | cons w1 w2 =>
    cases w2
    cases w1 with
    | list ho hall => exact ⟨_, _, ns, rfl, rfl, ho, ints_of_wellAll ns _ hall, hlen⟩
theorem post_true (l : OpenLaw) (args : List WData) : l.row.toRowW.claim.post args (.bool true) args = true :=
  postW_of (r := l.row.toRowW) (X := (true == true))
    (show WShape.has [] (.bool true) .bool = true by first | rfl | decide | simp [WShape.has, WShape.arms, WShape.armsAll])
    (show (WTm.eq .res (.lit (.bool true))).value [] { args := args, res := some (.bool true), after := args } = some (.bool (true == true)) from w_eq_bool (w_res rfl) w_lit) rfl
theorem attach_call {l : OpenLaw} {n : Nat} {q : Program} {loose : List Str} {XP : (Str → Option Value) → Heap → Prop} {YP : World → Heap → Prop} {d : DefRec}
    (hn : l.most = some n) (hdf : d.params.defaults = [])
    (call : ∀ (w : World) (s₀ s₁ : Shared) (mg mb : Str → Option Value) (fa : Addr) (o : Obj) (pm cd doc : Value) (a : Addr) (vs : List Value) (ns : List Int),
      Ground q loose [] XP w s₀ mg mb s₁.heap → YP w s₁.heap →
      s₁.heap.get? fa = some o → o.data = .func (docDef d.name d.params d.body d.scope pm cd doc) → s₁.heap.CodeRec cd d.name → mg d.name = some (.ref fa) →
      s₁.heap.get? a = some { cls := .type "list", data := .seq vs.toArray } → IntsAre vs ns → ns.length ≤ n → s₁.gens = #[] →
      codeAny (model l.prog w) callerA (.call (.ref fa) ⟨[.ref a], []⟩) (fun r s' => r = .ok (.ret (.bool true)) ∧ OldK s₁.heap s'.heap ∧ s'.os = s₁.os ∧ AllBare s'.gens) s₁) :
    WalkO q loose XP YP l.row.toRowW d [] (fun f vs => PySem.call f vs) := by
  intro w s₀ s₁ mg mb G Y fa o pm cd doc dV kV ho hd hcd hD hmg hg args vals as hpre hlay hrd hwl hlo
  obtain rfl : dV = .none := Dflts.none hD hdf
  obtain rfl : kV = .none := Dflts.noKw hD
  obtain ⟨a, vs, ns, rfl, rfl, hobj, hints, hlen⟩ := script_of hn hpre hwl
  refine enter_call (codeAny_mono (call w s₀ s₁ mg mb fa o pm cd doc a vs ns G Y ho (fd_plain hd) hcd hmg hobj hints hlen hg) fun r s' hq => ?_)
  obtain ⟨rfl, h2, h3, h4⟩ := hq
  exact ⟨.inl ⟨.bool true, .bool true, [], rfl, fun _ => rfl, .bool true, post_true l _, fun _ => ⟨List.Pairwise.nil, fun _ hm => (nomatch hm)⟩⟩, h2, h3, h4⟩
end Att

namespace L2
open PySem PySem.Spec PyProof.Rows

theorem vals_ints : ∀ {vs : List Value} {ns : List Int}, IntsAre vs ns → Vals (ns.map V.int) vs
  | _, _, .nil => .nil
  | _, _, .cons n t h => .cons ⟨t, rfl⟩ (vals_ints h)
def Only (H : Hp) : Prop := ∀ b, H b = none ∨ ∃ o xs, H b = some (.frz o (.lst xs))
theorem law_call {P : Program} {w : World} {K : PySem.W.Frag} {mg mb : Str → Option Value} {CX : CXT} {k : Nat} {fa a : Addr} {fd : FuncData} {x : Str} {sp : Sp} {s₁ : Shared} {vs : List Value} {ns : List Int}
    (KX : K.In s₁.heap) (hns : s₁.heap.Ns mainGlobals mg) (hb : s₁.heap.Ns builtinsNs mb) (hbb : ∀ x : Str, x ≠ "__name__" → mb x = bootBuiltins x) (hlim : s₁.heap.NoLimit) (hg : s₁.gens = #[])
    (ha : s₁.heap.get? a = some { cls := .type "list", data := .seq vs.toArray }) (hi : IntsAre vs ns) (hl : ns.length ≤ sizeLine) (hr : Room k callerA)
    (F : ∀ base : Heap, K.In base → base.Ns mainGlobals mg → FnOk P w K mg base CX k fa fd [x] sp) (hbind : ∀ (s : Shared) (u : Value), BindsTo s fd ⟨[u], []⟩ [(x, u)])
    (hsp : ∀ H : Hp, Only H → SqL K H a (ns.map V.int) → sp [.ref a] H (fun v _ => v = .bl true) fun _ _ _ => False)
    (hCX : ∀ H e s', CX [] H s₁ (fun _ _ _ => False) e s' → False) :
    codeAny (model P w) callerA (.call (.ref fa) ⟨[.ref a], []⟩) (fun r s' => r = .ok (.ret (.bool true)) ∧ OldK s₁.heap s'.heap ∧ s'.os = s₁.os ∧ AllBare s'.gens) s₁ := by
  have rv := vals_ints hi
  have lenV := hi.length
  -- from an abstract heap in which nothing but the script may be tracked
  have core : ∀ H : Hp, Only H → SqL K H a (ns.map V.int) → HOk P w H s₁.heap → (∀ b, H b ≠ none → b = a) → (H a ≠ none → K.lookup a = none) →
      codeAny (model P w) callerA (.call (.ref fa) ⟨[.ref a], []⟩) (fun r s' => r = .ok (.ret (.bool true)) ∧ OldK s₁.heap s'.heap ∧ s'.os = s₁.os ∧ AllBare s'.gens) s₁ := by
    intro H hO hS hok hA hK
    have base_of : ∀ {b : Addr} {o : Obj}, s₁.heap.get? b = some o → H b = none → (hidT s₁.heap H).get? b = some o := fun e n => hidT_get e n
    have noA : ∀ {b : Addr} {o : Obj} {es : Array DictEntry} {ep : Nat}, s₁.heap.get? b = some o → o.data = .dict es ep → H b = none := fun {b o es ep} e d => by
      cases q : H b with
      | none => rfl
      | some u =>
        have e' : b = a := hA b (by rw [q]; simp)
        subst e'
        rw [ha] at e; cases e
        have d' : Data.seq vs.toArray _ = Data.dict es ep := d
        cases d'
    have nsK : ∀ {b : Addr} {m : Str → Option Value}, s₁.heap.Ns b m → (hidT s₁.heap H).Ns b m := fun {b m} ⟨o, es, ep, e, d, r⟩ => ⟨o, es, ep, base_of e (noA e d), d, r⟩
    have hKb : K.In (hidT s₁.heap H) := fun b o e => base_of (KX b o e) (by
      cases q : H b with
      | none => rfl
      | some u =>
        have e' : b = a := hA b (by rw [q]; simp)
        subst e'
        rw [hK (by rw [q]; simp)] at e; cases e)
    have hM : Mod K mg (hidT s₁.heap H) := ⟨hKb, nsK hns, ⟨mb, nsK hb, hbb⟩, let ⟨mc, h1, h2⟩ := hlim; ⟨mc, nsK h1, h2⟩⟩
    have e0 : Env0 P w K mg (hidT s₁.heap H) callerA [] s₁ H := ⟨rfl, hM, fun b o e => of_hidT e, Nat.le_of_eq (hidT_size _ _), trivial, fun b hb => absurd (show b ∈ ([] : List Addr) from hb) (by simp), hok, .of_eq hg⟩
    refine codeAny_mono ((F _ hKb (nsK hns)).run callerA [] s₁ H ⟨[.ref a], []⟩ [.ref a] [.ref a] _ _ hr e0 (hbind s₁ (.ref a)) (.cons rfl .nil) (hsp H hO hS)) fun r s' h => ?_
    cases r with
    | error e => exact (hCX H e s' h).elim
    | ok fl =>
      cases fl with
      | next => exact False.elim h
      | brk => exact False.elim h
      | cont => exact False.elim h
      | ret u =>
        obtain ⟨v, H', os, bare, un, hok', r', q⟩ := h
        have q' : v = .bl true := q
        subst q'
        obtain rfl : u = Value.bool true := r'
        refine ⟨rfl, OldK.of_keep fun b o e => ?_, os, bare⟩
        cases q : H b with
        | none => exact un.keep b o e q (by intro z; exact absurd (show b ∈ ([] : List Addr) from z) (by simp)) (by simp)
        | some u =>
          rcases hO b with z | ⟨ob, xs, z⟩
          · rw [q] at z; cases z
          · have z2 := un.frzs b ob _ z
            obtain ⟨e1, _⟩ := hok b _ z
            obtain ⟨e2, _⟩ := hok' b _ z2
            rw [e] at e1; cases e1
            exact e2
  cases hk : K.lookup a with
  | some o =>
    -- the script is one of the module's own objects
    have e := KX a o hk
    rw [ha] at e
    cases e
    refine core (fun _ => none) (fun _ => .inl rfl) (.inr ⟨_, vs.toArray, _, hk, rfl, rfl, rfl, by rw [List.size_toArray, lenV]; exact hl, by simpa using rv⟩) (fun b u z => by have z' : (none : Option HO) = some u := z; cases z') (fun b z => absurd rfl z) fun z => absurd rfl z
  | none =>
    refine core (fun b => if b = a then some (.frz { cls := .type "list", data := .seq vs.toArray } (.lst (ns.map V.int))) else none) (fun b => ?_) (.inl (.inr ⟨{ cls := .type "list", data := .seq vs.toArray }, if_pos rfl⟩)) (fun b u z => ?_) (fun b z => ?_) fun _ => hk
    · by_cases hb : b = a
      · exact .inr ⟨_, _, if_pos hb⟩
      · exact .inl (if_neg hb)
    · by_cases hb : b = a
      · have z' := (if_pos hb).symm.trans z
        cases z'
        subst hb
        exact ⟨ha, by rw [List.length_map]; exact hl, vs, _, rv, ha⟩
      · have z' := (if_neg hb).symm.trans z
        cases z'
    · by_cases hb : b = a
      · exact hb
      · exact absurd (if_neg hb) z
end L2

namespace L2
open PySem PySem.Spec PyProof.Rows

theorem walk_of {l : PySem.W.OpenLaw} {n k : Nat} {q : Program} {loose : List Str} {XP : (Str → Option Value) → Heap → Prop} {YP : World → Heap → Prop} {d : DefRec} {K : Params → PySem.W.Frag} {CX : World → CXT} {sp : World → Sp} {x : Str}
    (hn : l.most = some n) (hn2 : n ≤ sizeLine) (hdf : d.params.defaults = []) (hr : Room k callerA)
    (hY : ∀ (w : World) (h : Heap), YP w h → (K w.params).In h)
    (F : ∀ (w : World) (mg : Str → Option Value) (fa : Addr) (h : Heap), (K w.params).In h → h.Ns mainGlobals mg → mg d.name = some (.ref fa) →
      ∃ fd : FuncData, (∀ (s : Shared) (u : Value), BindsTo s fd ⟨[u], []⟩ [(x, u)]) ∧
        ∀ base : Heap, (K w.params).In base → base.Ns mainGlobals mg → FnOk l.prog w (K w.params) mg base (CX w) k fa fd [x] (sp w))
    (hsp : ∀ (w : World) (H : Hp) (a : Addr) (ns : List Int), ns.length ≤ n → Only H → SqL (K w.params) H a (ns.map V.int) → sp w [.ref a] H (fun v _ => v = .bl true) fun _ _ _ => False)
    (hCX : ∀ (w : World) (H : Hp) (s : Shared) (e : Value) (s' : Shared), CX w [] H s (fun _ _ _ => False) e s' → False) :
    PySem.W.WalkO q loose XP YP l.row.toRowW d [] (fun f vs => PySem.call f vs) := by
  refine Att.attach_call hn hdf fun w s₀ s₁ mg mb fa o pm cd doc a vs ns G Y ho hd hcd hmg hobj hints hlen hg => ?_
  have KX := hY w _ Y
  obtain ⟨fd, hb, hF⟩ := F w mg fa _ KX G.T.g hmg
  exact law_call KX G.T.g G.T.b G.T.builtins G.T.nolimit hg hobj hints (Nat.le_trans hlen hn2) hr hF hb (fun H hO hS => hsp w H a ns hlen hO hS) fun H e s' => hCX w H s₁ e s'
end L2

namespace L2
open PySem PySem.Spec PyProof.Rows

def defArgs (s : Stmt) : Arguments := match s with
  | .FunctionDef _ a _ _ _ _ _ _ _ _ => a
  | _ => { posonlyargs := [], args := [], vararg := none, kwonlyargs := [], kw_defaults := [], kwarg := none, defaults := [] }
def defBody (s : Stmt) : List Stmt := match s with
  | .FunctionDef _ _ b _ _ _ _ _ _ _ => b
  | _ => []
def defScope (s : Stmt) : Scope := match s with
  | .FunctionDef _ _ _ _ _ _ sc _ _ _ => sc
  | _ => { kind := .function, names := [], isGenerator := false, isCoroutine := false }
abbrev CX0 : CXT := fun _ _ _ _ _ _ => False
abbrev E0 : XK := fun _ _ _ => False
theorem pass0 {X : Cx} : Passes CX0 X E0 := fun _ _ _ _ _ _ _ h => h.elim
structure Fun (K : PySem.W.Frag) (x qual : Str) (st : Stmt) (f : Addr) (fd : FuncData) : Prop where
  ex : ∃ (oc : Value) (od : Option Addr) (kV doc pm : Value) (an : Option Addr) (cdv ct : Value) (osl : Array (Option Value)),
    fd = PySem.W.fnOf x qual (defArgs st) (defBody st) (defScope st) .none kV doc pm an cdv ct ∧ K.lookup f = some ⟨oc, od, .func fd, osl⟩ ∧ PySem.W.codeIn K cdv qual = true
  kp : PySem.W.keepIn K (.ref f) = true
section
variable {P : Program} {w : World} {K : PySem.W.Frag} {mg : Str → Option Value} {base : Heap}
theorem Fun.ok {x qual : Str} {st : Stmt} {f : Addr} {fd : FuncData} {N ps : List Str} {k : Nat} {sp : Sp} (F : Fun K x qual st f fd) (S : FnScope N ps (defScope st)) (len : ∀ vs H Q E, sp vs H Q E → vs.length = ps.length)
    (hbody : ∀ (cdv : Value) (A : Around) (outer : List Env) (s : Shared) (H : Hp) (vs : List V) (Q : VK) (E : XK), Room k (A.deeper (envOfC qual (defScope st) s.heap.objs.size f cdv)) → sp vs H Q E →
      ∃ t, PSs (cxOf CX0 P w K mg base N qual (defScope st) f cdv A outer s H E).nox (defBody st) t ∧ t { nx := fun _ H' => Q .non H', rt := Q } (start N vs) H) : FnOk P w K mg base CX0 (k + 1) f fd ps sp := by
  obtain ⟨oc, od, kV, doc, pm, an, cdv, ct, osl, rfl, lk, hcd⟩ := F.ex
  refine fn_of lk hcd S len fun A outer s H vs Q E hr hsp => ?_
  obtain ⟨t, h, q⟩ := hbody cdv A outer s H vs Q E hr hsp
  exact ⟨t, h.nox, q⟩
theorem Fun.binds {x qual : Str} {st : Stmt} {f : Addr} {fd : FuncData} {ps : List Str} (F : Fun K x qual st f fd)
    (h : ∀ (kV doc pm : Value) (an : Option Addr) (cdv ct : Value) (us : List Value), us.length = ps.length → bindArgs (PySem.W.fnOf x qual (defArgs st) (defBody st) (defScope st) .none kV doc pm an cdv ct) ⟨us, []⟩ = pure (ps.zip us)) : Binds K fd ps [] := by
  obtain ⟨oc, od, kV, doc, pm, an, cdv, ct, osl, rfl, lk, hcd⟩ := F.ex
  exact .all (h kV doc pm an cdv ct)
theorem fun_mk {x qual : Str} {st : Stmt} {f : Addr} {oc : Value} {od an : Option Addr} {osl : Array (Option Value)} {kV doc pm cdv ct : Value} (l : K.lookup f = some ⟨oc, od, .func (PySem.W.fnOf x qual (defArgs st) (defBody st) (defScope st) .none kV doc pm an cdv ct), osl⟩)
    (c : PySem.W.codeIn K cdv qual = true) (k : PySem.W.keepIn K (.ref f) = true) : Fun K x qual st f (PySem.W.fnOf x qual (defArgs st) (defBody st) (defScope st) .none kV doc pm an cdv ct) := ⟨⟨oc, od, kV, doc, pm, an, cdv, ct, osl, rfl, l, c⟩, k⟩
end
theorem hu_of {A : Around} {k : Nat} (hr : Room k A) : A.units + 1 < cLine := Nat.lt_of_le_of_lt (Nat.add_le_add_left (by decide : 1 ≤ 64) _) hr.units
end L2

namespace Zp
open PySem PySem.Spec PyProof.Rows
section
variable {prog : Program} {w : World} {A : Around} {E : Value → Shared → Prop} {s : Shared}
theorem tup_meets (it q : Addr) (i n : Nat) (xs : Array Value) (x : Value) (d1 d2 : Option Addr) (s1 s2 : Array (Option Value)) (hx : xs[i]? = some x) :
    Meets (Builtin.«tuple_iterator.__next__» ⟨[.ref it], []⟩) (fun _ R s => s.heap.get? it = some ⟨.type "tuple_iterator", d1, .fields #[.ref q, .int i 0], s1⟩ ∧ s.heap.get? q = some ⟨.type "tuple", d2, .seq xs n, s2⟩ ∧
      R (.ok (.ret x)) { s with heap := s.heap.update it (Obj.mapFields (·.setIfInBounds 1 (rawInt ((i : Int) + 1)))) }) :=
  .of_wp fun prog w A R s h => by
    obtain ⟨hp, g, d, tk, os⟩ := s
    obtain ⟨a1, a2, h⟩ := h
    wp_walk using AutoSeq1.wpAny_loadPart' a1, AutoSeq1.wpAny_loadPart' a2, (wpAny_field a1 rfl rfl), (wpAny_seqItems a2 rfl), (wpAny_setField a1 rfl (by simp))
    rw [Int.toNat_natCast, hx]
    exact wpAny_bind (wpAny_setField a1 rfl (by simp) (wpAny_pure ⟨_, rfl, h⟩))
theorem tup_ends (it q : Addr) (i n : Nat) (xs : Array Value) (d1 d2 : Option Addr) (s1 s2 : Array (Option Value)) (hx : xs[i]? = none) :
    Meets (Builtin.«tuple_iterator.__next__» ⟨[.ref it], []⟩) (fun A R s => A.handled = none ∧ s.heap.get? it = some ⟨.type "tuple_iterator", d1, .fields #[.ref q, .int i 0], s1⟩ ∧ s.heap.get? q = some ⟨.type "tuple", d2, .seq xs n, s2⟩ ∧
      ∀ h' e, Heap.ExtBut it s.heap h' → (∃ o, h'.get? e = some o ∧ o.cls = .type "StopIteration") → R (.error (.ref e)) { s with heap := h' }) :=
  .of_wp fun prog w A R s h => by
    obtain ⟨hp, g, d, tk, os⟩ := s
    obtain ⟨hh, a1, a2, h⟩ := h
    wp_walk using AutoSeq1.wpAny_loadPart' a1, AutoSeq1.wpAny_loadPart' a2, (wpAny_field a1 rfl rfl), (wpAny_seqItems a2 rfl)
    rw [Int.toNat_natCast, hx]
    wp_walk using (wpAny_setField a1 rfl (by simp))
    exact wpAny_raiseNew_none (A := A.in1) hh (h _ _ (((Heap.SameBut.update ..).extBut.push _).push _) ⟨_, Heap.get?_push_size _ rfl, rfl⟩)
structure Src where
  tp : Bool
  it : Addr
  q : Addr
  xs : Array Value
def Src.Run (p : Src) (h : Heap) (i : Nat) : Prop := (p.tp = true ∧ h.IsTupleIter p.it p.q i ∧ h.IsTuple p.q p.xs) ∨ (p.tp = false ∧ h.IsListIter p.it p.q i ∧ h.IsList p.q p.xs)
theorem Src.Run.keep {p : Src} {h h' : Heap} {i : Nat} (r : p.Run h i) (k1 : ∀ o, h.get? p.it = some o → h'.get? p.it = some o) (k2 : ∀ o, h.get? p.q = some o → h'.get? p.q = some o) : p.Run h' i := by
  rcases r with ⟨t, ⟨o, a, b⟩, ⟨u, c, d⟩⟩ | ⟨t, ⟨o, a, b⟩, ⟨u, c, d⟩⟩
  · exact .inl ⟨t, ⟨o, k1 o a, b⟩, ⟨u, k2 u c, d⟩⟩
  · exact .inr ⟨t, ⟨o, k1 o a, b⟩, ⟨u, k2 u c, d⟩⟩
theorem Src.Run.live {p : Src} {h : Heap} {i : Nat} (r : p.Run h i) : ∃ o, h.get? p.it = some o ∧ o.data = .fields #[.ref p.q, .int i 0] := by
  rcases r with ⟨t, ⟨o, a, _, b⟩, _⟩ | ⟨t, ⟨o, a, _, b⟩, _⟩
  · exact ⟨o, a, b⟩
  · exact ⟨o, a, b⟩
theorem pull {p : Src} {i : Nat} {x : Value} {Q : Value → Shared → Prop} (r : p.Run s.heap i) (hx : p.xs[i]? = some x) (hn : p.q ≠ p.it) (k : ∀ h', p.Run h' (i + 1) → Heap.SameBut p.it s.heap h' → Q x { s with heap := h' }) :
    wpAny (model prog w) A (Builtin.SmallTypes.nextOf (.ref p.it)) Q E s := by
  rcases r with ⟨t, a, b⟩ | ⟨t, a, b⟩
  · obtain ⟨⟨oc, od, ot, os⟩, a1, a2, a3⟩ := id a
    obtain ⟨⟨uc, ud, ut, us⟩, b1, b2, n, b3⟩ := id b
    cases a2; cases a3; cases b2; cases b3
    refine wpAny_bind (wpAny_callSpecial?_slot (name := Str.ofString "__next__") a.typeIs F.slot_tuple_iterator_next
      (call_meets F.slot_tuple_iterator_next a.typeIs F.entry_tuple_iterator_next (F.args_tuple_iterator_next_1 _) (tup_meets p.it p.q i n p.xs x od ud os us hx) ⟨a1, b1, ?_⟩))
    have sb : Heap.SameBut p.it s.heap (s.heap.update p.it (Obj.mapFields (·.setIfInBounds 1 (rawInt ((i : Int) + 1))))) := Heap.SameBut.update ..
    refine wpAny_pure (k _ (.inl ⟨t, ?_, ⟨_, (sb.2 _ hn).trans b1, rfl, n, rfl⟩⟩) sb)
    exact ⟨_, Heap.get?_update_self _ a1 rfl, rfl, by simp [Obj.mapFields, rawInt]⟩
  · exact wpAny_nextOf_list_item a b hx fun h' a' sb => k h' (.inr ⟨t, a', b.extBut sb.extBut hn⟩) sb
theorem pullEnd {p : Src} {i : Nat} {Q : Value → Shared → Prop} (hh : A.handled = none) (r : p.Run s.heap i) (hx : p.xs[i]? = none)
    (k : ∀ h' e, Heap.ExtBut p.it s.heap h' → (∃ o, h'.get? e = some o ∧ o.cls = .type "StopIteration") → E (.ref e) { s with heap := h' }) : wpAny (model prog w) A (Builtin.SmallTypes.nextOf (.ref p.it)) Q E s := by
  rcases r with ⟨t, a, b⟩ | ⟨t, a, b⟩
  · obtain ⟨⟨oc, od, ot, os⟩, a1, a2, a3⟩ := id a
    obtain ⟨⟨uc, ud, ut, us⟩, b1, b2, n, b3⟩ := id b
    cases a2; cases a3; cases b2; cases b3
    exact wpAny_bind (wpAny_callSpecial?_slot (name := Str.ofString "__next__") a.typeIs F.slot_tuple_iterator_next
      (call_meets F.slot_tuple_iterator_next a.typeIs F.entry_tuple_iterator_next (F.args_tuple_iterator_next_1 _) (tup_ends p.it p.q i n p.xs od ud os us hx) ⟨hh, a1, b1, k⟩))
  · exact wpAny_nextOf_list_end hh a b hx k
def iterCls (tp : Bool) : String := if tp = true then "tuple_iterator" else "list_iterator"
def SeqAt (h : Heap) (tp : Bool) (q : Addr) (xs : Array Value) : Prop := (tp = true ∧ h.IsTuple q xs) ∨ (tp = false ∧ h.IsList q xs)
theorem SeqAt.keep {h h' : Heap} {tp : Bool} {q : Addr} {xs : Array Value} (a : SeqAt h tp q xs) (k : ∀ o, h.get? q = some o → h'.get? q = some o) : SeqAt h' tp q xs := by
  rcases a with ⟨t, o, b, c⟩ | ⟨t, o, b, c⟩
  · exact .inl ⟨t, o, k o b, c⟩
  · exact .inr ⟨t, o, k o b, c⟩
theorem SeqAt.lt {h : Heap} {tp : Bool} {q : Addr} {xs : Array Value} (a : SeqAt h tp q xs) : q < h.objs.size := by
  rcases a with ⟨t, o, b, c⟩ | ⟨t, o, b, c⟩ <;> exact Heap.lt_size b
def itObj (tp : Bool) (q : Addr) : Obj := { cls := .type (iterCls tp), data := .fields #[.ref q, .int 0 0] }
theorem iter_any {tp : Bool} {q : Addr} {xs : Array Value} {Q : Value → Shared → Prop} (a : SeqAt s.heap tp q xs) (h : Q (.ref s.heap.objs.size) { s with heap := s.heap.push (itObj tp q) }) : wpAny (model prog w) A (pyIter (.ref q)) Q E s := by
  rcases a with ⟨rfl, b⟩ | ⟨rfl, b⟩
  · exact wpAny_pyIter_tuple b h
  · exact wpAny_pyIter_list b h
theorem run_new {h : Heap} {tp : Bool} {it q : Addr} {xs : Array Value} (a : SeqAt h tp q xs) (b : h.get? it = some (itObj tp q)) : Src.Run ⟨tp, it, q, xs⟩ h 0 := by
  rcases a with ⟨rfl, a⟩ | ⟨rfl, a⟩
  · exact .inl ⟨rfl, ⟨_, b, rfl, rfl⟩, a⟩
  · exact .inr ⟨rfl, ⟨_, b, rfl, rfl⟩, a⟩
end
end Zp

namespace Zp
open PySem PySem.Spec PyProof.Rows L2
def Sq (K : PySem.W.Frag) (H : Hp) (a : Bool × Addr) (xs : List V) : Prop := (a.1 = true ∧ SqT K H a.2 xs) ∨ (a.1 = false ∧ SqL K H a.2 xs)
theorem Sq.at {X : Cx} {pins : List (Addr × Obj)} {σ : L2.St} {H : Hp} {s : Shared} (I : Inv X pins σ H s) {a : Bool × Addr} {xs : List V} (h : Sq X.K H a xs) : ∃ its : List Value, Vals xs its ∧ SeqAt s.heap a.1 a.2 its.toArray := by
  rcases h with ⟨t, h⟩ | ⟨t, h⟩
  · obtain ⟨its, r, p, _⟩ := I.tuple h
    exact ⟨its, r, .inl ⟨t, p⟩⟩
  · obtain ⟨its, r, p, _⟩ := I.list h
    exact ⟨its, r, .inr ⟨t, p.isList⟩⟩
def ItrAt (h : Heap) (a : Bool × Addr) (it : Addr) (i : Nat) : Prop := (a.1 = true ∧ h.IsTupleIter it a.2 i) ∨ (a.1 = false ∧ h.IsListIter it a.2 i)
theorem ItrAt.keep {h h' : Heap} {a : Bool × Addr} {it : Addr} {i : Nat} (r : ItrAt h a it i) (k : ∀ o, h.get? it = some o → h'.get? it = some o) : ItrAt h' a it i := by
  rcases r with ⟨t, o, b, c⟩ | ⟨t, o, b, c⟩
  · exact .inl ⟨t, o, k o b, c⟩
  · exact .inr ⟨t, o, k o b, c⟩
theorem ItrAt.obj {h : Heap} {a : Bool × Addr} {it : Addr} {i : Nat} (r : ItrAt h a it i) : ∃ o, h.get? it = some o ∧ ∀ v, o.data ≠ .cell v := by
  rcases r with ⟨t, o, b, _, c⟩ | ⟨t, o, b, _, c⟩
  · exact ⟨o, b, fun v q => by rw [c] at q; cases q⟩
  · exact ⟨o, b, fun v q => by rw [c] at q; cases q⟩
theorem ItrAt.run {h : Heap} {a : Bool × Addr} {it : Addr} {i : Nat} {xs : Array Value} (r : ItrAt h a it i) (q : SeqAt h a.1 a.2 xs) : Src.Run ⟨a.1, it, a.2, xs⟩ h i := by
  rcases r with ⟨t, r⟩ | ⟨t, r⟩ <;> rcases q with ⟨t', q⟩ | ⟨t', q⟩
  · exact .inl ⟨t, r, q⟩
  · rw [t] at t'; cases t'
  · rw [t] at t'; cases t'
  · exact .inr ⟨t, r, q⟩
theorem Src.Run.itr {p : Src} {h : Heap} {i : Nat} (r : p.Run h i) : ItrAt h (p.tp, p.q) p.it i := by
  rcases r with ⟨t, r, _⟩ | ⟨t, r, _⟩
  · exact .inl ⟨t, r⟩
  · exact .inr ⟨t, r⟩
end Zp

namespace Zp
open PySem PySem.Spec PyProof.Rows L2
section
variable {prog : Program} {w : World} {A : Around} {E : Value → Shared → Prop} {s : Shared}
theorem either {α : Type} {c : Prop} [Decidable c] {a b : Sem α} {M : Model} {Q : α → Shared → Prop} (h1 : wpAny M A a Q E s) (h2 : wpAny M A b Q E s) : wpAny M A (if c then a else b) Q E s := by split <;> assumption
def eObj (it : Addr) : Obj := { cls := .type "enumerate", data := .fields #[.none, .bool false, .ref it, rawInt 0, .none, .none] }
theorem enew (tp : Bool) (q : Addr) (xs : Array Value) :
    Meets (Builtin.«enumerate.__new__» ⟨[.type "enumerate", .ref q], []⟩) (fun _ R s => SeqAt s.heap tp q xs ∧ R (.ok (.ret (.ref (s.heap.push (itObj tp q)).objs.size))) { s with heap := (s.heap.push (itObj tp q)).push (eObj s.heap.objs.size) }) :=
  .of_wp fun prog w A R s h => by
    obtain ⟨hp, g, d, tk, os⟩ := s
    obtain ⟨h1, h⟩ := h
    have hsub := sub_enumerate
    have j1 : SeqAt (Shared.heap ⟨hp, g, d, tk, os⟩) tp q xs := h1
    wp_walk
    refine wpAny_stack_any fun st => wpAny_pure ?_
    show wpAny _ _ (if _ then _ else _) _ _ _
    refine either ?_ ?_
    · wp_walk using iter_any j1
      exact ⟨_, rfl, h⟩
    · wp_walk using iter_any j1
      exact ⟨_, rfl, h⟩
theorem draws {p : Src} (hh : A.handled = none) (hn : p.q ≠ p.it) : Draws prog w A p.it [p.it, p.q] p.xs.size (fun i x => p.xs[i]? = some x) (fun i h => p.Run h i) where
  live := fun i h r => let ⟨o, a, _⟩ := r.live; ⟨o, a⟩
  frame := fun i h h' r k => r.keep (fun o q => k _ (by simp) o q) fun o q => k _ (by simp) o q
  item := fun i s Q E hi r k => pull r (Array.getElem?_eq_getElem hi) hn fun h' r' sb => k _ h' s.toks (Array.getElem?_eq_getElem hi) r' sb
  done := fun s Q E r k => pullEnd hh r (by simp) k
theorem enum_end {p : Src} {e : Addr} {i : Nat} {j : Int} {old : Value} {Q : Option Value → Shared → Prop} (hh : A.handled = none) (he : IsEnum s.heap e p.it j old) (run : p.Run s.heap i) (hx : p.xs[i]? = none) (hQ : ∀ h', Heap.ExtBut p.it s.heap h' → Q none { s with heap := h' }) : wpAny (model prog w) A (pyNext (.ref e)) Q E s := by
  have hT : s.TypeIs (.ref e) "enumerate" := ⟨_, he, rfl⟩
  have go : wpAny (model prog w) A.in1 (Builtin.«enumerate.__next__» ⟨[.ref e], []⟩) (fun fin s' => ∃ v, fin = .done (.ret v) ∧ False) (fun x s' => ∃ h' y, s' = { s with heap := h' } ∧ x = .ref y ∧ Heap.ExtBut p.it s.heap h' ∧ ∃ o, h'.get? y = some o ∧ o.cls = .type "StopIteration") s :=
    wpAny_bind (m := field (.ref e) 2) (wpAny_field he rfl (x := .ref p.it) rfl (wpAny_bind (pullEnd (A := A.in1) hh run hx fun h' y a b => ⟨h', y, rfl, rfl, a, b⟩)))
  unfold pyNext
  refine wpAny_bind (wpAny_attempt (wpAny_callSpecial?_slot (name := Str.ofString "__next__") hT F.slot_enumerate_next (wpAny_call_entry F.slot_enumerate_next hT F.entry_enumerate_next (wpAny_mono go (fun fin s' ⟨v, a, b⟩ => b.elim) fun x s' ⟨h', y, e1, e2, a, o, o1, o2⟩ => ?_) (F.args_enumerate_next_1 _))))
  subst e1 e2
  exact wpAny_bind (wpAny_isInstance (T := "StopIteration") (b := true) ⟨o, o1, o2⟩ isSubtype_stop (wpAny_pure (hQ h' a)))
theorem ecall {tp : Bool} {q : Addr} {xs : Array Value} {Q : Value → Shared → Prop} (h1 : SeqAt s.heap tp q xs)
    (h : ∀ h' e it, IsEnum h' e it 0 .none → Src.Run ⟨tp, it, q, xs⟩ h' 0 → e ≠ it → q ≠ e → q ≠ it → s.heap.objs.size ≤ e → s.heap.objs.size ≤ it → (∀ c o, s.heap.get? c = some o → h'.get? c = some o) → Q (.ref e) { s with heap := h' }) : wpAny (model prog w) A (call (.type "enumerate") [.ref q]) Q E s := by
  refine callType_new F.called_enumerate (by decide) (F.typeCall_enumerate_1 _) (F.newCall_enumerate_1 _) (fun obj => F.args_object_init_2 obj _) F.entry_enumerate_new (enew tp q xs) ⟨h1, ?_⟩
  have lq := h1.lt
  generalize hh1 : s.heap.push (itObj tp q) = p1
  generalize hh2 : p1.push (eObj s.heap.objs.size) = p2
  have z1 : p1.objs.size = s.heap.objs.size + 1 := by rw [← hh1, Heap.size_push]
  have k1 : ∀ c o, p1.get? c = some o → p2.get? c = some o := fun c o a => by rw [← hh2]; exact Heap.get?_push_of_some _ a
  have k0 : ∀ c o, s.heap.get? c = some o → p2.get? c = some o := fun c o a => k1 c o (by rw [← hh1]; exact Heap.get?_push_of_some _ a)
  have g2 : p2.get? p1.objs.size = some (eObj s.heap.objs.size) := by rw [← hh2]; exact Heap.get?_push_size _ rfl
  have g1 : p2.get? s.heap.objs.size = some (itObj tp q) := k1 _ _ (by rw [← hh1]; exact Heap.get?_push_size _ rfl)
  refine ⟨⟨_, g2, rfl⟩, h p2 _ _ g2 (run_new (h1.keep fun o a => k0 _ o a) g1) ?_ ?_ ?_ ?_ (Nat.le_refl _) k0⟩
  · rw [z1]; exact Nat.succ_ne_self _
  · rw [z1]; exact Nat.ne_of_lt (Nat.lt_succ_of_lt lq)
  · exact Nat.ne_of_lt lq
  · rw [z1]; exact Nat.le_succ _
end
def ItE (K : PySem.W.Frag) (a : Addr) : It where
  go := fun i H => ∃ (xs : List V) (x : V), SqT K H a xs ∧ xs[i]? = some x
  yld := fun i H v H' => ∃ T x, v = .ref T ∧ H T = none ∧ H' = upd H T (.tup [.int (i : Nat), x]) ∧ ∀ xs, SqT K H a xs → xs[i]? = some x
  stop := fun i H => ∃ xs : List V, SqT K H a xs ∧ xs.length ≤ i
theorem turnE {P : Program} {w : World} {K : PySem.W.Frag} {elts : List Expr} {kk : Nat} {tpos : Pos} {a e it : Addr} (n1 : e ≠ it) (n2 : a ≠ e) (n3 : a ≠ it) :
    Turn P w K (.Tuple elts kk tpos) (ItE K a) [e, it] e (fun i h => (∃ old, IsEnum h e it ((i : Nat) : Int) old) ∧ ItrAt h (true, a) it i) where
  mem := by simp
  obj := fun i h st b hb => by
    obtain ⟨⟨old, he⟩, hi⟩ := st
    simp only [List.mem_cons, List.not_mem_nil, or_false] at hb
    rcases hb with rfl | rfl
    · exact ⟨_, he, fun v q => by cases q⟩
    · exact hi.obj
  keep := fun i h h' st k => let ⟨⟨old, he⟩, hi⟩ := st; ⟨⟨old, k e (by simp) _ he⟩, hi.keep fun o q => k it (by simp) o q⟩
  item := by
    intro X hP hw hK hc i pins s σ H E I hf st hg
    subst hP hw hK
    obtain ⟨⟨old, he⟩, hi⟩ := st
    obtain ⟨xs, x, hq, hx⟩ := hg
    obtain ⟨vs, r, q⟩ := Sq.at I (a := (true, a)) (.inl ⟨rfl, hq⟩)
    obtain ⟨u, hu, ru⟩ := r.get hx
    have hel : e < s.heap.objs.size := Heap.lt_size he
    have hil : it < s.heap.objs.size := by obtain ⟨o, b, _⟩ := hi.obj; exact Heap.lt_size b
    have run : Src.Run ⟨true, it, a, vs.toArray⟩ s.heap i := hi.run q
    have hlt : i < vs.toArray.size := by
      have := (List.getElem?_eq_some_iff.mp hu).1
      simpa using this
    have hd := I.ok.hd hc
    refine wpAny_pyNext_enum_itemD (draws (p := ⟨true, it, a, vs.toArray⟩) (A := X.A.in1) hd n3) he run hlt n1 (by simp; exact ⟨n1, Ne.symm n2⟩) fun y h' tk hy ho run' hT hsz hk => ?_
    have ey : y = u := by
      have : vs.toArray[i]? = some u := by simpa using hu
      have hy' : vs.toArray[i]? = some y := hy
      rw [this] at hy'
      exact (Option.some.inj hy').symm
    subst ey
    refine ⟨_, rfl, wpAny_letOwnedTupleGo_enum (s := { s with heap := h', toks := tk + 1 }) ho fun h2 he2 sb => ?_⟩
    have hT2 : h2.get? s.heap.objs.size = some { cls := .type "tuple", data := .seq #[.int i tk, y] } := (sb.2 _ (Nat.ne_of_gt hel)).trans hT
    have new : ObjOk X.prog X.w (upd H s.heap.objs.size (.tup [.int (i : Nat), x])) h2 s.heap.objs.size (.tup [.int (i : Nat), x]) := ⟨Nat.le_trans (show 2 ≤ 3 by decide) (by decide), [.int i tk, y], .cons ⟨_, rfl⟩ (.cons ru .nil), ⟨⟨_, hT2, rfl, _, rfl⟩, _, hT2, rfl⟩⟩
    have I1 : Inv X pins σ (upd H s.heap.objs.size (.tup [.int (i : Nat), x])) { s with heap := h2, toks := tk + 1 } :=
      I.turnedNew (ch := [e, it]) (fun b o hb q => by
        simp only [List.mem_cons, List.not_mem_nil, or_false, not_or] at hb
        exact (sb.2 b hb.1).trans (hk b o hb.1 hb.2 q)) hf (Nat.le_refl _) new
    refine ⟨.ref s.heap.objs.size, _, I1, rfl, ⟨_, x, rfl, I.hok.fresh (Nat.le_refl _), rfl, fun ys hy => by rw [I.tuple_inj hy hq]; exact hx⟩, ⟨⟨y, ?_⟩, run'.itr.keep fun o q => (sb.2 it (Ne.symm n1)).trans q⟩, fun b hb => ?_⟩
    · rw [Int.natCast_add]; exact he2
    · have hb' : b < s.heap.objs.size := by
        simp only [List.mem_cons, List.not_mem_nil, or_false] at hb
        rcases hb with rfl | rfl
        · exact hel
        · exact hil
      rw [upd_ne (Nat.ne_of_lt hb')]
      exact (hf b hb).1
  done := by
    intro X hP hw hK hc i pins s σ H E I hf st hg
    subst hP hw hK
    obtain ⟨⟨old, he⟩, hi⟩ := st
    obtain ⟨xs, hq, hx⟩ := hg
    obtain ⟨vs, r, q⟩ := Sq.at I (a := (true, a)) (.inl ⟨rfl, hq⟩)
    have hl := r.length
    refine enum_end (p := ⟨true, it, a, vs.toArray⟩) (I.ok.hd hc) he (hi.run q) (by simp; omega) fun h' eb => ⟨rfl, I.turnedL (t' := s.toks) (ch := [e, it]) (fun b o hb q => ?_) hf⟩
    simp only [List.mem_cons, List.not_mem_nil, or_false, not_or] at hb
    exact eb b o hb.2 q
  self := fun A i s Q E st h => let ⟨⟨_, he⟩, _⟩ := st; wpAny_pyIter_enum he h
def iE (K : PySem.W.Frag) (ta : TA) : TI := fun σ H R => ta σ H fun vs H1 => ∃ a xs, vs = [.ref a] ∧ SqT K H1 a xs ∧ R (ItE K a) H1
theorem pi_E {X : Cx} {e : Expr} {ta : TA} {p pos tpos : Pos} {elts : List Expr} {kk : Nat} (hg : Gl X "enumerate") (hm : X.mg "enumerate" = none) (ha : PA X [e] ta) (hs : starEach [e] X.env = [(false, eval e X.env)] := by rfl) :
    PI X (.Tuple elts kk tpos) (.Call (.Name "enumerate" p) [e] [] pos) (iE X.K ta) := by
  intro pins s σ H R I h
  refine Call_ (ld_blt I hg hm boot_enumerate (PyProof.Rows.callWith_type1 (thn (ha pos pins s σ H _ I h) fun us s1 ⟨vs, H1, I1, r1, a, xs, ex, hq, q⟩ => ?_) hs rfl))
  subst ex
  cases r1 with
  | cons r rr =>
    cases rr
    cases r
    obtain ⟨i1, _, p1⟩ := Sq.at I1 (a := (true, a)) (.inl ⟨rfl, hq⟩)
    refine ecall p1 fun h' e it he run m1 m2 m3 l1 l2 k => wpAny_pyIter_enum he ?_
    have I2 : Inv X pins σ H1 { s1 with heap := h' } := I1.kept (t' := s1.toks) k
    refine ⟨e, [e, it], _, _, H1, rfl, I2, turnE m1 m2 m3, ⟨⟨.none, he⟩, run.itr⟩, fun b hb => ?_, q⟩
    simp only [List.mem_cons, List.not_mem_nil, or_false] at hb
    rcases hb with rfl | rfl
    · exact I1.fpOk l1 (I1.hok.fresh l1)
    · exact I1.fpOk l2 (I1.hok.fresh l2)
end Zp

namespace Zp
open PySem PySem.Spec PyProof.Rows
theorem range_forIn {M : Model} {A : Around} {E : Value → Shared → Prop} {s : Shared} {β : Type} {f : Nat → β → Sem (ForInStep β)} {N : Nat} {b : β} {Q : β → Shared → Prop} (h : wpAny M A (forIn (List.range' 0 N 1) b f) Q E s) : wpAny M A (forIn [:N] b f) Q E s := by
  rw [Std.Legacy.Range.forIn_eq_forIn_range']
  have e : ([:N] : Std.Legacy.Range).size = N := by simp [Std.Legacy.Range.size]
  rw [e]
  exact h
theorem tidx_meets (q : Addr) (xs : Array Value) (n : Nat) (d2 : Option Addr) (s2 : Array (Option Value)) (x : Value) (e : Value → Bool) (j : Nat) (hj : j < xs.size) (h1 : e xs[j] = true) (h2 : ∀ (m : Nat) (hm : m < xs.size), m < j → e xs[m] = false) :
    Meets (Builtin.«tuple.index» ⟨[.ref q, x], []⟩) (fun A R s => s.heap.get? q = some ⟨.type "tuple", d2, .seq xs n, s2⟩ ∧ (∀ y : Value, y ∈ xs → SeqAt.EqAt A.in1 s y x (e y)) ∧ R (.ok (.ret (.int j s.toks))) { s with toks := s.toks + 1 }) :=
  .of_wp fun prog w A R s h => by
    obtain ⟨hp, g, d, tk, os⟩ := s
    obtain ⟨a1, a2, h⟩ := h
    wp_walk using AutoSeq1.wpAny_loadPart' a1, (wpAny_seqItems a1 rfl)
    rw [Nat.min_self]
    refine range_forIn ?_
    refine wpAny_forIn_list _ (fun l b t => ∃ i, l = List.range' i (xs.size - i) 1 ∧ i ≤ j ∧ b = (none, ()) ∧ t = ⟨hp, g, d, tk, os⟩) _ ?_ ?_ _ _ ⟨0, rfl, Nat.zero_le _, rfl, rfl⟩
    · rintro i rest b t ⟨i', hl, hi, rfl, rfl⟩
      obtain ⟨k, hk⟩ : ∃ k, xs.size - i' = k + 1 := ⟨xs.size - i' - 1, by omega⟩
      rw [hk, List.range'_succ] at hl
      injection hl with e1 e2
      subst e1 e2
      have hix : i < xs.size := by omega
      have hxi : xs[i]? = some xs[i] := Array.getElem?_eq_getElem hix
      simp only [hxi]
      refine wpAny_bind (a2 _ (Array.getElem_mem hix) _ _ _ _ ?_)
      by_cases hij : i = j
      · subst hij
        rw [h1]
        wp_walk
        exact ⟨_, rfl, h⟩
      · rw [h2 i hix (by omega)]
        wp_walk
        exact ⟨i + 1, by congr 1; omega, by omega, rfl, rfl⟩
    · rintro b t ⟨i, hl, hi, rfl, rfl⟩
      have : xs.size - i = 0 := by
        cases hz : xs.size - i with
        | zero => rfl
        | succ k => rw [hz, List.range'_succ] at hl; cases hl
      omega
end Zp
namespace L2
open PySem PySem.Spec PyProof.Rows

def Std (K : PySem.W.Frag) (mg : Str → Option Value) (x : Str) (st : Stmt) (ps : List Str) : Prop :=
  ∃ (f : Addr) (fd : FuncData), Fun K x x st f fd ∧ Binds K fd ps [] ∧ mg x = some (.ref f)
def Dfn (P : Program) (w : World) (K : PySem.W.Frag) (mg : Str → Option Value) (base : Heap) (k : Nat) (x : Str) (ps : List Str) (sp : Sp) : Prop :=
  ∃ (f : Addr) (fd : FuncData), FnOk P w K mg base CX0 k f fd ps sp ∧ Binds K fd ps [] ∧ PySem.W.keepIn K (.ref f) = true ∧ mg x = some (.ref f) ∧ ∃ o : Obj, K.lookup f = some o ∧ o.data = .func fd
section
variable {P : Program} {w : World} {K : PySem.W.Frag} {mg : Str → Option Value} {base : Heap}
theorem Std.ok {x : Str} {st : Stmt} {N ps : List Str} {k : Nat} {sp : Sp} (D : Std K mg x st ps) (S : FnScope N ps (defScope st)) (len : ∀ vs H Q E, sp vs H Q E → vs.length = ps.length)
    (hbody : ∀ (f : Addr) (cdv : Value) (A : Around) (outer : List Env) (s : Shared) (H : Hp) (vs : List V) (Q : VK) (E : XK), Room k (A.deeper (envOfC x (defScope st) s.heap.objs.size f cdv)) → sp vs H Q E →
      ∃ t, PSs (cxOf CX0 P w K mg base N x (defScope st) f cdv A outer s H E).nox (defBody st) t ∧ t { nx := fun _ H' => Q .non H', rt := Q } (start N vs) H) : Dfn P w K mg base (k + 1) x ps sp := by
  obtain ⟨f, fd, F, b, m⟩ := D
  have hl : ∃ o : Obj, K.lookup f = some o ∧ o.data = .func fd := by
    obtain ⟨oc, od, kV, doc, pm, an, cdv, ct, osl, _, lk, _⟩ := F.ex
    exact ⟨_, lk, rfl⟩
  exact ⟨f, fd, F.ok S len (hbody f), b, F.kp, m, hl⟩
theorem Dfn.imp {k : Nat} {x : Str} {ps : List Str} {sp sp' : Sp} (D : Dfn P w K mg base k x ps sp) (h : ∀ vs H Q E, sp' vs H Q E → sp vs H Q E) : Dfn P w K mg base k x ps sp' := by
  obtain ⟨f, fd, F, b, kp, m, hl⟩ := D
  exact ⟨f, fd, F.imp h, b, kp, m, hl⟩
end
section
variable {X : Cx} {j k : Nat} {x : Str} {ps : List Str} {sp : Sp} {p pos : Pos} {e : Expr} {es : List Expr} {t : TA}
theorem pe_f (D : Dfn X.prog X.w X.K X.mg X.base j x ps sp) (hr : Room k X.A) (hjk : j ≤ k) (hg : Gl X x) (ha : PA X (e :: es) t) (hdb : (x == ("__debug__" : Str)) = false := by decide)
    (he : starEach (e :: es) X.env = (false, eval e X.env) :: starEach es X.env := by rfl) (hpl : (backTo pos (starEach es X.env)).any (·.1) = false := by rfl) : PE X (.Call (.Name x p) (e :: es) [] pos) (tCall sp [] E0 t) := by
  obtain ⟨f, fd, F, b, kp, m, _⟩ := D
  exact pe_call F (hr.mono hjk) hg m kp b .nil pass0 ha hdb he hpl
end

section
variable {X : Cx}
def CDivW (_ j : Int) : Prop := 0 < j ∧ j < 2 ^ 100
theorem op_fdivW : OpR X (binaryOp .FloorDiv) (rI CDivW fun i j => .int (i / j)) := opI fun i j _ _ _ _ _ hc q => by
  have h1 : (0 : Int) < j := hc.1
  have h2 : j < 2 ^ 100 := hc.2
  refine floordiv_int (by omega) (by rw [Int.fdiv_eq_ediv_of_nonneg i (by omega)]; exact q) (.inl (PyProof.noPylong_of_log2 ?_))
  have h3 : j.natAbs < 2 ^ 100 := by omega
  have h4 : j.natAbs.log2 < 100 := (Nat.log2_lt (by omega)).mpr h3
  omega
end

def KTab (P : Program) (w : World) (K : PySem.W.Frag) (a : Addr) (kvs : List (Key × V)) : Prop :=
  ∀ h : Heap, K.In h → ∃ vs, KV kvs vs ∧ h.DictOf (mixKind P w) a vs
section
variable {X : Cx} {o i : Expr} {pos : Pos} {td ty : TE}
def tKGet (P : Program) (w : World) (K : PySem.W.Frag) (td ty : TE) : TE := fun σ H Q => td σ H fun x H1 => ty σ H1 fun y H2 => ∃ a kvs k v, x = .ref a ∧ y = kV k ∧ KTab P w K a kvs ∧ valV kvs k = some v ∧ Q v H2
theorem pe_kget (ho : PE X o td) (hi : PE X i ty) (hs : NoSl i) : PE X (.Subscript o i pos) (tKGet X.prog X.w X.K td ty) := by
  intro pins s σ H Q I h
  refine subD_of PySem.F.slot_dict_getitem.lookup hs (thn (ho pins s σ H _ I h) fun u s1 ⟨x, H1, I1, rx, q1⟩ => thn (hi pins s1 σ H1 _ I1 q1) fun iv s2 ⟨y, H2, I2, ry, a, kvs, k, v, ex, ey, T, l, q2⟩ => ?_)
  subst ex
  subst ey
  obtain rfl : u = Value.ref a := rx
  obtain ⟨vs, rel, dd⟩ := T _ I2.kIn
  obtain ⟨w', hw, rw'⟩ := RelO.some_of (v := v) (o := valueAt vs k) (by rw [← l]; exact rel.val k)
  refine ⟨?_, wpAny_getItem_of (kV_is ry) dd.mapOf hw ⟨v, H2, I2.tok _, rw', q2⟩⟩
  obtain ⟨ob, es, ep, h1, h2, _⟩ := dd
  exact ⟨ob, h1, h2.1⟩
end
section
variable {K : PySem.W.Frag} {h : Heap} {mg : Str → Option Value}
theorem std_mk {x : Str} {st : Stmt} {ps : List Str} {f : Addr} {oc : Value} {od an : Option Addr} {osl : Array (Option Value)} {kV doc pm cdv ct : Value} (X : K.In h) (G : h.Ns mainGlobals mg) (a : PySem.W.nsIn K mainGlobals x = some (some (.ref f)))
    (l : K.lookup f = some ⟨oc, od, .func (PySem.W.fnOf x x (defArgs st) (defBody st) (defScope st) .none kV doc pm an cdv ct), osl⟩) (c : PySem.W.codeIn K cdv x = true) (k : PySem.W.keepIn K (.ref f) = true)
    (hb : ∀ (kV doc pm : Value) (an : Option Addr) (cdv ct : Value) (us : List Value), us.length = ps.length → bindArgs (PySem.W.fnOf x x (defArgs st) (defBody st) (defScope st) .none kV doc pm an cdv ct) ⟨us, []⟩ = pure (ps.zip us)) : Std K mg x st ps :=
  ⟨f, _, fun_mk l c k, (fun_mk l c k).binds hb, PySem.W.mg_of X G a⟩
theorem law_mk {P : Program} {w : World} {sp : Sp} {n : Nat} {st : Stmt} {x : Str} {fa f : Addr} {oc : Value} {od an : Option Addr} {osl : Array (Option Value)} {kV doc pm cdv ct : Value} (X : K.In h) (G : h.Ns mainGlobals mg) (hfa : mg "law" = some (.ref fa)) (a : PySem.W.nsIn K mainGlobals "law" = some (some (.ref f)))
    (l : K.lookup f = some ⟨oc, od, .func (PySem.W.fnOf "law" "law" (defArgs st) (defBody st) (defScope st) .none kV doc pm an cdv ct), osl⟩)
    (hb : ∀ (s : Shared) (v : Value), BindsTo s (PySem.W.fnOf "law" "law" (defArgs st) (defBody st) (defScope st) .none kV doc pm an cdv ct) ⟨[v], []⟩ [(x, v)])
    (H : ∀ base : Heap, K.In base → base.Ns mainGlobals mg → Dfn P w K mg base n "law" [x] sp) :
    ∃ fd : FuncData, (∀ (s : Shared) (v : Value), BindsTo s fd ⟨[v], []⟩ [(x, v)]) ∧ ∀ base : Heap, K.In base → base.Ns mainGlobals mg → FnOk P w K mg base CX0 n fa fd [x] sp := by
  have e := hfa.symm.trans (PySem.W.mg_of X G a)
  cases e
  refine ⟨_, hb, fun base kb nb => ?_⟩
  obtain ⟨f', fd', F, _, _, m, o, lk, hd⟩ := H base kb nb
  have e2 := m.symm.trans hfa
  cases e2
  rw [l] at lk
  cases lk
  cases hd
  exact F
end
end L2

namespace L2
open PySem PySem.Spec PyProof.Rows

structure BI (mg : Str → Option Value) : Prop where
  len : mg "len" = none
  range : mg "range" = none
  max : mg "max" = none
  min : mg "min" = none
  isinstance : mg "isinstance" = none
  sum : mg "sum" = none
  zip : mg "zip" = none
  int_ : mg "int" = none
  list_ : mg "list" = none
  str_ : mg "str" = none
  bool : mg "bool" = none
  tuple : mg "tuple" = none
  sorted : mg "sorted" = none
  all : mg "all" = none
  any : mg "any" = none
  enumerate : mg "enumerate" = none
  set : mg "set" = none
  dict : mg "dict" = none
  repr : mg "repr" = none
  super : mg "super" = none
  ValueError : mg "ValueError" = none
def Box (H : Hp) (b : Addr) : Prop := ∃ x y : Int, H b = some (.lst [.int x, .int y])
theorem atI_0 {α : Type} {a : α} {l : List α} : atI (a :: l) 0 = some a := atI_nat (j := 0) rfl
theorem atI_1 {α : Type} {a b : α} {l : List α} : atI (a :: b :: l) 1 = some b := atI_nat (j := 1) rfl
theorem atI_2 {α : Type} {a b c : α} {l : List α} : atI (a :: b :: c :: l) 2 = some c := atI_nat (j := 2) rfl
theorem atI_3 {α : Type} {a b c d : α} {l : List α} : atI (a :: b :: c :: d :: l) 3 = some d := atI_nat (j := 3) rfl
theorem ixN_20 : ixN 2 0 = some 0 := rfl
theorem ixN_21 : ixN 2 1 = some 1 := rfl
end L2

namespace L2
open PySem PySem.Spec PyProof.Rows

mutual
inductive TD (H : Hp) : V → PyData → Prop
  | non : TD H .non .none
  | bl (b : Bool) : TD H (.bl b) (.bool b)
  | int (i : Int) : TD H (.int i) (.int i)
  | str (x : Str) : TD H (.str x) (.str x)
  | tup {a : Addr} {xs : List V} {ds : List PyData} : H a = some (.tup xs) → TDs H xs ds → TD H (.ref a) (.tuple ds)
inductive TDs (H : Hp) : List V → List PyData → Prop
  | nil : TDs H [] []
  | cons {v : V} {vs : List V} {d : PyData} {ds : List PyData} : TD H v d → TDs H vs ds → TDs H (v :: vs) (d :: ds)
end
theorem TDs.length {H : Hp} : ∀ {vs : List V} {ds : List PyData}, TDs H vs ds → vs.length = ds.length
  | _, _, .nil => rfl
  | _, _, .cons _ b => congrArg (· + 1) b.length
inductive Kd where
  | num
  | fn (a b : Kd)
def Kd.d : Kd → PyData
  | .num => .str "num"
  | .fn a b => .tuple [a.d, b.d]
inductive Tm where
  | num (n : Int)
  | name (x : Str)
  | fn (x : Str) (k : Kd) (b : Tm)
  | call (f a : Tm)
  | let_ (x : Str) (a b : Tm)
  | rec_ (x : Str) (k : Kd) (b : Tm)
  | op (s : Str) (a b : Tm)
  | if_ (c a b : Tm)
def Tm.d : Tm → PyData
  | .num n => .tuple [.str "num", .int n]
  | .name x => .tuple [.str "name", .str x]
  | .fn x k b => .tuple [.str "fn", .str x, k.d, b.d]
  | .call f a => .tuple [.str "call", f.d, a.d]
  | .let_ x a b => .tuple [.str "let", .str x, a.d, b.d]
  | .rec_ x k b => .tuple [.str "rec", .str x, k.d, b.d]
  | .op s a b => .tuple [.str "op", .str s, a.d, b.d]
  | .if_ c a b => .tuple [.str "if", c.d, a.d, b.d]
def Tm.parts : Tm → List Tm
  | .num n => [.num n]
  | .name x => [.name x]
  | .fn x k b => .fn x k b :: b.parts
  | .call f a => .call f a :: (f.parts ++ a.parts)
  | .let_ x a b => .let_ x a b :: (a.parts ++ b.parts)
  | .rec_ x k b => .rec_ x k b :: b.parts
  | .op s a b => .op s a b :: (a.parts ++ b.parts)
  | .if_ c a b => .if_ c a b :: (c.parts ++ (a.parts ++ b.parts))
def Tm.tx (n : Nat) : Tm → Prop
  | .num _ => True
  | .name x => x.length ≤ n
  | .fn x _ b => x.length ≤ n ∧ b.tx n
  | .call f a => f.tx n ∧ a.tx n
  | .let_ x a b => x.length ≤ n ∧ a.tx n ∧ b.tx n
  | .rec_ x _ b => x.length ≤ n ∧ b.tx n
  | .op s a b => s.length ≤ n ∧ a.tx n ∧ b.tx n
  | .if_ c a b => c.tx n ∧ a.tx n ∧ b.tx n
end L2
namespace L2
open PySem PySem.Spec PyProof.Rows
theorem Box.ne {H : Hp} {b a : Addr} (h : Box H b) (e : H a = none) : b ≠ a := by
  obtain ⟨x, y, h⟩ := h
  exact ne_of_none h e
end L2

namespace L2
open PySem PySem.Spec PyProof.Rows
section
variable {X : Cx}
def rRepS : R2 := fun x y H Q => ∃ z k, x = .str z ∧ y = .int k ∧ (k = 0 ∨ k = 1) ∧ Q (.str (if k = 1 then z else Str.empty)) H
theorem op_repS : OpR X (binaryOp .Mult) rRepS := by
  intro pins s σ H x y v u Q I rx ry h
  obtain ⟨z, k, rfl, rfl, hk, q⟩ := h
  obtain ⟨t, rfl⟩ := rx
  obtain ⟨t', rfl⟩ := ry
  rcases hk with rfl | rfl
  · exact P.mul_str_none (by decide) (by decide) ⟨.str Str.empty, H, I.tok _, ⟨_, rfl⟩, q⟩
  · refine P.mul_str (by decide) (fun _ h => absurd h (by simp)) (fun _ h => absurd h (by simp)) ?_
    exact ⟨.str z, H, I, ⟨_, rfl⟩, q⟩
end

end L2

namespace L2
open PySem PySem.Spec PyProof.Rows
section
variable {X : Cx}
theorem pvl (i : Nat) {x : Str} {pos : Pos} (hN : X.N[i]? = some x := by kernel_rfl) (hv : X.env.scope.names.lookup x = some .local := by kernel_rfl) (hd : (x == ("__debug__" : Str)) = false := by kernel_rfl) (hcd : (x == ("__classdict__" : Str)) = false := by kernel_rfl) : PE X (.Name x pos) (tVar i) := pe_var hN (.inl hv) hd hcd
theorem pvc (i : Nat) {x : Str} {pos : Pos} (hN : X.N[i]? = some x := by kernel_rfl) (hv : X.env.scope.names.lookup x = some .cell := by kernel_rfl) (hd : (x == ("__debug__" : Str)) = false := by kernel_rfl) (hcd : (x == ("__classdict__" : Str)) = false := by kernel_rfl) : PE X (.Name x pos) (tVar i) := pe_var hN (.inr (.inl hv)) hd hcd
theorem ps_setl (i : Nat) {x : Str} {e : Expr} {te : TE} {pos pos' : Pos} (hN : X.N.Nodup) (he : PE X e te) (hi : X.N[i]? = some x := by kernel_rfl) (hx : X.env.scope.names.lookup x = some .local := by kernel_rfl) (hs : swapsWith e (some (.Name x pos')) pos.line X.env = pure false := by rfl) :
    PS X (.Assign [.Name x pos'] e pos) (tAsg te (gName i)) := ps_set hN hi (.inl hx) he hs (.inr hx)
theorem pg_l (i : Nat) {x : Str} {pos : Pos} (hN : X.N.Nodup) (hi : X.N[i]? = some x := by kernel_rfl) (hx : X.env.scope.names.lookup x = some .local := by kernel_rfl) : PG X (.Name x pos) (gName i) := pg_name hN hi (.inl hx) (.inr hx)
theorem ne_of_beq {x y : Str} (h : (x == y) = false) : x ≠ y := fun e => by subst e; simp at h
variable {j k : Nat} {x : Str} {ps : List Str} {sp : Sp} {p pos : Pos} {e : Expr} {es : List Expr} {t : TA} {id T : String} {r : List V → Hp → VK → Prop}
theorem pe_g (D : Dfn X.prog X.w X.K X.mg X.base j x ps sp) (hr : Room k X.A) (hjk : j ≤ k) (ha : PA X (e :: es) t) (hg : X.env.kindOf x = some .globalImplicit := by kernel_rfl) (hdb : (x == ("__debug__" : Str)) = false := by kernel_rfl)
    (he : starEach (e :: es) X.env = (false, eval e X.env) :: starEach es X.env := by rfl) (hpl : (backTo pos (starEach es X.env)).any (·.1) = false := by rfl) : PE X (.Call (.Name x p) (e :: es) [] pos) (tCall sp [] E0 t) := pe_f D hr hjk hg ha hdb he hpl
theorem pe_cb (hc : CallR X (.builtin id) r) (hm : X.mg x = none) (ha : PA X (e :: es) t) (hg : X.env.kindOf x = some .globalImplicit := by kernel_rfl) (hv : bootBuiltins x = some (.builtin id) := by kernel_rfl) (hn : (x == ("__name__" : Str)) = false := by kernel_rfl) (hdb : (x == ("__debug__" : Str)) = false := by kernel_rfl)
    (he : starEach (e :: es) X.env = (false, eval e X.env) :: starEach es X.env := by rfl) (hpl : (backTo pos (starEach es X.env)).any (·.1) = false := by rfl) : PE X (.Call (.Name x p) (e :: es) [] pos) (tCB r t) := pe_callB hc hg hm hv ha (ne_of_beq hn) hdb he hpl
theorem pe_ct (hc : CallR X (.type T) r) (hm : X.mg x = none) (ha : PA X (e :: es) t) (hg : X.env.kindOf x = some .globalImplicit := by kernel_rfl) (hv : bootBuiltins x = some (.type T) := by kernel_rfl) (hn : (x == ("__name__" : Str)) = false := by kernel_rfl) (hdb : (x == ("__debug__" : Str)) = false := by kernel_rfl)
    (he : starEach (e :: es) X.env = (false, eval e X.env) :: starEach es X.env := by rfl) (hpl : (backTo pos (starEach es X.env)).any (·.1) = false := by rfl) : PE X (.Call (.Name x p) (e :: es) [] pos) (tCB r t) := pe_callTy hc hg hm hv ha (ne_of_beq hn) hdb he hpl
end
end L2

namespace L2
open PySem PySem.Spec PyProof.Rows TL
@[irreducible] def LcB (J : It) (H1 : Hp) (g : TG) (tt : TT) (te : TE) (vs : List Nat) (σ : St) (Q : VK) : Prop := ∀ D, H1 D = none → ∃ W : Nat → Nat → Hp → Prop, (∃ m, W 0 m (upd H1 D (.lst []))) ∧ ∀ i m H, W i m H →
  (J.stop i H ∧ Q (.ref D) H) ∨ (J.go i H ∧ ∃ Nx : Hp → Prop, (∀ H', Nx H' → ∃ m', m' < m ∧ W (i + 1) m' H') ∧ ∀ x H', J.yld i H x H' → g x (wipe σ vs) H' fun σ2 H2 => wipe σ2 vs = wipe σ vs ∧ tt σ2 H2 fun b H3 =>
    if b = true then te σ2 H3 fun y H4 => ∃ acc, H4 D = some (.lst acc) ∧ acc.length < sizeLine ∧ Nx (upd H4 D (.lst (acc ++ [y]))) else Nx H3)
def LcN (D : Addr) (Nx : Hp → Prop) (y : V) (H4 : Hp) : Prop := ∃ acc, H4 D = some (.lst acc) ∧ acc.length < sizeLine ∧ Nx (upd H4 D (.lst (acc ++ [y])))
theorem lcL {K : PySem.W.Frag} {a : Addr} (xs : List V) {g : TG} {tt : TT} {te : TE} {vs : List Nat} {σ : St} {H1 : Hp} {Q : VK}
    (h : ∀ D, H1 D = none → ∃ Pv : Nat → Hp → Prop, Pv 0 (upd H1 D (.lst [])) ∧ (∀ i H, i ≤ xs.length → Pv i H → SqL K H a xs) ∧ (∀ i x H, xs[i]? = some x → Pv i H → g x (wipe σ vs) H fun σ2 H2 => wipe σ2 vs = wipe σ vs ∧ tt σ2 H2 fun b H3 => if b = true then te σ2 H3 (LcN D (Pv (i + 1))) else Pv (i + 1) H3) ∧ ∀ H, Pv xs.length H → Q (.ref D) H) :
    LcB (Itl K a) H1 g tt te vs σ Q := by
  unfold LcB
  intro D hD
  obtain ⟨Pv, h0, hl, hs, hd⟩ := h D hD
  exact lc_list Pv h0 hl hs hd
end L2

namespace L2
open PySem PySem.Spec PyProof.Rows TL
def Tm.word : Tm → Str
  | .num _ => "num" | .name _ => "name" | .fn _ _ _ => "fn" | .call _ _ => "call" | .let_ _ _ _ => "let" | .rec_ _ _ _ => "rec" | .op _ _ _ => "op" | .if_ _ _ _ => "if"
def Tm.rest : Tm → List PyData
  | .num n => [.int n]
  | .name x => [.str x]
  | .fn x k b => [.str x, k.d, b.d]
  | .call f a => [f.d, a.d]
  | .let_ x a b => [.str x, a.d, b.d]
  | .rec_ x k b => [.str x, k.d, b.d]
  | .op s a b => [.str s, a.d, b.d]
  | .if_ c a b => [c.d, a.d, b.d]
end L2
namespace L2
open PySem PySem.Spec PyProof.Rows TL
structure Wk (t : Tm) (fs ts : List Tm) : Prop where
  eq : fs ++ (ts.reverse.map Tm.parts).flatten = t.parts
theorem Wk.start (t : Tm) : Wk t [] [t] := ⟨by simp⟩
theorem Wk.fin {t : Tm} {fs : List Tm} (h : Wk t fs []) : fs = t.parts := by have := h.eq; simpa using this
end L2

namespace L2
open PySem PySem.Spec PyProof.Rows TL
def spLaw (K : PySem.W.Frag) : Sp := fun vs H Q _ => ∃ (a : Addr) (ns : List Int), vs = [.ref a] ∧ SqL K H a (ns.map V.int) ∧ ns.length ≤ 63 ∧ ∀ H', Q (.bl true) H'
end L2

namespace L2
open PySem PySem.Spec PyProof.Rows TL
theorem tupWhole {prog : Program} {w : World} {A : Around} {E : Value → Shared → Prop} {s : Shared} {tp sl : Addr} {itm : Array Value} {vl vu : Value} {lo hi : Option Int} {Q : Value → Shared → Prop} (htp : IsTup s.heap tp itm) (hsl : s.heap.IsSliceOf sl vl vu .none) (pl : IsPart vl lo) (pu : IsPart vu hi)
    (hwh : HT.sIx itm.size 0 lo = 0 ∧ HT.sIx itm.size itm.size hi = itm.size) (hq : Q (.ref tp) s) : wpAny (model prog w) A (getItem (.ref tp) (.ref sl)) Q E s := by
  obtain ⟨ob, hob, hcob, hdob⟩ := id hsl
  have hTy : s.TypeIs (.ref sl) "slice" := ⟨ob, hob, hcob⟩
  unfold getItem
  try with_reducible refine wpAny_holding ?_
  first | refine wpAny_bind (wpAny_pure ?_) | skip
  refine wpAny_bind (wpAny_sequenceKey htp.typeIs (by decide) ?_)
  refine wpAny_bind (wpAny_callSpecial?_slot (name := Str.ofString "__getitem__") htp.typeIs PyProof.Rows.slot_tuple_getitem
    (wpAny_call_entry PyProof.Rows.slot_tuple_getitem htp.typeIs entry_tuple_getitem ?_ (args_tuple_getitem _ _)))
  show wpAny _ _ (Builtin.Tuple.tupleItemsOf (.ref tp) >>= _) _ _ s
  refine wpAny_bind (tupleItemsOf_ htp ?_)
  refine wpAny_bind (wpAny_typeOf hTy ?_)
  rw [if_pos (by decide)]
  refine wpAny_bind (HT.sliceApplied_gen hsl pl pu ?_)
  have hye : (((HT.sIx itm.size 0 lo : Nat) : Int) == 0 && (1 : Int) == 1 && (HT.sIx itm.size itm.size hi - HT.sIx itm.size 0 lo) == itm.size) = true := by
    rw [hwh.1, hwh.2]
    simp
  show wpAny _ _ (if (((HT.sIx itm.size 0 lo : Nat) : Int) == 0 && (1 : Int) == 1 && (HT.sIx itm.size itm.size hi - HT.sIx itm.size 0 lo) == itm.size) = true then _ else _) _ _ s
  rw [if_pos hye]
  refine wpAny_bind ?_
  unfold Builtin.Tuple.tupleIsExact
  refine wpAny_bind (wpAny_typeOf htp.typeIs (wpAny_pure ?_))
  rw [if_pos (by decide)]
  exact wpAny_bind (wpAny_rule (wpAny_pure ⟨_, rfl, wpAny_pure hq⟩))
end L2
namespace L2
open PySem PySem.Spec PyProof.Rows TL
abbrev TJ := Str → St → Hp → VK → Prop
end L2

namespace Dk
open PySem PySem.Spec PyProof.Rows L2
mutual
def shp : PyData → Bool
  | .none => true
  | .int _ => true
  | .str x => PyData.strOk x
  | .tuple xs => shps xs
  | _ => false
def shps : List PyData → Bool
  | [] => true
  | x :: xs => shp x && shps xs
end
mutual
def hsh (w : World) : PyData → Int
  | .int i => hashInt i
  | .str x => hashStr w x
  | .none => 0xFCA86420
  | .tuple xs => reduceHash (Builtin.Tuple.tupleHashOf (hshs w xs))
  | _ => 0
def hshs (w : World) : List PyData → List Int
  | [] => []
  | x :: xs => hsh w x :: hshs w xs
end
mutual
def drw : PyData → Nat
  | .tuple xs => drws xs + 1
  | _ => 1
def drws : List PyData → Nat
  | [] => 0
  | x :: xs => drw x + drws xs
end
mutual
theorem shp_lay : ∀ d : PyData, shp d = true → d.canLay0 = true
  | .none, _ => rfl
  | .int _, _ => rfl
  | .str x, h => by simpa [shp, PyData.canLay0] using h
  | .tuple xs, h => by rw [PyData.canLay0]; exact shps_lay xs (by simpa [shp] using h)
  | .bool _, h => by simp [shp] at h
  | .list _, h => by simp [shp] at h
  | .dict _, h => by simp [shp] at h
theorem shps_lay : ∀ ds : List PyData, shps ds = true → PyData.canLayAll0 ds = true
  | [], _ => rfl
  | d :: ds, h => by
    have h' : shp d = true ∧ shps ds = true := by simpa [shps] using h
    rw [PyData.canLayAll0, shp_lay d h'.1, shps_lay ds h'.2]; rfl
end
mutual
theorem eqv_iff : ∀ d e : PyData, shp d = true → shp e = true → (PyData.eqv d e = true ↔ d = e)
  | .none, e, _, h => by cases e <;> first | (simp [shp] at h; done) | simp [PyData.eqv]
  | .int i, e, _, h => by cases e <;> first | (simp [shp] at h; done) | simp [PyData.eqv]
  | .str x, e, _, h => by cases e <;> first | (simp [shp] at h; done) | simp [PyData.eqv]
  | .tuple xs, e, h1, h => by
    cases e <;> first | (simp [shp] at h; done) | (simp [PyData.eqv]; done) | skip
    rename_i ys
    rw [PyData.eqv, PyData.tuple.injEq]
    exact eqvs_iff xs ys (by simpa [shp] using h1) (by simpa [shp] using h)
  | .bool _, _, h, _ => by simp [shp] at h
  | .list _, _, h, _ => by simp [shp] at h
  | .dict _, _, h, _ => by simp [shp] at h
theorem eqvs_iff : ∀ ds es : List PyData, shps ds = true → shps es = true → (PyData.eqvAll ds es = true ↔ ds = es)
  | [], [], _, _ => by simp [PyData.eqvAll]
  | [], _ :: _, _, _ => by simp [PyData.eqvAll]
  | _ :: _, [], _, _ => by simp [PyData.eqvAll]
  | d :: ds, e :: es, h1, h2 => by
    have h1' : shp d = true ∧ shps ds = true := by simpa [shps] using h1
    have h2' : shp e = true ∧ shps es = true := by simpa [shps] using h2
    rw [PyData.eqvAll, Bool.and_eq_true, List.cons.injEq, eqv_iff d e h1'.1 h2'.1, eqvs_iff ds es h1'.2 h2'.2]
end
mutual
theorem rd_keeps {h h' : Heap} {d : Addr} {o : Obj} {es : Array DictEntry} {ep : Nat} (hd : h.get? d = some o) (hx : o.data = .dict es ep) (hs : Heap.SameBut d h h') : ∀ (k : PyData) (v : Value) (as : List Addr), shp k = true → Reads h v k as → Reads h' v k as
  | .none, _, _, _, r => by cases r; exact .none
  | .int _, _, _, _, r => by cases r; exact .int _ _
  | .str _, _, _, _, r => by cases r; exact .str _ _
  | .tuple xs, _, _, hk, r => by
    cases r with
    | @tuple a ob vs n _ _ h1 h2 h3 h4 =>
      refine .tuple ((hs.2 a fun e => ?_).trans h1) h2 h3 (rds_keeps hd hx hs xs _ _ (by simpa [shp] using hk) h4)
      subst e
      rw [hd] at h1
      cases h1
      rw [hx] at h3
      cases h3
  | .bool _, _, _, h, _ => by simp [shp] at h
  | .list _, _, _, h, _ => by simp [shp] at h
  | .dict _, _, _, h, _ => by simp [shp] at h
theorem rds_keeps {h h' : Heap} {d : Addr} {o : Obj} {es : Array DictEntry} {ep : Nat} (hd : h.get? d = some o) (hx : o.data = .dict es ep) (hs : Heap.SameBut d h h') : ∀ (ks : List PyData) (vs : List Value) (as : List Addr), shps ks = true → ReadsAll h vs ks as → ReadsAll h' vs ks as
  | [], _, _, _, r => by cases r; exact .nil
  | k :: ks, _, _, hk, r => by
    have hk' : shp k = true ∧ shps ks = true := by simpa [shps] using hk
    cases r with
    | cons r1 r2 => exact .cons (rd_keeps hd hx hs k _ _ hk'.1 r1) (rds_keeps hd hx hs ks _ _ hk'.2 r2)
end
section
variable {prog : Program} {w : World}
theorem hash_none {E : Value → Shared → Prop} {A : Around} {s : Shared} {Q : Int → Shared → Prop} (q : Q 0xFCA86420 { s with toks := s.toks + 1 }) : wpAny (model prog w) A (pyHash .none) Q E s := by
  have hn : [Value.none].any Value.onHeap = false := rfl
  have hT : s.TypeIs .none "NoneType" := rfl
  unfold pyHash
  unfold pyHashByItsType
  refine wpAny_bind ?_
  rw [cRoomFor, if_neg (by rw [hn]; exact Bool.false_ne_true)]
  refine wpAny_pure (wpAny_bind (wpAny_specialOf hT PySem.F.slot_NoneType_hash.lookup (show wpAny _ _ (if (some (Value.builtin "NoneType.__hash__") == some Value.none) = true then _ else _) Q E s from ?_)))
  rw [if_neg (by rw [beq_builtin_none]; exact Bool.false_ne_true)]; refine wpAny_bind (wpAny_specialOf hT PySem.F.slot_NoneType_hash.lookup (show wpAny _ _ (callSpecialIfBoundUnlessNone? Value.none "__hash__" _ >>= _) Q E s from ?_))
  refine wpAny_bind (wpAny_callSpecialIfBoundUnlessNone?_slot hT PySem.F.slot_NoneType_hash (wpAny_call_entry PySem.F.slot_NoneType_hash hT PySem.F.entry_NoneType_hash (show wpAny _ _ (do ret (← mkInt 0xFCA86420)) _ _ s from wpAny_ret_mkInt ?_) (PySem.F.args_NoneType_hash_1 _)))
  show wpAny _ _ (if (decide (-(2 : Int) ^ 63 ≤ 0xFCA86420) && decide ((0xFCA86420 : Int) < 2 ^ 63)) = true then _ else _) Q E _
  rw [if_pos (by decide)]
  exact wpAny_pure q
mutual
theorem hash_ok : ∀ (d : PyData) (A : Around) (s : Shared) (v : Value) (as : List Addr) (Q : Int → Shared → Prop) (E : Value → Shared → Prop), shp d = true → A.units + d.depth < cLine → Reads s.heap v d as → Q (hsh w d) { s with toks := s.toks + drw d } →
    wpAny (model prog w) A (pyHash v) Q E s
  | .none, A, s, _, _, Q, E, _, _, r, q => by cases r; exact hash_none q
  | .int i, A, s, _, _, Q, E, _, _, r, q => by cases r; exact wpAny_pyHash_int q
  | .str x, A, s, _, _, Q, E, _, _, r, q => by cases r; exact wpAny_pyHash_str q
  | .tuple xs, A, s, _, as, Q, E, hk, hu, r, q => by
    cases r with
    | @tuple a o vs n _ _ ho hc hd hr =>
      have hT : s.TypeIs (.ref a) "tuple" := ⟨o, ho, hc⟩
      have hu0 : A.units < cLine := by omega
      unfold pyHash
      unfold pyHashByItsType
      refine wpAny_bind (wpAny_cRoomFor_or (.inr hu0) (wpAny_bind (wpAny_specialOf hT PySem.F.slot_tuple_hash.lookup (show wpAny _ _ (if (some (Value.builtin "tuple.__hash__") == some Value.none) = true then _ else _) Q E s from ?_))))
      rw [if_neg (by rw [beq_builtin_none]; exact Bool.false_ne_true)]; refine wpAny_bind (wpAny_specialOf hT PySem.F.slot_tuple_hash.lookup (show wpAny _ _ (callSpecialIfBoundUnlessNone? (.ref a) "__hash__" _ >>= _) Q E s from ?_))
      refine wpAny_bind (wpAny_callSpecialIfBoundUnlessNone?_slot hT PySem.F.slot_tuple_hash (wpAny_call_entry PySem.F.slot_tuple_hash hT PySem.F.entry_tuple_hash ?_ (PySem.F.args_tuple_hash_1 _)))
      refine (show wpAny _ _ (Builtin.Tuple.tupleItemsOf (.ref a) >>= _) _ _ s from wpAny_bind (wpAny_tupleItemsOf ho hd (wpAny_bind ?_)))
      rw [← Array.forIn_toList]
      refine hashes_ok xs vs.toList as [] #[] A.in1 s _ _ (by simpa [shp] using hk) (by simp only [PyData.depth] at hu; show A.in1.units + _ < _; simp only [Around.in1_units]; omega) hr rfl (fun b hb => ?_)
      show wpAny _ _ (retInt (Builtin.Tuple.tupleHashOf b.toList)) _ _ _
      rw [hb, List.nil_append]
      refine wpAny_ret_mkInt ?_
      show wpAny _ _ (if (decide (-(2 : Int) ^ 63 ≤ Builtin.Tuple.tupleHashOf (hshs w xs)) && decide (Builtin.Tuple.tupleHashOf (hshs w xs) < 2 ^ 63)) = true then _ else _) Q E _
      simp only [hsh, reduceHash, drw] at q
      by_cases hr : (decide (-(2 : Int) ^ 63 ≤ Builtin.Tuple.tupleHashOf (hshs w xs)) && decide (Builtin.Tuple.tupleHashOf (hshs w xs) < 2 ^ 63)) = true
      · rw [if_pos hr] at q ⊢
        exact wpAny_pure q
      · rw [if_neg hr] at q ⊢
        exact wpAny_bind (wpAny_rule (wpAny_pure q))
  | .bool _, _, _, _, _, _, _, h, _, _, _ => by simp [shp] at h
  | .list _, _, _, _, _, _, _, h, _, _, _ => by simp [shp] at h
  | .dict _, _, _, _, _, _, _, h, _, _, _ => by simp [shp] at h
theorem hashes_ok : ∀ (ds : List PyData) (vs : List Value) (as : List Addr) (pre : List Int) (b : Array Int) (A : Around) (s : Shared) (Q : Array Int → Shared → Prop) (E : Value → Shared → Prop), shps ds = true → A.units + PyData.depthAll ds < cLine → ReadsAll s.heap vs ds as → b.toList = pre → 
    (∀ c : Array Int, c.toList = pre ++ hshs w ds → Q c { s with toks := s.toks + drws ds }) →
    wpAny (model prog w) A (forIn vs b fun x r => do let hs := r; let y ← pyHash x; let hs := hs.push y; pure PUnit.unit; pure (ForInStep.yield hs)) Q E s
  | [], _, _, pre, b, A, s, Q, E, _, _, r, hb, q => by
    cases r
    rw [List.forIn_nil]
    exact wpAny_pure (by simpa [hb, hshs, drws] using q b)
  | d :: ds, _, _, pre, b, A, s, Q, E, hk, hu, r, hb, q => by
    have hk' : shp d = true ∧ shps ds = true := by simpa [shps] using hk
    simp only [PyData.depthAll] at hu
    cases r with
    | @cons v vs _ _ as bs r1 r2 =>
      rw [List.forIn_cons]
      refine wpAny_bind (wpAny_bind (hash_ok d A s v as _ E hk'.1 (by omega) r1 ?_))
      refine wpAny_pure (hashes_ok ds vs bs (pre ++ [hsh w d]) (b.push (hsh w d)) A { s with toks := s.toks + drw d } Q E hk'.2 (by omega) r2 (by simp [hb]) fun c hc => ?_)
      have := q c (by rw [hc]; simp [hshs])
      simpa [drws, Nat.add_assoc] using this
end
theorem shps_mem : ∀ {ds : List PyData}, shps ds = true → ∀ d ∈ ds, shp d = true
  | d :: ds, h, e, he => by
    have h' : shp d = true ∧ shps ds = true := by simpa [shps] using h
    rcases List.mem_cons.mp he with q | q
    · subst q; exact h'.1
    · exact shps_mem h'.2 e q
mutual
theorem quiet_ok : ∀ (d : PyData) (n : Nat) (A : Around) (s : Shared) (v : Value) (as : List Addr) (Q : Bool → Shared → Prop) (E : Value → Shared → Prop), shp d = true → d.depth ≤ n → Reads s.heap v d as → Q true s → wpAny (model prog w) A (eqIsQuiet n v) Q E s
  | .none, n, A, s, _, _, Q, E, _, _, r, q => by cases r; rw [eqIsQuiet_byValue n rfl]; exact wpAny_pure q
  | .int i, n, A, s, _, _, Q, E, _, _, r, q => by cases r; rw [eqIsQuiet_byValue n rfl]; exact wpAny_pure q
  | .str x, n, A, s, _, _, Q, E, _, _, r, q => by cases r; rw [eqIsQuiet_byValue n rfl]; exact wpAny_pure q
  | .tuple xs, 0, A, s, _, _, Q, E, _, hn, _, _ => by simp [PyData.depth] at hn
  | .tuple xs, n + 1, A, s, _, as, Q, E, hk, hn, r, q => by
    cases r with
    | @tuple a o vs m _ _ ho hc hd hr =>
      have hT : s.TypeIs (.ref a) "tuple" := ⟨o, ho, hc⟩
      unfold eqIsQuiet
      refine wpAny_bind (wpAny_specialOf hT PySem.F.slot_tuple_eq.lookup (show wpAny _ _ (isInstance (.ref a) (.type "tuple") >>= _) _ _ s from wpAny_bind (wpAny_isInstance hT isSubtype_tuple_tuple ?_)))
      rw [if_neg (by simp)]
      refine wpAny_bind (wpAny_seqItems ho hd (wpAny_bind ?_))
      show wpAny _ _ (forIn vs _ _) _ _ s
      rw [← Array.forIn_toList]
      refine quiets_ok xs n vs.toList as A s _ _ (by simpa [shp] using hk) (by simp only [PyData.depth] at hn; omega) hr ?_
      exact wpAny_pure q
  | .bool _, _, _, _, _, _, _, _, h, _, _, _ => by simp [shp] at h
  | .list _, _, _, _, _, _, _, _, h, _, _, _ => by simp [shp] at h
  | .dict _, _, _, _, _, _, _, _, h, _, _, _ => by simp [shp] at h
theorem quiets_ok : ∀ (ds : List PyData) (n : Nat) (vs : List Value) (as : List Addr) (A : Around) (s : Shared) (Q : Option Bool × PUnit → Shared → Prop) (E : Value → Shared → Prop), shps ds = true → PyData.depthAll ds ≤ n → ReadsAll s.heap vs ds as → Q (none, ⟨⟩) s →
    wpAny (model prog w) A (forIn vs (none, (⟨⟩ : PUnit)) fun y _ => do
      let b ← eqIsQuiet n y
      if (!b) = true then pure (ForInStep.done (some false, PUnit.unit)) else do
        pure PUnit.unit
        pure (ForInStep.yield (none, PUnit.unit))) Q E s
  | [], n, _, _, A, s, Q, E, _, _, r, q => by cases r; rw [List.forIn_nil]; exact wpAny_pure q
  | d :: ds, n, _, _, A, s, Q, E, hk, hn, r, q => by
    have hk' : shp d = true ∧ shps ds = true := by simpa [shps] using hk
    simp only [PyData.depthAll] at hn
    cases r with
    | @cons v vs _ _ as bs r1 r2 =>
      rw [List.forIn_cons]
      refine wpAny_bind (wpAny_bind (quiet_ok d n A s v as _ E hk'.1 (by omega) r1 ?_))
      rw [if_neg (by simp)]
      exact wpAny_pure (quiets_ok ds n vs bs A s Q E hk'.2 (by omega) r2 q)
end
def keyOk : PyData → Bool
  | .tuple xs => shps xs && decide (PyData.depthAll xs ≤ 7)
  | _ => false
theorem keyOk_shp : ∀ {d : PyData}, keyOk d = true → shp d = true ∧ d.depth ≤ 8
  | .tuple xs, h => by
    simp only [keyOk, Bool.and_eq_true, decide_eq_true_eq] at h
    exact ⟨by simpa [shp] using h.1, by simp only [PyData.depth]; omega⟩
noncomputable instance decPy : DecidableEq PyData := fun _ _ => Classical.propDecidable _
noncomputable def deepKind (prog : Program) (w : World) : HeapKind prog w PyData where
  is := fun h k a => keyOk k = true ∧ ∃ as, Reads h (.ref a) k as
  hash := hsh w
  draws := drw
  room := fun A => A.units + 16 < cLine
  inj := fun {h a x y} hx hy => by
    obtain ⟨h1, as, r1⟩ := hx
    obtain ⟨h2, bs, r2⟩ := hy
    exact SeqAt.Reads.unique x y _ as bs (shp_lay x (keyOk_shp h1).1) r1 r2
  keeps := fun {h h' k a d o es ep} hx hd ho hs => by
    obtain ⟨h1, as, r1⟩ := hx
    exact ⟨h1, as, rd_keeps hd ho hs k _ as (keyOk_shp h1).1 r1⟩
  pyHash := fun {A E s k a Q} hu hx q => by
    obtain ⟨h1, as, r1⟩ := hx
    have := (keyOk_shp h1).2
    exact hash_ok k A s _ as Q E (keyOk_shp h1).1 (by omega) r1 q
  eqBool := fun {A E s x y a b Q} hu hx hy q => by
    obtain ⟨h1, as, r1⟩ := hx
    obtain ⟨h2, bs, r2⟩ := hy
    have d1 := (keyOk_shp h1).2
    have e : PyData.eqv x y = decide (x = y) := by
      by_cases z : x = y
      · rw [decide_eq_true z]; exact (eqv_iff x y (keyOk_shp h1).1 (keyOk_shp h2).1).mpr z
      · rw [decide_eq_false z]
        cases hz : PyData.eqv x y with
        | false => rfl
        | true => exact absurd ((eqv_iff x y (keyOk_shp h1).1 (keyOk_shp h2).1).mp hz) z
    exact SeqAt.eqBoolOverData prog w A E s _ _ x y as bs Q r1 r2 (shp_lay x (keyOk_shp h1).1) (shp_lay y (keyOk_shp h2).1) (by have := Nat.min_le_left x.depth y.depth; omega) (by rw [e]; exact q)
  quiet := fun {A E s k a Q} hx q => by
    obtain ⟨h1, as, r1⟩ := hx
    exact quiet_ok k 8 A s _ as Q E (keyOk_shp h1).1 (keyOk_shp h1).2 r1 q
end
def KTabD (P : Program) (w : World) (K : PySem.W.Frag) (a : Addr) (ks : List PyData) (vs : List V) : Prop :=
  ∃ (o : Obj) (es : Array DictEntry) (ep : Nat) (us : List (PyData × Addr × Value)), K.lookup a = some o ∧ o.ExactDict ∧ o.data = .dict es ep ∧ es.toList = us.map (entryOfKey (deepKind P w)) ∧ us.map (·.1) = ks ∧ ks.Nodup ∧
    (∀ h, K.In h → ∀ x ∈ us, (deepKind P w).is h x.1 x.2.1) ∧ Vals vs (us.map (·.2.2))
def DkO (P : Program) (w : World) (a : Addr) (xs : List (PyData × Addr × V)) (h : Heap) : Prop :=
  ∃ (o : Obj) (es : Array DictEntry) (ep : Nat) (us : List (PyData × Addr × Value)), h.get? a = some o ∧ o.ExactDict ∧ o.data = .dict es ep ∧ es.toList = us.map (entryOfKey (deepKind P w)) ∧
    Paired (fun (x : PyData × Addr × V) (u : PyData × Addr × Value) => x.1 = u.1 ∧ x.2.1 = u.2.1 ∧ RelV x.2.2 u.2.2) xs us
end Dk

namespace Ab
open PySem PySem.Spec PyProof.Rows L2
inductive D where
  | non | bl (b : Bool) | int (i : Int) | str (x : Str) | ty (n : String) | fn (i : Nat) | tup (xs : List D) | ref (k : Nat)
  /-- a list that nothing changes (the script); a dict of the module's top -/
  | lro (xs : List D) | dro (ks vs : List D)
  /-- a dict of the module's top whose keys are tuples -/
  | drt (ks vs : List D)
  /-- a def of the module, by its name -/
  | df (n : Str)
inductive O where
  | lst (xs : List D) | dct (kvs : List (Key × D))
  /-- a dict while it is walked -/
  | dfz (kvs : List (Key × D))
  /-- an exception that was caught: its class, its field -/
  | exc (x : D)
  /-- a set without members -/
  | set0
  /-- a dict whose keys are tuples -/
  | dcd (kvs : List (D × D))
  /-- an instance of an own class: the class's name, the attributes -/
  | ins (i : Str) (fs : List (Str × D))
def keyD : Key → D
  | .inl i => .int i
  | .inr x => .str x
abbrev Sto := List O
mutual
def pyP : D → Option PyData
  | .non => some .none
  | .bl b => some (.bool b)
  | .int i => some (.int i)
  | .str x => some (.str x)
  | .tup xs => (pyPs xs).map .tuple
  | .lro xs => (pyPs xs).map .list
  | _ => none
def pyPs : List D → Option (List PyData)
  | [] => some []
  | d :: ds => match pyP d, pyPs ds with
    | some a, some b => some (a :: b)
    | _, _ => none
end
inductive R (α : Type) where
  | ok (a : α) (S : Sto) | ex (x : D) (S : Sto) | no
abbrev M (α : Type) := Sto → R α
def R.bind {α β : Type} (r : R α) (k : α → M β) : R β := match r with
  | .ok a S => k a S
  | .ex x S => .ex x S
  | .no => .no
@[simp] theorem R.bind_ok {α β : Type} (a : α) (S : Sto) (k : α → M β) : (R.ok a S).bind k = k a S := rfl
@[simp] theorem R.bind_ex {α β : Type} (x : D) (S : Sto) (k : α → M β) : (R.ex x S : R α).bind k = .ex x S := rfl
@[simp] theorem R.bind_no {α β : Type} (k : α → M β) : (R.no : R α).bind k = .no := rfl
def ofO {α : Type} (S : Sto) : Option α → R α
  | some a => .ok a S
  | none => .no
@[simp] theorem ofO_some {α : Type} (S : Sto) (a : α) : ofO S (some a) = .ok a S := rfl
abbrev Env := List (Option D)
structure Gd where
  P : Program
  w : World
  K : PySem.W.Frag
  fa : Nat → Option Addr
  /-- the code tables of the defs that have generator expressions -/
  tb : List Addr
def Tp (g : Gd) (m : List Addr) (H : Hp) (a : Addr) (vs : List V) : Prop :=
  (a ∉ m ∧ H a = some (.tup vs)) ∨ ∃ (o : Obj) (its : Array Value) (n : Nat), g.K.lookup a = some o ∧ o.cls = .type "tuple" ∧ o.dict = none ∧ o.data = .seq its n ∧ its.size ≤ sizeLine ∧ Vals vs its.toList
def Lp (g : Gd) (m : List Addr) (H : Hp) (a : Addr) (vs : List V) : Prop :=
  (a ∉ m ∧ Rd H a (.lst vs)) ∨ ∃ (o : Obj) (its : Array Value) (n : Nat), g.K.lookup a = some o ∧ o.cls = .type "list" ∧ o.dict = none ∧ o.data = .seq its n ∧ its.size ≤ sizeLine ∧ Vals vs its.toList
mutual
inductive RD (g : Gd) (m : List Addr) (H : Hp) : D → V → Prop
  | non : RD g m H .non .non
  | bl (b : Bool) : RD g m H (.bl b) (.bl b)
  | int (i : Int) : RD g m H (.int i) (.int i)
  | str (x : Str) : RD g m H (.str x) (.str x)
  | ty (n : String) : RD g m H (.ty n) (.ty n)
  | fn {i : Nat} {a : Addr} : g.fa i = some a → RD g m H (.fn i) (.ref a)
  | tup {a : Addr} {ds : List D} {vs : List V} : Tp g m H a vs → RDs g m H ds vs → RD g m H (.tup ds) (.ref a)
  | ref {k : Nat} {a : Addr} : m[k]? = some a → RD g m H (.ref k) (.ref a)
  | lro {a : Addr} {ds : List D} {vs : List V} : Lp g m H a vs → RDs g m H ds vs → RD g m H (.lro ds) (.ref a)
  | df {n : Str} {a : Addr} : PySem.W.nsIn g.K mainGlobals n = some (some (.ref a)) → RD g m H (.df n) (.ref a)
  | dro {a : Addr} {kvs : List (Key × V)} {ds : List D} : KTab g.P g.w g.K a kvs → RDs g m H ds (kvs.map (·.2)) → RD g m H (.dro (kvs.map fun kv => keyD kv.1) ds) (.ref a)
  | drt {a : Addr} {ks : List D} {ps : List PyData} {ds : List D} {vs : List V} : pyPs ks = some ps → Dk.KTabD g.P g.w g.K a ps vs → RDs g m H ds vs → RD g m H (.drt ks ds) (.ref a)
inductive RDs (g : Gd) (m : List Addr) (H : Hp) : List D → List V → Prop
  | nil : RDs g m H [] []
  | cons {d : D} {ds : List D} {v : V} {vs : List V} : RD g m H d v → RDs g m H ds vs → RDs g m H (d :: ds) (v :: vs)
end
def RK (g : Gd) (m : List Addr) (H : Hp) (kd : List (Key × D)) (kv : List (Key × V)) : Prop := Paired (fun p q => p.1 = q.1 ∧ RD g m H p.2 q.2) kd kv
def RF (g : Gd) (m : List Addr) (H : Hp) (fd : List (Str × D)) (fv : List (Str × V)) : Prop := Paired (fun p q => p.1 = q.1 ∧ RD g m H p.2 q.2) fd fv
inductive XR (g : Gd) (m : List Addr) (H : Hp) : D → Value → Option Addr → Prop
  | one {i : Nat} {fld : Str} {d : D} {C a : Addr} {v : V} : g.fa i = some C → a ∉ m → H a = some (.xd [(fld, v)]) → RD g m H d v → XR g m H (.tup [.int i, .str fld, d]) (.ref C) (some a)
  | zero {i : Nat} {C : Addr} : g.fa i = some C → XR g m H (.tup [.int i]) (.ref C) none
def OR (g : Gd) (m : List Addr) (H : Hp) (a : Addr) : O → Prop
  | .lst xs => ∃ vs, H a = some (.lst vs) ∧ RDs g m H xs vs
  | .dct kvs => ∃ vs, H a = some (.dK vs) ∧ RK g m H kvs vs
  | .dfz kvs => ∃ vs od, H a = some (.frz od (.dK vs)) ∧ RK g m H kvs vs
  | .exc x => ∃ cls dx o vs, XR g m H x cls dx ∧ H a = some (.ext fun h => h.get? a = some o) ∧ o = ⟨cls, dx, .fields vs, o.slots⟩
  | .dcd kvs => ∃ xs : List (PyData × Addr × V), H a = some (.ext (Dk.DkO g.P g.w a xs)) ∧ Paired (fun (p : D × D) (x : PyData × Addr × V) => pyP p.1 = some x.1 ∧ Dk.keyOk x.1 = true ∧ RD g m H p.1 (.ref x.2.1) ∧ RD g m H p.2 x.2.2) kvs xs ∧ (xs.map (·.1)).Nodup ∧ kvs.length ≤ sizeLine ∧ (a == sysModules) = false
  | .ins i fs => ∃ C dx vs, PySem.W.nsIn g.K mainGlobals i = some (some (.ref C)) ∧ H a = some (.ins C dx vs) ∧ RF g m H fs vs
  | .set0 => ∃ led : Bool, H a = some (.ext fun h => h.get? a = some { cls := .type "set", dict := none, data := .set #[] 0 (.fresh 0 0 led) })
structure Sim (g : Gd) (m : List Addr) (S : Sto) (H : Hp) : Prop where
  len : m.length = S.length
  nd : m.Nodup
  at_ : ∀ (k : Nat) (o : O) (a : Addr), S[k]? = some o → m[k]? = some a → OR g m H a o
  tb : ∀ t, t ∈ g.tb → t ∉ m ∧ ∃ ps : Array Value, H t = some (.tbl ps) ∧ TriplesOk ps.toList
structure Ext (m : List Addr) (H : Hp) (m' : List Addr) (H' : Hp) : Prop where
  pre : ∃ t, m' = m ++ t
  frame : ∀ a o, a ∉ m → (∀ ps, o ≠ .tbl ps) → H a = some o → H' a = some o
  tbl : ∀ a ps, H a = some (.tbl ps) → ∃ ps', H' a = some (.tbl ps')
  new : ∀ a, a ∈ m' → a ∈ m ∨ H a = none
  frz : ∀ a o u, H a = some (.frz o u) → H' a = some (.frz o u)
theorem Ext.refl (m : List Addr) (H : Hp) : Ext m H m H := ⟨⟨[], by simp⟩, fun _ _ _ _ h => h, fun _ ps h => ⟨ps, h⟩, fun _ h => .inl h, fun _ _ _ h => h⟩
theorem Ext.out {m m' : List Addr} {H H' : Hp} (e : Ext m H m' H') {a : Addr} {o : HO} (h : a ∉ m) (ho : H a = some o) : a ∉ m' := fun z => by
  rcases e.new a z with q | q
  · exact h q
  · rw [ho] at q; cases q
theorem Ext.trans {m m1 m2 : List Addr} {H H1 H2 : Hp} (e : Ext m H m1 H1) (f : Ext m1 H1 m2 H2) : Ext m H m2 H2 := by
  obtain ⟨t, ht⟩ := e.pre
  obtain ⟨u, hu⟩ := f.pre
  refine ⟨⟨t ++ u, by rw [hu, ht, List.append_assoc]⟩, fun a o h hn ho => f.frame a o (e.out h ho) hn (e.frame a o h hn ho), fun a ps h => let ⟨p1, h1⟩ := e.tbl a ps h; f.tbl a p1 h1, fun a h => ?_, fun a o u h => f.frz a o u (e.frz a o u h)⟩
  rcases f.new a h with q | q
  · exact e.new a q
  · by_cases ha : a ∈ m
    · exact .inl ha
    · cases ho : H a with
      | none => exact .inr rfl
      | some o =>
        by_cases hn : ∃ ps, o = .tbl ps
        · obtain ⟨ps, rfl⟩ := hn
          obtain ⟨p1, h1⟩ := e.tbl a ps ho
          rw [h1] at q; cases q
        · rw [e.frame a o ha (fun ps z => hn ⟨ps, z⟩) ho] at q; cases q
theorem Ext.get {m m' : List Addr} {H H' : Hp} (e : Ext m H m' H') {k : Nat} {a : Addr} (h : m[k]? = some a) : m'[k]? = some a := by
  obtain ⟨t, ht⟩ := e.pre
  rw [ht, List.getElem?_append_left (List.getElem?_eq_some_iff.mp h).1]
  exact h
theorem Tp.mono {g : Gd} {m m' : List Addr} {H H' : Hp} {a : Addr} {vs : List V} (e : Ext m H m' H') (h : Tp g m H a vs) : Tp g m' H' a vs := by
  rcases h with ⟨h1, h2⟩ | h
  · exact .inl ⟨e.out h1 h2, e.frame a _ h1 (fun _ z => nomatch z) h2⟩
  · exact .inr h
theorem Lp.mono {g : Gd} {m m' : List Addr} {H H' : Hp} {a : Addr} {vs : List V} (e : Ext m H m' H') (h : Lp g m H a vs) : Lp g m' H' a vs := by
  rcases h with ⟨h1, h2 | ⟨o, h2⟩⟩ | h
  · exact .inl ⟨e.out h1 h2, .inl (e.frame a _ h1 (fun _ z => nomatch z) h2)⟩
  · exact .inl ⟨e.out h1 h2, .inr ⟨o, e.frame a _ h1 (fun _ z => nomatch z) h2⟩⟩
  · exact .inr h
theorem Lp.sq {g : Gd} {m : List Addr} {H : Hp} {a : Addr} {vs : List V} (h : Lp g m H a vs) : SqL g.K H a vs := by
  rcases h with ⟨_, h2⟩ | h
  · exact .inl h2
  · exact .inr h
theorem Tp.sq {g : Gd} {m : List Addr} {H : Hp} {a : Addr} {vs : List V} (h : Tp g m H a vs) : SqT g.K H a vs := by
  rcases h with ⟨_, h2⟩ | h
  · exact SqT.of h2
  · obtain ⟨o, its, n, h1, h2, _, h3⟩ := h
    exact .inr ⟨o, its, n, h1, h2, h3⟩
mutual
theorem RD.mono {g : Gd} {m m' : List Addr} {H H' : Hp} (e : Ext m H m' H') : ∀ {d : D} {v : V}, RD g m H d v → RD g m' H' d v
  | _, _, .non => .non
  | _, _, .bl b => .bl b
  | _, _, .int i => .int i
  | _, _, .str x => .str x
  | _, _, .ty n => .ty n
  | _, _, .fn h => .fn h
  | _, _, .tup h r => .tup (h.mono e) (RDs.mono e r)
  | _, _, .ref h => .ref (e.get h)
  | _, _, .lro h r => .lro (h.mono e) (RDs.mono e r)
  | _, _, .dro h r => .dro h (RDs.mono e r)
  | _, _, .drt k h r => .drt k h (RDs.mono e r)
  | _, _, .df h => .df h
theorem RDs.mono {g : Gd} {m m' : List Addr} {H H' : Hp} (e : Ext m H m' H') : ∀ {ds : List D} {vs : List V}, RDs g m H ds vs → RDs g m' H' ds vs
  | _, _, .nil => .nil
  | _, _, .cons a b => .cons (RD.mono e a) (RDs.mono e b)
end
section
variable {g : Gd} {m m' : List Addr} {H H' : Hp}
theorem RDs.length : ∀ {ds : List D} {vs : List V}, RDs g m H ds vs → ds.length = vs.length
  | _, _, .nil => rfl
  | _, _, .cons _ t => by rw [List.length_cons, List.length_cons, RDs.length t]
theorem RDs.get : ∀ {ds : List D} {vs : List V} {i : Nat} {d : D}, RDs g m H ds vs → ds[i]? = some d → ∃ v, vs[i]? = some v ∧ RD g m H d v
  | _, _, _, _, .nil, e => by simp at e
  | _, _, 0, _, .cons r _, e => by simp at e; subst e; exact ⟨_, rfl, r⟩
  | _, _, i + 1, _, .cons _ t, e => by
    obtain ⟨d, h1, h2⟩ := RDs.get (i := i) t (by simpa using e)
    exact ⟨d, by simpa using h1, h2⟩
theorem RDs.append : ∀ {ds es : List D} {vs us : List V}, RDs g m H ds vs → RDs g m H es us → RDs g m H (ds ++ es) (vs ++ us)
  | _, _, _, _, .nil, h => h
  | _, _, _, _, .cons a b, h => .cons a (RDs.append b h)
theorem RDs.one {d : D} {v : V} (h : RD g m H d v) : RDs g m H [d] [v] := .cons h .nil
theorem RDs.take : ∀ {ds : List D} {vs : List V} (n : Nat), RDs g m H ds vs → RDs g m H (ds.take n) (vs.take n)
  | _, _, 0, _ => by rw [List.take_zero, List.take_zero]; exact .nil
  | _, _, _ + 1, .nil => .nil
  | _, _, n + 1, .cons a b => .cons a (RDs.take n b)
theorem RDs.drop : ∀ {ds : List D} {vs : List V} (n : Nat), RDs g m H ds vs → RDs g m H (ds.drop n) (vs.drop n)
  | _, _, 0, h => h
  | _, _, _ + 1, .nil => .nil
  | _, _, n + 1, .cons _ b => RDs.drop n b
theorem RDs.set {d : D} {v : V} (r : RD g m H d v) : ∀ {ds : List D} {vs : List V} (n : Nat), RDs g m H ds vs → RDs g m H (ds.set n d) (vs.set n v)
  | _, _, _, .nil => .nil
  | _, _, 0, .cons _ b => .cons r b
  | _, _, n + 1, .cons a b => .cons a (RDs.set r n b)
theorem RK.mono (e : Ext m H m' H') : ∀ {kd : List (Key × D)} {kv : List (Key × V)}, RK g m H kd kv → RK g m' H' kd kv
  | _, _, .nil => .nil
  | _, _, .cons a b => .cons ⟨a.1, a.2.mono e⟩ (RK.mono e b)
theorem RF.mono (e : Ext m H m' H') : ∀ {fd : List (Str × D)} {fv : List (Str × V)}, RF g m H fd fv → RF g m' H' fd fv
  | _, _, .nil => .nil
  | _, _, .cons a b => .cons ⟨a.1, a.2.mono e⟩ (RF.mono e b)
theorem XR.mono (e : Ext m H m' H') {x : D} {cls : Value} {dx : Option Addr} (h : XR g m H x cls dx) : XR g m' H' x cls dx := by
  cases h with
  | one h1 h2 h3 h4 => exact .one h1 (e.out h2 h3) (e.frame _ _ h2 (fun _ z => nomatch z) h3) (h4.mono e)
  | zero h => exact .zero h
theorem RD.int_inv {v : V} {i : Int} (h : RD g m H (.int i) v) : v = .int i := by cases h; rfl
theorem RD.str_inv {v : V} {i : Str} (h : RD g m H (.str i) v) : v = .str i := by cases h; rfl
theorem RD.bl_inv {v : V} {i : Bool} (h : RD g m H (.bl i) v) : v = .bl i := by cases h; rfl
theorem RD.non_inv {v : V} (h : RD g m H .non v) : v = .non := by cases h; rfl
theorem RD.tup_inv {v : V} {ds : List D} (h : RD g m H (.tup ds) v) : ∃ a vs, v = .ref a ∧ Tp g m H a vs ∧ RDs g m H ds vs := by cases h with | tup e r => exact ⟨_, _, rfl, e, r⟩
theorem RD.ref_inv {v : V} {k : Nat} (h : RD g m H (.ref k) v) : ∃ a, v = .ref a ∧ m[k]? = some a := by cases h with | ref e => exact ⟨_, rfl, e⟩
end
section
variable {g : Gd} {m : List Addr} {S : Sto} {H : Hp}
theorem Sim.addr (s : Sim g m S H) {k : Nat} {o : O} (h : S[k]? = some o) : ∃ a, m[k]? = some a ∧ OR g m H a o := by
  have hk : k < m.length := by rw [s.len]; exact (List.getElem?_eq_some_iff.mp h).1
  exact ⟨m[k], List.getElem?_eq_getElem hk, s.at_ k o _ h (List.getElem?_eq_getElem hk)⟩
theorem OR.mono_ne {m' : List Addr} {H' : Hp} {a : Addr} {o : O} (e : Ext m H m' H') (he : H' a = H a) (h : OR g m H a o) : OR g m' H' a o := by
  cases o with
  | lst xs => obtain ⟨vs, h1, h2⟩ := h; exact ⟨vs, by rw [he]; exact h1, h2.mono e⟩
  | dct kvs => obtain ⟨vs, h1, h2⟩ := h; exact ⟨vs, by rw [he]; exact h1, h2.mono e⟩
  | dfz kvs => obtain ⟨vs, od, h1, h2⟩ := h; exact ⟨vs, od, by rw [he]; exact h1, h2.mono e⟩
  | exc x => obtain ⟨c, dx, ob, vs, h1, h2, h3⟩ := h; exact ⟨c, dx, ob, vs, h1.mono e, by rw [he]; exact h2, h3⟩
  | set0 => obtain ⟨led, h1⟩ := h; exact ⟨led, by rw [he]; exact h1⟩
  | dcd kvs => obtain ⟨xs, h1, h2, h3, h4⟩ := h; exact ⟨xs, by rw [he]; exact h1, Paired.mapP h2 (fun p x z => ⟨z.1, z.2.1, z.2.2.1.mono e, z.2.2.2.mono e⟩), h3, h4⟩
  | ins i fs => obtain ⟨C, dx, vs, h1, h2, h3⟩ := h; exact ⟨C, dx, vs, h1, by rw [he]; exact h2, h3.mono e⟩
end
end Ab

namespace Ab
open PySem PySem.Spec PyProof.Rows L2
section
variable {g : Gd} {m : List Addr} {S : Sto} {H : Hp}
theorem Sim.mem (s : Sim g m S H) {a : Addr} (h : a ∈ m) : ∃ (k : Nat) (o : O), S[k]? = some o ∧ m[k]? = some a ∧ OR g m H a o := by
  obtain ⟨k, hk⟩ := List.mem_iff_getElem?.mp h
  have hl : k < S.length := by rw [← s.len]; exact (List.getElem?_eq_some_iff.mp hk).1
  exact ⟨k, S[k], List.getElem?_eq_getElem hl, hk, s.at_ k _ a (List.getElem?_eq_getElem hl) hk⟩
theorem OR.some {a : Addr} {o : O} (h : OR g m H a o) : H a ≠ none := by
  cases o with
  | lst xs => obtain ⟨vs, h1, _⟩ := h; rw [h1]; simp
  | dct kvs => obtain ⟨vs, h1, _⟩ := h; rw [h1]; simp
  | dfz kvs => obtain ⟨vs, od, h1, _⟩ := h; rw [h1]; simp
  | exc x => obtain ⟨c, dx, ob, vs, _, h2, _⟩ := h; rw [h2]; simp
  | set0 => obtain ⟨led, h1⟩ := h; rw [h1]; simp
  | dcd kvs => obtain ⟨xs, h1, _⟩ := h; rw [h1]; simp
  | ins i fs => obtain ⟨C, dx, vs, _, h2, _⟩ := h; rw [h2]; simp
theorem Sim.fresh (s : Sim g m S H) {p : Addr} (hp : H p = none) : p ∉ m := fun h => by
  obtain ⟨k, o, _, _, q⟩ := s.mem h
  exact q.some hp
theorem ext_upd_new {p : Addr} {o : HO} (hp : H p = none) : Ext m H m (upd H p o) :=
  ⟨⟨[], by simp⟩, fun a u _ _ h => by rw [upd_ne (ne_of_none h hp)]; exact h, fun a ps h => ⟨ps, by rw [upd_ne (ne_of_none h hp)]; exact h⟩, fun a h => .inl h, fun a o u h => by rw [upd_ne (ne_of_none h hp)]; exact h⟩
theorem Sim.aside (s : Sim g m S H) {p : Addr} {o : HO} (hp : H p = none) : Sim g m S (upd H p o) := by
  refine ⟨s.len, s.nd, fun k ob a h ha => ?_, fun t ht => ?_⟩
  rotate_left
  · obtain ⟨h1, ps, h2, h3⟩ := s.tb t ht
    exact ⟨h1, ps, by rw [upd_ne (ne_of_none h2 hp)]; exact h2, h3⟩
  have q := s.at_ k ob a h ha
  refine q.mono_ne (ext_upd_new hp) (upd_ne fun e => ?_)
  subst e
  exact q.some hp
theorem tp_new (s : Sim g m S H) {p : Addr} {vs : List V} (hp : H p = none) : Tp g m (upd H p (.tup vs)) p vs := .inl ⟨s.fresh hp, upd_same⟩
theorem ext_snoc (s : Sim g m S H) {p : Addr} {o : HO} (hp : H p = none) : Ext m H (m ++ [p]) (upd H p o) :=
  ⟨⟨[p], rfl⟩, fun a u _ _ h => by rw [upd_ne (ne_of_none h hp)]; exact h, fun a ps h => ⟨ps, by rw [upd_ne (ne_of_none h hp)]; exact h⟩, fun a h => by
    rcases List.mem_append.mp h with h | h
    · exact .inl h
    · rw [List.mem_singleton.mp h]; exact .inr hp, fun a o u h => by rw [upd_ne (ne_of_none h hp)]; exact h⟩
theorem Sim.snoc (s : Sim g m S H) {p : Addr} {o : HO} {u : O} (hp : H p = none) (hu : OR g (m ++ [p]) (upd H p o) p u) : Sim g (m ++ [p]) (S ++ [u]) (upd H p o) := by
  refine ⟨by rw [List.length_append, List.length_append, s.len]; rfl, ?_, fun k ob a h ha => ?_, fun t ht => ?_⟩
  rotate_right
  · obtain ⟨h1, ps, h2, h3⟩ := s.tb t ht
    refine ⟨fun z => ?_, ps, by rw [upd_ne (ne_of_none h2 hp)]; exact h2, h3⟩
    rcases List.mem_append.mp z with z | z
    · exact h1 z
    · exact ne_of_none h2 hp (List.mem_singleton.mp z)
  · refine List.nodup_append.mpr ⟨s.nd, by simp, fun a ha b hb => ?_⟩
    rw [List.mem_singleton.mp hb]
    exact fun e => s.fresh hp (by rw [← e]; exact ha)
  · by_cases hk : k < S.length
    · rw [List.getElem?_append_left hk] at h
      rw [List.getElem?_append_left (by rw [s.len]; exact hk)] at ha
      have q := s.at_ k ob a h ha
      refine q.mono_ne (ext_snoc s hp) (upd_ne fun e => ?_)
      subst e
      exact q.some hp
    · have hk2 : k = S.length := by
        have := (List.getElem?_eq_some_iff.mp h).1
        rw [List.length_append, List.length_singleton] at this
        omega
      subst hk2
      rw [List.getElem?_append_right (Nat.le_refl _), Nat.sub_self] at h
      rw [List.getElem?_append_right (by rw [s.len]; exact Nat.le_refl _), s.len, Nat.sub_self] at ha
      cases h
      cases ha
      exact hu
theorem Sim.newList (s : Sim g m S H) {p : Addr} {xs : List D} {vs : List V} (hp : H p = none) (r : RDs g m H xs vs) : Sim g (m ++ [p]) (S ++ [.lst xs]) (upd H p (.lst vs)) :=
  s.snoc hp ⟨vs, upd_same, r.mono (ext_snoc s hp)⟩
theorem rd_new (s : Sim g m S H) {p : Addr} {H' : Hp} : RD g (m ++ [p]) H' (.ref S.length) (.ref p) := .ref (by rw [← s.len, List.getElem?_append_right (Nat.le_refl _), Nat.sub_self]; rfl)
def Nf (H : Hp) (a : Addr) : Prop := (∀ o u, H a ≠ some (.frz o u)) ∧ ∀ ps, H a ≠ some (.tbl ps)
theorem nfL {a : Addr} {vs : List V} (h : H a = some (.lst vs)) : Nf H a := ⟨fun o u z => (by rw [h] at z; cases z), fun ps z => (by rw [h] at z; cases z)⟩
theorem nfD {a : Addr} {vs : List (Key × V)} (h : H a = some (.dK vs)) : Nf H a := ⟨fun o u z => (by rw [h] at z; cases z), fun ps z => (by rw [h] at z; cases z)⟩
theorem ext_put {a : Addr} {o : HO} (ha : a ∈ m) (hn : Nf H a) : Ext m H m (upd H a o) :=
  have hn2 := hn.2; have hn := hn.1;
  ⟨⟨[], by simp⟩, fun b u hb _ h => by rw [upd_ne fun e => hb (by rw [e]; exact ha)]; exact h, fun b ps h => ⟨ps, by rw [upd_ne fun e => hn2 ps (by rw [← e]; exact h)]; exact h⟩, fun b h => .inl h, fun b o u h => by rw [upd_ne fun e => hn o u (by rw [← e]; exact h)]; exact h⟩
theorem nd_inj {α : Type} {l : List α} (h : l.Nodup) {i j : Nat} {a : α} (hi : l[i]? = some a) (hj : l[j]? = some a) : i = j := by
  induction l generalizing i j with
  | nil => simp at hi
  | cons x t ih =>
    obtain ⟨h1, h2⟩ := List.nodup_cons.mp h
    cases i with
    | zero =>
      cases j with
      | zero => rfl
      | succ j =>
        simp at hi hj
        subst hi
        exact absurd (List.mem_of_getElem? hj) h1
    | succ i =>
      cases j with
      | zero =>
        simp at hi hj
        subst hj
        exact absurd (List.mem_of_getElem? hi) h1
      | succ j => exact congrArg (· + 1) (ih h2 (i := i) (j := j) (by simpa using hi) (by simpa using hj))
theorem Sim.put (s : Sim g m S H) {k : Nat} {a : Addr} {o : HO} {u : O} (ha : m[k]? = some a) (hn : Nf H a) (hu : OR g m (upd H a o) a u) : Sim g m (S.set k u) (upd H a o) := by
  refine ⟨by rw [List.length_set]; exact s.len, s.nd, fun j ob b h hb => ?_, fun t ht => ?_⟩
  rotate_right
  · obtain ⟨h1, ps, h2, h3⟩ := s.tb t ht
    exact ⟨h1, ps, by rw [upd_ne fun z => h1 (by rw [z]; exact List.mem_of_getElem? ha)]; exact h2, h3⟩
  by_cases e : k = j
  · subst e
    rw [ha] at hb
    cases hb
    have hl : k < S.length := by rw [← s.len]; exact (List.getElem?_eq_some_iff.mp ha).1
    rw [List.getElem?_set_self hl] at h
    cases h
    exact hu
  · rw [List.getElem?_set_ne e] at h
    have q := s.at_ j ob b h hb
    refine q.mono_ne (ext_put (List.mem_of_getElem? ha) hn) (upd_ne fun z => e ?_)
    subst z
    exact nd_inj s.nd ha hb
theorem Sim.putList (s : Sim g m S H) {k : Nat} {a : Addr} {xs : List D} {vs : List V} (ha : m[k]? = some a) (hn : Nf H a) (r : RDs g m H xs vs) : Sim g m (S.set k (.lst xs)) (upd H a (.lst vs)) :=
  s.put ha hn ⟨vs, upd_same, r.mono (ext_put (List.mem_of_getElem? ha) hn)⟩
theorem Sim.list (s : Sim g m S H) {k : Nat} {xs : List D} (h : S[k]? = some (.lst xs)) : ∃ a vs, m[k]? = some a ∧ H a = some (.lst vs) ∧ RDs g m H xs vs := by
  obtain ⟨a, ha, vs, h1, h2⟩ := s.addr h
  exact ⟨a, vs, ha, h1, h2⟩
end
def Xw (g : Gd) (X : Cx) (m : List Addr) (H : Hp) (x : D) (S : Sto) : Prop := False
theorem Xw.mono {g : Gd} {X : Cx} {m m' : List Addr} {H H' : Hp} {x : D} {S : Sto} (e : Ext m H m' H') (h : Xw g X m H x S) : Xw g X m' H' x S := h
def Out {α : Type} (g : Gd) (X : Cx) (m : List Addr) (H : Hp) (r : R α) (P : α → Sto → List Addr → Hp → Prop) : Prop := match r with
  | .ok a S' => ∀ m' H', Ext m H m' H' → Sim g m' S' H' → P a S' m' H'
  | .ex x S' => Xw g X m H x S'
  | .no => False
section
variable {α β : Type} {g : Gd} {X : Cx} {m m' : List Addr} {H H' : Hp}
theorem Out.mono {r : R α} {P : α → Sto → List Addr → Hp → Prop} (e : Ext m H m' H') (h : Out g X m H r P) : Out g X m' H' r P := by
  cases r with
  | ok a S' => exact fun m2 H2 e2 s2 => h m2 H2 (e.trans e2) s2
  | ex x S' => exact Xw.mono (g := g) (X := X) (x := x) (S := S') e h
  | no => exact h
theorem Out.bind {r : R α} {k : α → M β} {P : β → Sto → List Addr → Hp → Prop} (h : Out g X m H (r.bind k) P) : Out g X m H r fun a S' m' H' => Out g X m' H' (k a S') P := by
  cases r with
  | ok a S' => exact fun m2 H2 e2 s2 => Out.mono e2 h
  | ex x S' => exact h
  | no => exact h
theorem Out.imp {r : R α} {P P' : α → Sto → List Addr → Hp → Prop} (h : Out g X m H r P) (hp : ∀ a S' m' H', Ext m H m' H' → Sim g m' S' H' → P a S' m' H' → P' a S' m' H') : Out g X m H r P' := by
  cases r with
  | ok a S' => exact fun m2 H2 e2 s2 => hp _ _ _ _ e2 s2 (h m2 H2 e2 s2)
  | ex x S' => exact h
  | no => exact h
theorem Out.ok {a : α} {S : Sto} {P : α → Sto → List Addr → Hp → Prop} (s : Sim g m S H) (h : Out g X m H (.ok a S) P) : P a S m H := h m H (Ext.refl m H) s
end
structure Rel (g : Gd) (m : List Addr) (H : Hp) (σ : L2.St) (env : Env) : Prop where
  len : σ.length = env.length
  at_ : ∀ (i : Nat) (d : D), env[i]? = some (some d) → ∃ v, σ[i]? = some (some v) ∧ RD g m H d v
theorem Rel.mono {g : Gd} {m m' : List Addr} {H H' : Hp} {σ : L2.St} {env : Env} (e : Ext m H m' H') (r : Rel g m H σ env) : Rel g m' H' σ env :=
  ⟨r.len, fun i d h => let ⟨v, h1, h2⟩ := r.at_ i d h; ⟨v, h1, h2.mono e⟩⟩
theorem Rel.set {g : Gd} {m : List Addr} {H : Hp} {σ : L2.St} {env : Env} (r : Rel g m H σ env) (i : Nat) {d : D} {v : V} (h : RD g m H d v) : Rel g m H (σ.set i (some v)) (env.set i (some d)) := by
  refine ⟨by rw [List.length_set, List.length_set, r.len], fun j e hj => ?_⟩
  by_cases z : i = j
  · subst z
    have hl : i < env.length := by
      have := (List.getElem?_eq_some_iff.mp hj).1
      rwa [List.length_set] at this
    rw [List.getElem?_set_self hl] at hj
    cases hj
    exact ⟨v, List.getElem?_set_self (by rw [r.len]; exact hl), h⟩
  · rw [List.getElem?_set_ne z] at hj
    rw [List.getElem?_set_ne z]
    exact r.at_ j e hj
def wipeD (env : Env) : List Nat → Env
  | [] => env
  | v :: vs => (wipeD env vs).set v none
theorem Rel.setNone {g : Gd} {m : List Addr} {H : Hp} {σ : L2.St} {env : Env} (r : Rel g m H σ env) (i : Nat) : Rel g m H (σ.set i none) (env.set i none) := by
  refine ⟨by rw [List.length_set, List.length_set, r.len], fun j e hj => ?_⟩
  by_cases z : i = j
  · subst z
    have hl : i < env.length := by
      have := (List.getElem?_eq_some_iff.mp hj).1
      rwa [List.length_set] at this
    rw [List.getElem?_set_self hl] at hj
    cases hj
  · rw [List.getElem?_set_ne z] at hj
    rw [List.getElem?_set_ne z]
    exact r.at_ j e hj
theorem Rel.wipe {g : Gd} {m : List Addr} {H : Hp} {σ : L2.St} {env : Env} (r : Rel g m H σ env) : ∀ vs : List Nat, Rel g m H (wipe σ vs) (wipeD env vs)
  | [] => r
  | v :: vs => (Rel.wipe r vs).setNone v
def VQ (g : Gd) (Q : VK) : D → Sto → List Addr → Hp → Prop := fun d _ m' H' => ∀ v, RD g m' H' d v → Q v H'
def tE (g : Gd) (X : Cx) (f : Env → M D) : TE := fun σ H Q => ∃ m env S, Rel g m H σ env ∧ Sim g m S H ∧ Out g X m H (f env S) (VQ g Q)
def tT (g : Gd) (X : Cx) (f : Env → M Bool) : TT := fun σ H Q => ∃ m env S, Rel g m H σ env ∧ Sim g m S H ∧ Out g X m H (f env S) fun b _ _ H' => Q b H'
def tA (g : Gd) (X : Cx) (f : Env → M (List D)) : TA := fun σ H Q => ∃ m env S, Rel g m H σ env ∧ Sim g m S H ∧ Out g X m H (f env S) fun ds _ m' H' => ∀ vs, RDs g m' H' ds vs → Q vs H'
inductive Fl where
  | nx (e : Env) | rt (d : D) | bk (e : Env) | ct (e : Env)
def FQ (g : Gd) (E : Ends) : Fl → Sto → List Addr → Hp → Prop := fun fl _ m' H' => match fl with
  | .nx e => ∀ σ', Rel g m' H' σ' e → E.nx σ' H'
  | .rt d => ∀ v, RD g m' H' d v → E.rt v H'
  | .bk e => ∀ σ', Rel g m' H' σ' e → E.bk σ' H'
  | .ct e => ∀ σ', Rel g m' H' σ' e → E.ct σ' H'
def tS (g : Gd) (X : Cx) (f : Env → M Fl) : TS := fun E σ H => ∃ m env S, Rel g m H σ env ∧ Sim g m S H ∧ Out g X m H (f env S) (FQ g E)
structure EJ (g : Gd) (X : Cx) (e : Expr) (f : Env → M D) : Prop where of :: un : PE X e (tE g X f)
structure TJ (g : Gd) (X : Cx) (e : Expr) (f : Env → M Bool) : Prop where of :: un : PT X e (tT g X f)
structure WJ (g : Gd) (X : Cx) (e : Expr) (f : Env → M Bool) : Prop where of :: un : PW X e (tT g X f)
structure AJ (g : Gd) (X : Cx) (e : List Expr) (f : Env → M (List D)) : Prop where of :: un : PA X e (tA g X f)
structure SJ (g : Gd) (X : Cx) (e : Stmt) (f : Env → M Fl) : Prop where of :: un : PS X e (tS g X f)
structure BJ (g : Gd) (X : Cx) (e : List Stmt) (f : Env → M Fl) : Prop where of :: un : PSs X e (tS g X f)
theorem PE.imp {X : Cx} {e : Expr} {t t' : TE} (h : PE X e t) (i : ∀ σ H Q, t' σ H Q → t σ H Q) : PE X e t' := fun pins s σ H Q I q => h pins s σ H Q I (i _ _ _ q)
theorem PT.imp {X : Cx} {e : Expr} {t t' : TT} (h : PT X e t) (i : ∀ σ H Q, t' σ H Q → t σ H Q) : PT X e t' := fun pins s σ H Q I q => h pins s σ H Q I (i _ _ _ q)
theorem PW.imp {X : Cx} {e : Expr} {t t' : TT} (h : PW X e t) (i : ∀ σ H Q, t' σ H Q → t σ H Q) : PW X e t' := fun whole pins s σ H Q I q => h whole pins s σ H Q I (i _ _ _ q)
theorem PA.imp {X : Cx} {e : List Expr} {t t' : TA} (h : PA X e t) (i : ∀ σ H Q, t' σ H Q → t σ H Q) : PA X e t' := fun pos pins s σ H Q I q => h pos pins s σ H Q I (i _ _ _ q)
theorem PS.imp {X : Cx} {e : Stmt} {t t' : TS} (h : PS X e t) (i : ∀ D σ H, t' D σ H → t D σ H) : PS X e t' := fun pins s σ H D I q => h pins s σ H D I (i _ _ _ q)
theorem PSs.imp {X : Cx} {e : List Stmt} {t t' : TS} (h : PSs X e t) (i : ∀ D σ H, t' D σ H → t D σ H) : PSs X e t' := fun pins s σ H D I q => h pins s σ H D I (i _ _ _ q)
section
variable {g : Gd} {X : Cx} {a b c e o : Expr} {es : List Expr} {f fa fb fc : Env → M D} {ft fu : Env → M Bool} {fs : Env → M (List D)} {pos apos cpos p p2 pos' : Pos} {x : Str}
def cVar (i : Nat) : Env → M D := fun env S => match env[i]? with
  | some (some d) => .ok d S
  | _ => .no
def cC (d : D) : Env → M D := fun _ S => .ok d S
theorem e_var (i : Nat) (h : PE X (.Name x pos) (tVar i)) : EJ g X (.Name x pos) (cVar i) := ⟨PE.imp h fun σ H Q ⟨m, env, S, r, s, o⟩ => by
  unfold cVar at o
  split at o
  · rename_i d hd
    obtain ⟨v, h1, h2⟩ := r.at_ i d hd
    exact ⟨v, h1, Out.ok s o v h2⟩
  · exact o.elim⟩
theorem e_l (i : Nat) (hN : X.N[i]? = some x := by kernel_rfl) (hv : X.env.scope.names.lookup x = some .local := by kernel_rfl) (hd : (x == ("__debug__" : Str)) = false := by kernel_rfl) (hcd : (x == ("__classdict__" : Str)) = false := by kernel_rfl) : EJ g X (.Name x pos) (cVar i) := e_var i (pvl i hN hv hd hcd)
theorem e_c (i : Nat) (hN : X.N[i]? = some x := by kernel_rfl) (hv : X.env.scope.names.lookup x = some .cell := by kernel_rfl) (hd : (x == ("__debug__" : Str)) = false := by kernel_rfl) (hcd : (x == ("__classdict__" : Str)) = false := by kernel_rfl) : EJ g X (.Name x pos) (cVar i) := e_var i (pvc i hN hv hd hcd)
theorem e_const {d : D} {v : V} (h : PE X e (tC v)) (r : ∀ m H, RD g m H d v) : EJ g X e (cC d) := ⟨PE.imp h fun σ H Q ⟨m, env, S, _, s, o⟩ => Out.ok s o v (r m H)⟩
theorem e_int {i j} : EJ g X (.Constant (.int i) j pos) (cC (.int i)) := e_const pe_int fun _ _ => .int i
theorem e_bl {i j} : EJ g X (.Constant (.bool i) j pos) (cC (.bl i)) := e_const pe_bl fun _ _ => .bl i
theorem e_non {j} : EJ g X (.Constant .none j pos) (cC .non) := e_const pe_non fun _ _ => .non
theorem e_str {i j} : EJ g X (.Constant (.str i) j pos) (cC (.str i)) := e_const pe_str fun _ _ => .str i
def rOp (g : Gd) (X : Cx) (k : D → D → M D) : R2 := fun x y H Q => ∃ m S d e, Sim g m S H ∧ RD g m H d x ∧ RD g m H e y ∧ Out g X m H (k d e S) (VQ g Q)
def cOp (k : D → D → M D) (fa fb : Env → M D) : Env → M D := fun env S => (fa env S).bind fun x S => (fb env S).bind fun y S => k x y S
theorem t2 {k : D → D → M D} {σ : L2.St} {H : Hp} {Q : VK} (h : tE g X (cOp k fa fb) σ H Q) : tOp (rOp g X k) (tE g X fa) (tE g X fb) σ H Q := by
  obtain ⟨m, env, S, r, s, o⟩ := h
  refine ⟨m, env, S, r, s, o.bind.imp fun d S1 m1 H1 e1 s1 o1 v1 h1 => ⟨m1, env, S1, r.mono e1, s1, o1.bind.imp fun d2 S2 m2 H2 e2 s2 o2 v2 h2 => ?_⟩⟩
  exact ⟨m2, S2, d, d2, s2, h1.mono e2, h2, o2⟩
theorem e_op {op : Operator} {k : D → D → M D} (h : OpR X (binaryOp op) (rOp g X k)) (ha : EJ g X a fa) (hb : EJ g X b fb) : EJ g X (.BinOp a op b pos) (cOp k fa fb) := ⟨PE.imp (pe_op h ha.un hb.un) fun _ _ _ q => t2 q⟩
theorem e_cmp {op : CmpOp} {k : D → D → M D} (h : OpR X (compareOp op) (rOp g X k)) (ha : EJ g X a fa) (hb : EJ g X b fb) (hm : behindInMarks op b = false := by rfl) : EJ g X (.Compare a [op] [b] pos) (cOp k fa fb) := ⟨PE.imp (pe_cmpR h ha.un hb.un hm) fun _ _ _ q => t2 q⟩
def isB : D → M Bool := fun d S => match d with
  | .bl b => .ok b S
  | _ => .no
def cTest (f : Env → M D) : Env → M Bool := fun env S => (f env S).bind isB
theorem tTest_of {t : TE} (h : ∀ σ H Q, tE g X f σ H Q → t σ H Q) {σ : L2.St} {H : Hp} {Q : Bool → Hp → Prop} (q : tT g X (cTest f) σ H Q) : tTest t σ H Q := by
  obtain ⟨m, env, S, r, s, o⟩ := q
  refine h _ _ _ ⟨m, env, S, r, s, o.bind.imp fun d S1 m1 H1 e1 s1 o1 v1 h1 => ?_⟩
  cases d with
  | bl b => rw [h1.bl_inv]; exact ⟨b, rfl, Out.ok s1 o1⟩
  | _ => exact False.elim o1
theorem t_cmp {op : CmpOp} {k : D → D → M D} (h : OpR X (compareOp op) (rOp g X k)) (ha : EJ g X a fa) (hb : EJ g X b fb) (hm : behindInMarks op b = false := by rfl) : TJ g X (.Compare a [op] [b] pos) (cTest (cOp k fa fb)) := ⟨PT.imp (pt_cmpR h ha.un hb.un hm) fun _ _ _ q => tTest_of (fun _ _ _ z => t2 z) q⟩
def cUn (k : D → M D) (fa : Env → M D) : Env → M D := fun env S => (fa env S).bind k
def cNot (f : Env → M Bool) : Env → M Bool := fun env S => (f env S).bind fun b S => .ok (!b) S
def cAnd (f k : Env → M Bool) : Env → M Bool := fun env S => (f env S).bind fun b S => if b = true then k env S else .ok false S
def cOr (f k : Env → M Bool) : Env → M Bool := fun env S => (f env S).bind fun b S => if b = true then .ok true S else k env S
theorem or_of {σ : L2.St} {H : Hp} {Q : Bool → Hp → Prop} (q : tT g X (cOr ft fu) σ H Q) : tOr (tT g X ft) (tT g X fu) σ H Q := by
  obtain ⟨m, env, S, r, s, o⟩ := q
  refine ⟨m, env, S, r, s, o.bind.imp fun b S1 m1 H1 e1 s1 o1 => ?_⟩
  cases b with
  | false => rw [if_neg Bool.false_ne_true]; exact ⟨m1, env, S1, r.mono e1, s1, by simpa using o1⟩
  | true => rw [if_pos rfl]; exact Out.ok s1 (by simpa using o1)
theorem w_or {rest : List Expr} (ha : TJ g X a ft) (hb : WJ g X (.BoolOp .Or (b :: rest) pos) fu) : WJ g X (.BoolOp .Or (a :: b :: rest) pos) (cOr ft fu) := ⟨PW.imp (pw_or ha.un hb.un) fun _ _ _ q => or_of q⟩
theorem w_or1 (ha : TJ g X a ft) : WJ g X (.BoolOp .Or [a] pos) ft := ⟨pw_or1 ha.un⟩
theorem t_bop (h : WJ g X e ft) : TJ g X e ft := ⟨PW.pt h.un⟩
def cIf (c : Env → M Bool) (fa fb : Env → M D) : Env → M D := fun env S => (c env S).bind fun b S => if b = true then fa env S else fb env S
def cAndV (fa fb : Env → M D) : Env → M D := fun env S => (fa env S).bind fun d S => (isB d S).bind fun b S => if b = true then fb env S else .ok (.bl false) S
def cOrV (fa fb : Env → M D) : Env → M D := fun env S => (fa env S).bind fun d S => (isB d S).bind fun b S => if b = true then .ok (.bl true) S else fb env S
def notV : D → M D := fun d S => (isB d S).bind fun b S => .ok (.bl (!b)) S
def cNil : Env → M (List D) := fun _ S => .ok [] S
def cCons (f : Env → M D) (fs : Env → M (List D)) : Env → M (List D) := fun env S => (f env S).bind fun d S => (fs env S).bind fun ds S => .ok (d :: ds) S
theorem a_nil : AJ g X [] cNil := ⟨PA.imp pa_nil fun σ H Q ⟨m, env, S, r, s, o⟩ => Out.ok s o [] .nil⟩
theorem a_cons (ha : EJ g X e f) (hr : AJ g X es fs) (hs : starEach (e :: es) X.env = (false, eval e X.env) :: starEach es X.env := by kernel_rfl) : AJ g X (e :: es) (cCons f fs) := ⟨PA.imp (pa_cons ha.un hr.un hs) fun σ H Q ⟨m, env, S, r, s, o⟩ =>
  ⟨m, env, S, r, s, o.bind.imp fun d S1 m1 H1 e1 s1 o1 v1 h1 => ⟨m1, env, S1, r.mono e1, s1, o1.bind.imp fun ds S2 m2 H2 e2 s2 o2 vs h2 => Out.ok s2 o2 _ (.cons (h1.mono e2) h2)⟩⟩⟩
def mkT : List D → M D := fun ds S => if ds.length ≤ sizeLine then .ok (.tup ds) S else .no
def mkL : List D → M D := fun ds S => if ds.length ≤ sizeLine then .ok (.ref S.length) (S ++ [.lst ds]) else .no
def cAp (k : List D → M D) (fs : Env → M (List D)) : Env → M D := fun env S => (fs env S).bind k
theorem newT {m : List Addr} {S : Sto} {H : Hp} {ds : List D} {vs : List V} {Q : VK} (s : Sim g m S H) (r : RDs g m H ds vs) (o : Out g X m H (.ok (.tup ds) S) (VQ g Q)) {p : Addr} (hp : H p = none) : Q (.ref p) (upd H p (.tup vs)) :=
  o m _ (ext_upd_new hp) (s.aside hp) _ (.tup (tp_new s hp) (r.mono (ext_upd_new hp)))
theorem newL {m : List Addr} {S : Sto} {H : Hp} {ds : List D} {vs : List V} {Q : VK} (s : Sim g m S H) (r : RDs g m H ds vs) (o : Out g X m H (.ok (.ref S.length) (S ++ [.lst ds])) (VQ g Q)) {p : Addr} (hp : H p = none) : Q (.ref p) (upd H p (.lst vs)) :=
  o _ _ (ext_snoc s hp) (s.newList hp r) _ (rd_new s)
theorem e_tup {x1} (h : AJ g X es fs) : EJ g X (.Tuple es x1 pos) (cAp mkT fs) := ⟨PE.imp (pe_tup h.un) fun σ H Q ⟨m, env, S, r, s, o⟩ => ⟨m, env, S, r, s, o.bind.imp fun ds S1 m1 H1 e1 s1 o1 vs h1 => by
  unfold mkT at o1
  split at o1
  · rename_i hl
    exact ⟨by rw [← h1.length]; exact hl, fun p hp => newT s1 h1 o1 hp⟩
  · exact False.elim o1⟩⟩
theorem e_lst (h : AJ g X es fs) : EJ g X (.List es pos) (cAp mkL fs) := ⟨PE.imp (pe_lst h.un) fun σ H Q ⟨m, env, S, r, s, o⟩ => ⟨m, env, S, r, s, o.bind.imp fun ds S1 m1 H1 e1 s1 o1 vs h1 => by
  unfold mkL at o1
  split at o1
  · rename_i hl
    exact ⟨by rw [← h1.length]; exact hl, fun p hp => newL s1 h1 o1 hp⟩
  · exact False.elim o1⟩⟩
def rCb (g : Gd) (X : Cx) (k : List D → M D) : List V → Hp → VK → Prop := fun vs H Q => ∃ m S ds, Sim g m S H ∧ RDs g m H ds vs ∧ Out g X m H (k ds S) (VQ g Q)
theorem cb_of {k : List D → M D} {σ : L2.St} {H : Hp} {Q : VK} (q : tE g X (cAp k fs) σ H Q) : tCB (rCb g X k) (tA g X fs) σ H Q := by
  obtain ⟨m, env, S, r, s, o⟩ := q
  exact ⟨m, env, S, r, s, o.bind.imp fun ds S1 m1 H1 e1 s1 o1 vs h1 => ⟨m1, S1, ds, s1, h1, o1⟩⟩
theorem e_cb {id : String} {k : List D → M D} (hc : CallR X (.builtin id) (rCb g X k)) (hm : X.mg x = none) (ha : AJ g X (e :: es) fs) (hg : X.env.kindOf x = some .globalImplicit := by kernel_rfl) (hv : bootBuiltins x = some (.builtin id) := by kernel_rfl) (hn : (x == ("__name__" : Str)) = false := by kernel_rfl) (hdb : (x == ("__debug__" : Str)) = false := by kernel_rfl)
    (he : starEach (e :: es) X.env = (false, eval e X.env) :: starEach es X.env := by kernel_rfl) (hpl : (backTo pos (starEach es X.env)).any (·.1) = false := by kernel_rfl) : EJ g X (.Call (.Name x p) (e :: es) [] pos) (cAp k fs) := ⟨PE.imp (pe_cb hc hm ha.un hg hv hn hdb he hpl) fun _ _ _ q => cb_of q⟩
theorem e_ct {T : String} {k : List D → M D} (hc : CallR X (.type T) (rCb g X k)) (hm : X.mg x = none) (ha : AJ g X (e :: es) fs) (hg : X.env.kindOf x = some .globalImplicit := by kernel_rfl) (hv : bootBuiltins x = some (.type T) := by kernel_rfl) (hn : (x == ("__name__" : Str)) = false := by kernel_rfl) (hdb : (x == ("__debug__" : Str)) = false := by kernel_rfl)
    (he : starEach (e :: es) X.env = (false, eval e X.env) :: starEach es X.env := by kernel_rfl) (hpl : (backTo pos (starEach es X.env)).any (·.1) = false := by kernel_rfl) : EJ g X (.Call (.Name x p) (e :: es) [] pos) (cAp k fs) := ⟨PE.imp (pe_ct hc hm ha.un hg hv hn hdb he hpl) fun _ _ _ q => cb_of q⟩
end
end Ab

namespace Ab
open PySem PySem.Spec PyProof.Rows L2
section
variable {g : Gd} {X : Cx}
theorem catE {pins : List (Addr × Obj)} {s : Shared} {σ : L2.St} {H : Hp} {a b : Addr} {ys : List V} {v u : Value} {Q : VK} (I : Inv X pins σ H s) (rx : RelV (.ref a) v) (ry : RelV (.ref b) u) (ha : SqT X.K H a []) (hb : SqT X.K H b ys) (q : Q (.ref b) H) :
    wpAny (model X.prog X.w) X.A (binaryOp .Add v u) (EP X pins σ Q) X.xe s := by
  cases rx
  cases ry
  obtain ⟨its, r1, p1, _⟩ := I.tuple ha
  obtain ⟨its2, r2, p2, _⟩ := I.tuple hb
  cases r1
  obtain ⟨⟨cls, dd, data, sl⟩, ho, hc, n, hd⟩ := id p1
  obtain ⟨⟨cls2, dd2, data2, sl2⟩, ho2, hc2, n2, hd2⟩ := id p2
  simp only at hc hd hc2 hd2
  subst hc hd hc2 hd2
  exact concat_meets ⟨_, ho, rfl⟩ ⟨_, ho2, rfl⟩ noFill_tuple_add seq_tuple_add PySem.F.slot_tuple_add PySem.F.entry_tuple_add (PySem.F.args_tuple_add_2 _ _)
      (tuple_addW0 a b _ _ n n2 dd dd2 sl sl2 (by simp)) ⟨ho, ho2, ⟨.ref b, H, I, rfl, q⟩⟩
def opAdd : D → D → M D := fun d e S => match d, e with
  | .int i, .int j => .ok (.int (i + j)) S
  | .str x, .str y => if x.length + y.length ≤ sizeLine then .ok (.str (x ++ y)) S else .no
  | .tup xs, .tup ys => if xs.length + ys.length ≤ sizeLine then .ok (.tup (xs ++ ys)) S else .no
  | .ref k, .ref l => match S[k]?, S[l]? with
    | some (.lst xs), some (.lst ys) => if xs.length + ys.length ≤ sizeLine then .ok (.ref S.length) (S ++ [.lst (xs ++ ys)]) else .no
    | _, _ => .no
  | _, _ => .no
theorem o_add (hK : g.K = X.K := by rfl) : OpR X (binaryOp .Add) (rOp g X opAdd) := by
  intro pins s σ H x y v u Q I rx ry ⟨m, S, d, e, sm, hx, hy, o⟩
  unfold opAdd at o
  split at o
  · rw [hx.int_inv] at rx; rw [hy.int_inv] at ry
    exact op_add pins s σ H _ _ v u Q I rx ry ⟨_, _, rfl, rfl, Out.ok sm o _ (.int _)⟩
  · rw [hx.str_inv] at rx; rw [hy.str_inv] at ry
    split at o
    · rename_i hl
      exact op_add_str pins s σ H _ _ v u Q I rx ry ⟨_, _, rfl, rfl, hl, Out.ok sm o _ (.str _)⟩
    · exact o.elim
  · split at o
    · rename_i hl
      obtain ⟨a, vs, rfl, t1, r1⟩ := hx.tup_inv
      obtain ⟨b, us, rfl, t2, r2⟩ := hy.tup_inv
      have l1 := r1.length
      have l2 := r2.length
      by_cases e1 : vs = []
      · subst e1
        cases r1
        exact catE I rx ry (hK ▸ t1.sq) (hK ▸ t2.sq) (Out.ok sm o _ (.tup t2 r2))
      · refine op_catT pins s σ H _ _ v u Q I rx ry ⟨a, b, vs, us, rfl, rfl, hK ▸ t1.sq, hK ▸ t2.sq, e1, by omega, fun e2 => ?_, fun e2 p hp => ?_⟩
        · subst e2
          cases r2
          rw [List.append_nil] at o
          exact Out.ok sm o _ (.tup t1 r1)
        · exact newT sm (r1.append r2) o hp
    · exact o.elim
  · split at o
    · rename_i k l _ _ xs ys e1 e2
      split at o
      · rename_i hl
        obtain ⟨a, vs, h1, h2, r1⟩ := sm.list e1
        obtain ⟨b, us, h3, h4, r2⟩ := sm.list e2
        obtain ⟨a', rfl, h5⟩ := hx.ref_inv
        obtain ⟨b', rfl, h6⟩ := hy.ref_inv
        rw [h1] at h5; cases h5
        rw [h3] at h6; cases h6
        have l1 := r1.length
        have l2 := r2.length
        exact op_cat pins s σ H _ _ v u Q I rx ry ⟨a, b, vs, us, rfl, rfl, h2, h4, by omega, fun p hp => newL sm (r1.append r2) o hp⟩
      · exact o.elim
    · exact o.elim
  · exact o.elim
def opI2 (c : Int → Int → Bool) (k : Int → Int → D) : D → D → M D := fun d e S => match d, e with
  | .int i, .int j => if c i j = true then .ok (k i j) S else .no
  | _, _ => .no
theorem o_int2 {f : Value → Value → Sem Value} {C : Int → Int → Prop} {G : Int → Int → V} {c : Int → Int → Bool} {k : Int → Int → D} (h : OpR X f (rI C G)) (hc : ∀ i j, c i j = true → C i j) (hk : ∀ i j m H, RD g m H (k i j) (G i j)) : OpR X f (rOp g X (opI2 c k)) := by
  intro pins s σ H x y v u Q I rx ry ⟨m, S, d, e, sm, hx, hy, o⟩
  unfold opI2 at o
  split at o
  · split at o
    · rename_i i j hi
      rw [hx.int_inv] at rx; rw [hy.int_inv] at ry
      exact h pins s σ H _ _ v u Q I rx ry ⟨_, _, rfl, rfl, hc _ _ hi, Out.ok sm o _ (hk _ _ _ _)⟩
    · exact o.elim
  · exact o.elim
def opI0 (k : Int → Int → D) : D → D → M D := fun d e S => match d, e with
  | .int i, .int j => .ok (k i j) S
  | _, _ => .no
theorem o_int0 {f : Value → Value → Sem Value} {G : Int → Int → V} {k : Int → Int → D} (h : OpR X f (rI0 G)) (hk : ∀ i j m H, RD g m H (k i j) (G i j)) : OpR X f (rOp g X (opI0 k)) := by
  intro pins s σ H x y v u Q I rx ry ⟨m, S, d, e, sm, hx, hy, o⟩
  unfold opI0 at o
  split at o
  · rw [hx.int_inv] at rx; rw [hy.int_inv] at ry
    exact h pins s σ H _ _ v u Q I rx ry ⟨_, _, rfl, rfl, Out.ok sm o _ (hk _ _ _ _)⟩
  · exact o.elim
abbrev opSub := opI0 fun i j => .int (i - j)
theorem o_sub : OpR X (binaryOp .Sub) (rOp g X opSub) := o_int0 op_sub fun _ _ _ _ => .int _
abbrev opMod := opI2 (fun _ j => decide (0 < j)) fun i j => .int (i % j)
theorem o_mod : OpR X (binaryOp .Mod) (rOp g X opMod) := o_int2 op_mod (fun _ _ h => of_decide_eq_true h) fun _ _ _ _ => .int _
abbrev opDiv := opI2 (fun _ j => decide (0 < j) && decide (j < 2 ^ 100)) fun i j => .int (i / j)
theorem o_fdiv : OpR X (binaryOp .FloorDiv) (rOp g X opDiv) := o_int2 op_fdivW (fun _ _ h => by simpa [CDivW] using h) fun _ _ _ _ => .int _
abbrev opPow := opI2 (fun i j => decide (0 ≤ j) && (decide (j ≤ 1000000) && decide (i.natAbs < 2 ^ 64))) fun i j => .int (i ^ j.toNat)
theorem o_pow : OpR X (binaryOp .Pow) (rOp g X opPow) := o_int2 op_pow (fun _ _ h => by simpa [CPow] using h) fun _ _ _ _ => .int _
def cmul (i j : Int) : Bool := (decide (-(2 ^ 64) < i) && decide (i < 2 ^ 64)) || (decide (-(2 ^ 64) < j) && decide (j < 2 ^ 64))
def opMul : D → D → M D := fun d e S => match d, e with
  | .int i, .int j => if cmul i j = true then .ok (.int (i * j)) S else .no
  | .str x, .int k => if k = 0 ∨ k = 1 then .ok (.str (if k = 1 then x else Str.empty)) S else .no
  | .ref k, .int n => match S[k]? with
    | some (.lst xs) => if 0 ≤ n ∧ n < 2 ^ 63 ∧ xs.length * n.toNat ≤ sizeLine then .ok (.ref S.length) (S ++ [.lst (List.replicate n.toNat xs).flatten]) else .no
    | _ => .no
  | _, _ => .no
theorem cmul_ok {i j : Int} (h : cmul i j = true) : CMul i j := by
  simp only [cmul, Bool.or_eq_true, Bool.and_eq_true, decide_eq_true_eq] at h
  exact h
theorem RDs.flat {m : List Addr} {H : Hp} {xs : List D} {vs : List V} (r : RDs g m H xs vs) : ∀ n : Nat, RDs g m H (List.replicate n xs).flatten (List.replicate n vs).flatten
  | 0 => .nil
  | n + 1 => by
    rw [List.replicate_succ, List.replicate_succ, List.flatten_cons, List.flatten_cons]
    exact r.append (RDs.flat r n)
theorem o_mul : OpR X (binaryOp .Mult) (rOp g X opMul) := by
  intro pins s σ H x y v u Q I rx ry ⟨m, S, d, e, sm, hx, hy, o⟩
  unfold opMul at o
  split at o
  · split at o
    · rename_i hi
      rw [hx.int_inv] at rx; rw [hy.int_inv] at ry
      exact op_mul pins s σ H _ _ v u Q I rx ry ⟨_, _, rfl, rfl, cmul_ok hi, Out.ok sm o _ (.int _)⟩
    · exact o.elim
  · split at o
    · rename_i hi
      rw [hx.str_inv] at rx; rw [hy.int_inv] at ry
      exact op_repS pins s σ H _ _ v u Q I rx ry ⟨_, _, rfl, rfl, hi, Out.ok sm o _ (.str _)⟩
    · exact o.elim
  · split at o
    · rename_i e1
      split at o
      · rename_i hi
        obtain ⟨a, vs, h1, h2, r1⟩ := sm.list e1
        obtain ⟨a', rfl, h5⟩ := hx.ref_inv
        rw [h1] at h5; cases h5
        rw [hy.int_inv] at ry
        have l1 := r1.length
        refine op_rep pins s σ H _ _ v u Q I rx ry ⟨a, _, vs, rfl, rfl, h2, by omega, hi.2.1, by rw [← l1]; exact hi.2.2, fun p hp => ?_⟩
        exact newL sm (r1.flat _) o hp
      · exact o.elim
    · exact o.elim
  · exact o.elim
def uNeg : D → M D := fun d S => match d with
  | .int i => .ok (.int (-i)) S
  | _ => .no
abbrev opLt := opI0 fun i j => .bl (decide (i < j))
abbrev opLe := opI0 fun i j => .bl (decide (i ≤ j))
abbrev opGt := opI0 fun i j => .bl (decide (j < i))
abbrev opGe := opI0 fun i j => .bl (decide (j ≤ i))
theorem o_lt : OpR X (compareOp .Lt) (rOp g X opLt) := o_int0 op_lt fun _ _ _ _ => .bl _
theorem o_gt : OpR X (compareOp .Gt) (rOp g X opGt) := o_int0 op_gt fun _ _ _ _ => .bl _
theorem o_ge : OpR X (compareOp .GtE) (rOp g X opGe) := o_int0 op_ge fun _ _ _ _ => .bl _
end
def pyD (S : Sto) : D → Option PyData
  | .ref k => match S[k]? with
    | some (.lst xs) => (pyPs xs).map .list
    | _ => none
  | d => pyP d
mutual
theorem pyP_dp {g : Gd} {m : List Addr} {H : Hp} : ∀ {d : D} {v : V} {a : PyData}, pyP d = some a → RD g m H d v → Dp g.K H v a
  | .non, _, _, e, r => by cases r; simp only [pyP] at e; cases e; exact .non
  | .bl b, _, _, e, r => by cases r; simp only [pyP] at e; cases e; exact .bl b
  | .int i, _, _, e, r => by cases r; simp only [pyP] at e; cases e; exact .int i
  | .str x, _, _, e, r => by cases r; simp only [pyP] at e; cases e; exact .str x
  | .tup xs, _, _, e, r => by
    cases r with
    | tup t q =>
      simp only [pyP] at e
      obtain ⟨ds, h1, h2⟩ := Option.map_eq_some_iff.mp e
      subst h2
      exact .tup t.sq (pyPs_dp h1 q)
  | .lro xs, _, _, e, r => by
    cases r with
    | lro t q =>
      simp only [pyP] at e
      obtain ⟨ds, h1, h2⟩ := Option.map_eq_some_iff.mp e
      subst h2
      exact .lst t.sq (pyPs_dp h1 q)
  | .ty _, _, _, e, _ => by simp [pyP] at e
  | .fn _, _, _, e, _ => by simp [pyP] at e
  | .ref _, _, _, e, _ => by simp [pyP] at e
  | .dro _ _, _, _, e, _ => by simp [pyP] at e
  | .drt _ _, _, _, e, _ => by simp [pyP] at e
theorem pyPs_dp {g : Gd} {m : List Addr} {H : Hp} : ∀ {ds : List D} {vs : List V} {as : List PyData}, pyPs ds = some as → RDs g m H ds vs → DpAll g.K H vs as
  | [], _, _, e, r => by cases r; simp only [pyPs] at e; cases e; exact .nil
  | d :: ds, _, _, e, r => by
    cases r with
    | cons r1 r2 =>
      simp only [pyPs] at e
      split at e
      · rename_i a b h1 h2
        cases e
        exact .cons (pyP_dp h1 r1) (pyPs_dp h2 r2)
      · cases e
end
theorem pyD_dp {g : Gd} {m : List Addr} {S : Sto} {H : Hp} (sm : Sim g m S H) {d : D} {v : V} {a : PyData} (e : pyD S d = some a) (r : RD g m H d v) : Dp g.K H v a := by
  cases d with
  | ref k =>
    simp only [pyD] at e
    split at e
    · rename_i xs h
      obtain ⟨ds, h1, h2⟩ := Option.map_eq_some_iff.mp e
      subst h2
      obtain ⟨a', vs, h3, h4, r1⟩ := sm.list h
      obtain ⟨b, rfl, h5⟩ := r.ref_inv
      rw [h3] at h5; cases h5
      exact .lst (SqL.of h4) (pyPs_dp h1 r1)
    · cases e
  | _ => exact pyP_dp e r
def shW (d : PyData) : Bool := d.canLay0 && decide (d.depth ≤ 1000)
theorem shW_lay {d : PyData} (h : shW d = true) : d.canLay0 = true := (Bool.and_eq_true_iff.mp h).1
theorem shW_dep {d : PyData} (h : shW d = true) : d.depth ≤ 1000 := of_decide_eq_true (Bool.and_eq_true_iff.mp h).2
def eqB (S : Sto) (d e : D) : Option Bool := match d, e with
  | .int i, .int j => some (decide (i = j))
  | .str x, .str y => some (decide (x = y))
  | .bl a, .bl b => some (decide (a = b))
  | .non, .non => some true
  | .non, .int _ => some false
  | .int _, .non => some false
  | .non, .str _ => some false
  | .str _, .non => some false
  | .int _, .str _ => some false
  | .str _, .int _ => some false
  | d, e => match pyD S d, pyD S e with
    | some a, some b => if shW a = true ∧ shW b = true then some (PyData.eqv a b) else none
    | _, _ => none
def opEq : D → D → M D := fun d e S => match eqB S d e with
  | some b => .ok (.bl b) S
  | none => .no
def opNe : D → D → M D := fun d e S => match eqB S d e with
  | some b => .ok (.bl (!b)) S
  | none => .no
section
variable {g : Gd} {X : Cx} {k : Nat}
theorem eqB_cases {m : List Addr} {S : Sto} {H : Hp} (sm : Sim g m S H) {d e : D} {x y : V} {b : Bool} (hx : RD g m H d x) (hy : RD g m H e y) (h : eqB S d e = some b) :
    (scal x y = true ∧ b = decide (x = y)) ∨ (∃ p q, Dp g.K H x p ∧ Dp g.K H y q ∧ shW p = true ∧ shW q = true ∧ b = PyData.eqv p q) := by
  unfold eqB at h
  split at h
  · cases h; rw [hx.int_inv, hy.int_inv]; exact .inl ⟨rfl, by simp⟩
  · cases h; rw [hx.str_inv, hy.str_inv]; exact .inl ⟨rfl, by simp⟩
  · cases h; rw [hx.bl_inv, hy.bl_inv]; exact .inl ⟨rfl, by simp⟩
  · cases h; rw [hx.non_inv, hy.non_inv]; exact .inl ⟨rfl, by simp⟩
  · cases h; rw [hx.non_inv, hy.int_inv]; exact .inl ⟨rfl, by simp⟩
  · cases h; rw [hx.int_inv, hy.non_inv]; exact .inl ⟨rfl, by simp⟩
  · cases h; rw [hx.non_inv, hy.str_inv]; exact .inl ⟨rfl, by simp⟩
  · cases h; rw [hx.str_inv, hy.non_inv]; exact .inl ⟨rfl, by simp⟩
  · cases h; rw [hx.int_inv, hy.str_inv]; exact .inl ⟨rfl, by simp⟩
  · cases h; rw [hx.str_inv, hy.int_inv]; exact .inl ⟨rfl, by simp⟩
  · split at h
    · rename_i p q h1 h2
      split at h
      · rename_i hs
        cases h
        exact .inr ⟨p, q, pyD_dp sm h1 hx, pyD_dp sm h2 hy, hs.1, hs.2, rfl⟩
      · cases h
    · cases h
theorem o_eq (hr : Room k X.A) (hK : g.K = X.K := by rfl) : OpR X (compareOp .Eq) (rOp g X opEq) := by
  intro pins s σ H x y v u Q I rx ry ⟨m, S, d, e, sm, hx, hy, o⟩
  unfold opEq at o
  split at o
  · rename_i b hb
    rcases eqB_cases sm hx hy hb with ⟨h1, rfl⟩ | ⟨p, q, h1, h2, h3, h4, rfl⟩
    · exact op_eq pins s σ H _ _ v u Q I rx ry ⟨h1, Out.ok sm o _ (.bl _)⟩
    · rw [hK] at h1 h2
      obtain ⟨as, r1⟩ := Dp.reads I p x v h1 rx
      obtain ⟨bs, r2⟩ := Dp.reads I q y u h2 ry
      have hd := shW_dep h3
      have hu := hr.units2
      exact SeqAt.compareEq_reads r1 r2 (shW_lay h3) (shW_lay h4) (by have := Nat.min_le_left p.depth q.depth; omega) ⟨.bl _, H, I, rfl, Out.ok sm o _ (.bl _)⟩
  · exact o.elim
theorem o_ne (hr : Room k X.A) (hK : g.K = X.K := by rfl) : OpR X (compareOp .NotEq) (rOp g X opNe) := by
  intro pins s σ H x y v u Q I rx ry ⟨m, S, d, e, sm, hx, hy, o⟩
  unfold opNe at o
  split at o
  · rename_i b hb
    rcases eqB_cases sm hx hy hb with ⟨h1, rfl⟩ | ⟨p, q, h1, h2, h3, h4, rfl⟩
    · exact op_ne pins s σ H _ _ v u Q I rx ry ⟨h1, Out.ok sm o _ (.bl _)⟩
    · rw [hK] at h1 h2
      obtain ⟨as, r1⟩ := Dp.reads I p x v h1 rx
      obtain ⟨bs, r2⟩ := Dp.reads I q y u h2 ry
      have hd := shW_dep h3
      have hu := hr.units2
      exact SeqAt.compareNe_reads r1 r2 (shW_lay h3) (shW_lay h4) (by have := Nat.min_le_left p.depth q.depth; omega) ⟨.bl _, H, I, rfl, Out.ok sm o _ (.bl _)⟩
  · exact o.elim
def isNon : D → Bool
  | .non => true
  | _ => false
theorem isNon_eq {m : List Addr} {H : Hp} {d : D} {x : V} (h : RD g m H d x) : decide (x = .non) = isNon d := by
  cases h <;> simp [isNon]
def opIs : D → D → M D := fun d e S => match e with
  | .non => .ok (.bl (isNon d)) S
  | _ => .no
def opIsNot : D → D → M D := fun d e S => match e with
  | .non => .ok (.bl (!isNon d)) S
  | _ => .no
theorem o_is : OpR X (compareOp .Is) (rOp g X opIs) := by
  intro pins s σ H x y v u Q I rx ry ⟨m, S, d, e, sm, hx, hy, o⟩
  unfold opIs at o
  split at o
  · rw [hy.non_inv] at ry
    exact op_isN pins s σ H _ _ v u Q I rx ry ⟨rfl, by rw [isNon_eq hx]; exact Out.ok sm o _ (.bl _)⟩
  · exact o.elim
def flatD : D → Bool
  | .non => true
  | .bl _ => true
  | .int _ => true
  | .str _ => true
  | _ => false
def eqF : D → D → Bool
  | .non, .non => true
  | .bl a, .bl b => a == b
  | .bl a, .int b => (if a then 1 else 0) == b
  | .int a, .bl b => a == (if b then 1 else 0)
  | .int a, .int b => a == b
  | .str a, .str b => a == b
  | _, _ => false
def inB (S : Sto) (x y : D) : Option Bool := match y with
  | .tup ys => if flatD x = true ∧ ys.all flatD = true then some (ys.any fun y => eqF y x) else none
  | .lro ys => if flatD x = true ∧ ys.all flatD = true then some (ys.any fun y => eqF y x) else none
  | .ref k => match S[k]? with
    | some (.lst ys) => if flatD x = true ∧ ys.all flatD = true then some (ys.any fun y => eqF y x) else none
    | _ => none
  | .str z => match x with
    | .str c => match c.cps.toList with
      | [n] => some (decide (n ∈ z.cps.toList))
      | _ => none
    | _ => none
  | _ => none
theorem flatD_eq {m : List Addr} {H : Hp} {d : D} {x : V} (h : RD g m H d x) : flatV x = flatD d := by cases h <;> rfl
theorem eqF_eq {m : List Addr} {H : Hp} {d e : D} {x y : V} (h : RD g m H d x) (h' : RD g m H e y) : eqV x y = eqF d e := by cases h <;> cases h' <;> rfl
theorem all_flat {m : List Addr} {H : Hp} : ∀ {ds : List D} {vs : List V}, RDs g m H ds vs → vs.all flatV = ds.all flatD
  | _, _, .nil => rfl
  | _, _, .cons a b => by rw [List.all_cons, List.all_cons, flatD_eq a, all_flat b]
theorem any_eqF {m : List Addr} {H : Hp} {d : D} {x : V} (h : RD g m H d x) : ∀ {ds : List D} {vs : List V}, RDs g m H ds vs → inV x vs = ds.any fun y => eqF y d
  | _, _, .nil => rfl
  | _, _, .cons a b => by
    have := any_eqF h b
    unfold inV at this ⊢
    rw [List.any_cons, List.any_cons, eqF_eq a h, this]
def opIn : D → D → M D := fun d e S => match inB S d e with
  | some b => .ok (.bl b) S
  | none => .no
def opNotIn : D → D → M D := fun d e S => match inB S d e with
  | some b => .ok (.bl (!b)) S
  | none => .no
theorem str_of_list {c : Str} {n : Nat} (h : c.cps.toList = [n]) : c = ⟨#[n]⟩ := by
  cases c with
  | mk cps =>
    congr 1
    apply Array.ext'
    exact h
theorem inB_cases {m : List Addr} {S : Sto} {H : Hp} (sm : Sim g m S H) {d e : D} {x y : V} {b : Bool} (hx : RD g m H d x) (hy : RD g m H e y) (h : inB S d e = some b) :
    (∃ p vs, y = .ref p ∧ (SqL g.K H p vs ∨ SqT g.K H p vs) ∧ flatV x = true ∧ vs.all flatV = true ∧ b = inV x vs) ∨ (∃ (c : Nat) (z : Str), x = .str ⟨#[c]⟩ ∧ y = .str z ∧ b = decide (c ∈ z.cps.toList)) := by
  unfold inB at h
  split at h
  · split at h
    · rename_i hf
      cases h
      obtain ⟨a, vs, rfl, t, r⟩ := hy.tup_inv
      exact .inl ⟨a, vs, rfl, .inr t.sq, by rw [flatD_eq hx]; exact hf.1, by rw [all_flat r]; exact hf.2, (any_eqF hx r).symm⟩
    · cases h
  · split at h
    · rename_i hf
      cases h
      cases hy with
      | lro t r => exact .inl ⟨_, _, rfl, .inl t.sq, by rw [flatD_eq hx]; exact hf.1, by rw [all_flat r]; exact hf.2, (any_eqF hx r).symm⟩
    · cases h
  · split at h
    · rename_i e1
      split at h
      · rename_i hf
        cases h
        obtain ⟨a, vs, h1, h2, r⟩ := sm.list e1
        obtain ⟨a', rfl, h5⟩ := hy.ref_inv
        rw [h1] at h5; cases h5
        exact .inl ⟨_, _, rfl, .inl (SqL.of h2), by rw [flatD_eq hx]; exact hf.1, by rw [all_flat r]; exact hf.2, (any_eqF hx r).symm⟩
      · cases h
    · cases h
  · split at h
    · split at h
      · rename_i hc
        cases h
        refine .inr ⟨_, _, ?_, hy.str_inv, rfl⟩
        rw [hx.str_inv]
        congr 1
        exact str_of_list hc
      · cases h
    · cases h
  · cases h
theorem o_in (hK : g.K = X.K := by rfl) : OpR X (compareOp .In) (rOp g X opIn) := by
  intro pins s σ H x y v u Q I rx ry ⟨m, S, d, e, sm, hx, hy, o⟩
  unfold opIn at o
  split at o
  · rename_i b hb
    rcases inB_cases sm hx hy hb with ⟨p, vs, rfl, h1, h2, h3, rfl⟩ | ⟨c, z, rfl, rfl, rfl⟩
    · rw [hK] at h1
      exact op_in_seq pins s σ H _ _ v u Q I rx ry ⟨p, vs, rfl, h1, h2, h3, Out.ok sm o _ (.bl _)⟩
    · exact op_in_sign pins s σ H _ _ v u Q I rx ry ⟨c, z, rfl, rfl, Out.ok sm o _ (.bl _)⟩
  · exact o.elim
theorem o_notIn (hK : g.K = X.K := by rfl) : OpR X (compareOp .NotIn) (rOp g X opNotIn) := by
  intro pins s σ H x y v u Q I rx ry ⟨m, S, d, e, sm, hx, hy, o⟩
  unfold opNotIn at o
  split at o
  · rename_i b hb
    rcases inB_cases sm hx hy hb with ⟨p, vs, rfl, h1, h2, h3, rfl⟩ | ⟨c, z, rfl, rfl, rfl⟩
    · rw [hK] at h1
      exact op_notIn_seq pins s σ H _ _ v u Q I rx ry ⟨p, vs, rfl, h1, h2, h3, Out.ok sm o _ (.bl _)⟩
    · exact op_notIn_sign pins s σ H _ _ v u Q I rx ry ⟨c, z, rfl, rfl, Out.ok sm o _ (.bl _)⟩
  · exact o.elim
end
end Ab

namespace Ab
open PySem PySem.Spec PyProof.Rows L2
theorem PE.or {X : Cx} {e : Expr} {t u : TE} (h : PE X e t) (h' : PE X e u) : PE X e (fun σ H Q => t σ H Q ∨ u σ H Q) := fun pins s σ H Q I q => q.elim (h pins s σ H Q I) (h' pins s σ H Q I)
theorem RDs.atI {g : Gd} {m : List Addr} {H : Hp} {ds : List D} {vs : List V} {i : Int} {d : D} (r : RDs g m H ds vs) (h : L2.atI ds i = some d) : ∃ v, L2.atI vs i = some v ∧ RD g m H d v := by
  unfold L2.atI at h ⊢
  rw [← r.length]
  cases hj : ixN ds.length i with
  | none => rw [hj] at h; cases h
  | some j =>
    rw [hj] at h
    exact r.get h
def keyK : D → Option Key
  | .int i => some (.inl i)
  | .str x => some (.inr x)
  | _ => none
def lookD (ks vs : List D) (k : Key) : Option D := match ks, vs with
  | d :: ks, v :: vs => if keyK d = some k then some v else lookD ks vs k
  | _, _ => none
def valD (kvs : List (Key × D)) (k : Key) : Option D := (kvs.find? fun kv => decide (kv.1 = k)).map (·.2)
def ixSeq : D → D → M D := fun d e S => match d, e with
  | .tup xs, .int i => ofO S (L2.atI xs i)
  | .lro xs, .int i => ofO S (L2.atI xs i)
  | .ref k, .int i => match S[k]? with
    | some (.lst xs) => ofO S (L2.atI xs i)
    | _ => .no
  | .str z, .int i => if z.length ≤ sizeLine then (ofO S (L2.atI z.cps.toList i)).bind fun c S => .ok (.str ⟨#[c]⟩) S else .no
  | _, _ => .no
def ixKd : D → D → M D := fun d e S => match d with
  | .dro ks vs => (ofO S (keyK e)).bind fun k S => ofO S (lookD ks vs k)
  | _ => .no
def ixDct : D → D → M D := fun d e S => match d with
  | .ref k => match S[k]? with
    | some (.dct kvs) => (ofO S (keyK e)).bind fun k S => ofO S (valD kvs k)
    | some (.dfz kvs) => (ofO S (keyK e)).bind fun k S => ofO S (valD kvs k)
    | _ => .no
  | _ => .no
def ixD : D → D → M D := fun d e S => match d with
  | .dro _ _ => ixKd d e S
  | .ref k => match S[k]? with
    | some (.dct _) => ixDct d e S
    | some (.dfz _) => ixDct d e S
    | _ => ixSeq d e S
  | _ => ixSeq d e S
section
variable {g : Gd} {X : Cx} {a b c e o : Expr} {es : List Expr} {f fa fb fc : Env → M D} {ft fu : Env → M Bool} {fs : Env → M (List D)} {pos apos cpos p p2 pos' : Pos} {x : Str} {k : Nat}
theorem i_seq (hK : g.K = X.K := by rfl) : IxR X (rOp g X ixSeq) := by
  intro value slice pins s σ H x y v u Q I rx ry ⟨m, S, d, e, sm, hx, hy, o⟩ hs
  unfold ixSeq at o
  split at o
  · obtain ⟨a, vs, rfl, t, r⟩ := hx.tup_inv
    rw [hy.int_inv] at ry
    revert o; generalize hz : L2.atI _ _ = z; intro o
    cases z with
    | none => exact o.elim
    | some d =>
      obtain ⟨w, h1, h2⟩ := r.atI hz
      exact ix_tup value slice pins s σ H _ _ v u Q I rx ry ⟨a, vs, _, w, rfl, rfl, hK ▸ t.sq, h1, Out.ok sm o _ h2⟩ hs
  · cases hx with
    | @lro a _ vs t r =>
      rw [hy.int_inv] at ry
      revert o; generalize hz : L2.atI _ _ = z; intro o
      cases z with
      | none => exact o.elim
      | some d =>
        obtain ⟨w, h1, h2⟩ := r.atI hz
        exact ix_list value slice pins s σ H _ _ v u Q I rx ry ⟨a, vs, _, w, rfl, rfl, hK ▸ t.sq, h1, Out.ok sm o _ h2⟩ hs
  · split at o
    · rename_i e1
      rw [hy.int_inv] at ry
      obtain ⟨a, vs, h1, h2, r⟩ := sm.list e1
      obtain ⟨a', rfl, h5⟩ := hx.ref_inv
      rw [h1] at h5; cases h5
      revert o; generalize hz : L2.atI _ _ = z; intro o
      cases z with
      | none => exact o.elim
      | some d =>
        obtain ⟨w, h3, h4⟩ := r.atI hz
        exact ix_list value slice pins s σ H _ _ v u Q I rx ry ⟨a, vs, _, w, rfl, rfl, SqL.of h2, h3, Out.ok sm o _ h4⟩ hs
    · exact o.elim
  · split at o
    · rename_i hl
      rw [hy.int_inv] at ry
      rw [hx.str_inv] at rx
      revert o; generalize hz : L2.atI _ _ = z; intro o
      cases z with
      | none => exact o.elim
      | some d => exact ix_str value slice pins s σ H _ _ v u Q I rx ry ⟨_, _, d, rfl, rfl, hl, hz, Out.ok sm o _ (.str _)⟩ hs
    · exact o.elim
  · exact o.elim
theorem keyK_eq {m : List Addr} {H : Hp} {d : D} {v : V} {k : Key} (h : keyK d = some k) (r : RD g m H d v) : v = kV k := by
  cases r <;> simp [keyK] at h <;> subst h <;> rfl
theorem keyK_keyD (k : Key) : keyK (keyD k) = some k := by cases k <;> rfl
theorem lookD_val {m : List Addr} {H : Hp} {k : Key} {d : D} : ∀ {kvs : List (Key × V)} {ds : List D}, RDs g m H ds (kvs.map (·.2)) → lookD (kvs.map fun kv => keyD kv.1) ds k = some d → ∃ v, valV kvs k = some v ∧ RD g m H d v
  | [], _, r, h => by cases r; cases h
  | kv :: kvs, _, r, h => by
    rw [List.map_cons] at r
    cases r with
    | cons r1 r2 =>
      rw [List.map_cons] at h
      unfold lookD at h
      rw [keyK_keyD] at h
      unfold valV
      rw [List.find?_cons]
      by_cases e : kv.1 = k
      · rw [if_pos (by rw [e])] at h
        cases h
        rw [decide_eq_true e]
        exact ⟨kv.2, rfl, r1⟩
      · rw [if_neg (fun z => e (Option.some.inj z))] at h
        rw [decide_eq_false e]
        exact lookD_val r2 h
theorem RK.val {m : List Addr} {H : Hp} {k : Key} {d : D} : ∀ {kd : List (Key × D)} {kv : List (Key × V)}, RK g m H kd kv → valD kd k = some d → ∃ v, valV kv k = some v ∧ RD g m H d v
  | _, _, .nil, h => by cases h
  | _, _, .cons (a := p) (b := q) r1 r2, h => by
    unfold valD at h
    unfold valV
    rw [List.find?_cons] at h ⊢
    rw [← r1.1]
    by_cases e : p.1 = k
    · rw [decide_eq_true e] at h ⊢
      cases h
      exact ⟨q.2, rfl, r1.2⟩
    · rw [decide_eq_false e] at h ⊢
      exact RK.val r2 h
theorem RK.none {m : List Addr} {H : Hp} {k : Key} : ∀ {kd : List (Key × D)} {kv : List (Key × V)}, RK g m H kd kv → valD kd k = none → valV kv k = none
  | _, _, .nil, h => rfl
  | _, _, .cons (a := p) (b := q) r1 r2, h => by
    unfold valD at h
    unfold valV
    rw [List.find?_cons] at h ⊢
    rw [← r1.1]
    by_cases e : p.1 = k
    · rw [decide_eq_true e] at h
      cases h
    · rw [decide_eq_false e] at h ⊢
      exact RK.none r2 h
theorem dct_of {m : List Addr} {S : Sto} {H : Hp} (sm : Sim g m S H) {k : Nat} {kvs : List (Key × D)} (h : S[k]? = some (.dct kvs)) : ∃ a vs, m[k]? = some a ∧ H a = some (.dK vs) ∧ RK g m H kvs vs := by
  obtain ⟨a, ha, vs, h1, h2⟩ := sm.addr h
  exact ⟨a, vs, ha, h1, h2⟩
theorem dfz_of {m : List Addr} {S : Sto} {H : Hp} (sm : Sim g m S H) {k : Nat} {kvs : List (Key × D)} (h : S[k]? = some (.dfz kvs)) : ∃ a vs od, m[k]? = some a ∧ H a = some (.frz od (.dK vs)) ∧ RK g m H kvs vs := by
  obtain ⟨a, ha, vs, od, h1, h2⟩ := sm.addr h
  exact ⟨a, vs, od, ha, h1, h2⟩
theorem two {T : V → V → Hp → Prop} {m : List Addr} {env : Env} {S S1 S2 : Sto} {σ : L2.St} {H : Hp} {d e : D} (r : Rel g m H σ env) (s : Sim g m S H) (h1 : fa env S = .ok d S1) (h2 : fb env S1 = .ok e S2)
    (k : ∀ m' H' v u, Ext m H m' H' → Sim g m' S2 H' → RD g m' H' d v → RD g m' H' e u → T v u H') : tE g X fa σ H fun x H1 => tE g X fb σ H1 fun y H2 => T x y H2 := by
  refine ⟨m, env, S, r, s, ?_⟩
  rw [h1]
  refine fun m1 H1 e1 s1 v1 hv1 => ⟨m1, env, S1, r.mono e1, s1, ?_⟩
  rw [h2]
  exact fun m3 H3 e3 s3 v3 hv3 => k m3 H3 v1 v3 (e1.trans e3) s3 (hv1.mono e3) hv3
theorem e_sub (hu : X.A.units + 1 < cLine) (ha : EJ g X a fa) (hb : EJ g X b fb) (hs : PlainIx b := by exact fun _ _ => rfl) (hs2 : NoSl b := by exact fun _ _ => rfl) (hK : g.K = X.K := by rfl) (hP : g.P = X.prog := by rfl) (hw : g.w = X.w := by rfl) : EJ g X (.Subscript a b pos) (cOp ixD fa fb) := ⟨PE.imp (PE.or (pe_ix (i_seq hK) ha.un hb.un hs) (PE.or (pe_kget (pos := pos) ha.un hb.un hs2) (pe_dget (pos := pos) hu ha.un hb.un hs2))) fun σ H Q q => by
  obtain ⟨m, env, S, r, s, o⟩ := id q
  have seq : (cOp ixD fa fb env S = cOp ixSeq fa fb env S) → tOp (rOp g X ixSeq) (tE g X fa) (tE g X fb) σ H Q := fun e => t2 ⟨m, env, S, r, s, by rw [← e]; exact o⟩
  cases h1 : fa env S with
  | no => exact .inl (seq (by unfold cOp; rw [h1]; rfl))
  | ex x S1 => exact .inl (seq (by unfold cOp; rw [h1]; rfl))
  | ok d S1 =>
    cases h2 : fb env S1 with
    | no => exact .inl (seq (by unfold cOp; rw [h1, R.bind_ok, R.bind_ok, h2]; rfl))
    | ex x S2 => exact .inl (seq (by unfold cOp; rw [h1, R.bind_ok, R.bind_ok, h2]; rfl))
    | ok e2 S2 =>
      have fin : cOp ixD fa fb env S = ixD d e2 S2 := by unfold cOp; rw [h1, R.bind_ok, h2]; rfl
      have fin2 : cOp ixSeq fa fb env S = ixSeq d e2 S2 := by unfold cOp; rw [h1, R.bind_ok, h2]; rfl
      have ob : Out g X m H (ixD d e2 S2) (VQ g Q) := by rw [← fin]; exact o
      cases d with
      | dro ks vs =>
        refine .inr (.inl (two r s h1 h2 fun m' H' v u e' s' hv hu => ?_))
        have o3 := ob.mono e'
        unfold ixD ixKd at o3
        cases hk : keyK e2 with
        | none => rw [hk] at o3; exact o3.elim
        | some kk =>
          rw [hk] at o3
          have o4 : Out g X m' H' (ofO S2 (lookD ks vs kk)) (VQ g Q) := o3
          cases hl : lookD ks vs kk with
          | none => rw [hl] at o4; exact o4.elim
          | some dv =>
            rw [hl] at o4
            cases hv with
            | @dro a kvs ds T R =>
              obtain ⟨w, hw1, hw2⟩ := lookD_val R hl
              exact ⟨_, kvs, kk, w, rfl, keyK_eq hk hu, by rw [← hP, ← hw, ← hK]; exact T, hw1, Out.ok s' o4 _ hw2⟩
      | ref k =>
        cases hd : S2[k]? with
        | none => exact .inl (seq (by rw [fin, fin2]; simp only [ixD, hd]))
        | some ob2 =>
          cases ob2 with
          | lst xs => exact .inl (seq (by rw [fin, fin2]; simp only [ixD, hd]))
          | exc y => exact .inl (seq (by rw [fin, fin2]; simp only [ixD, hd]))
          | ins _ _ => exact .inl (seq (by rw [fin, fin2]; simp only [ixD, hd]))
          | set0 => exact .inl (seq (by rw [fin, fin2]; simp only [ixD, hd]))
          | dcd _ => exact .inl (seq (by rw [fin, fin2]; simp only [ixD, hd]))
          | dct kvs =>
            refine .inr (.inr (two r s h1 h2 fun m' H' v u e' s' hv hu => ?_))
            have o3 := ob.mono e'
            simp only [ixD, ixDct, hd] at o3
            cases hk : keyK e2 with
            | none => rw [hk] at o3; exact o3.elim
            | some kk =>
              rw [hk] at o3
              have o4 : Out g X m' H' (ofO S2 (valD kvs kk)) (VQ g Q) := o3
              cases hl : valD kvs kk with
              | none => rw [hl] at o4; exact o4.elim
              | some dv =>
                rw [hl] at o4
                obtain ⟨a, vs, h3, h4, R⟩ := dct_of s' hd
                obtain ⟨a', rfl, h5⟩ := hv.ref_inv
                rw [h3] at h5; cases h5
                obtain ⟨w, hw1, hw2⟩ := R.val hl
                exact ⟨a, w, rfl, by rw [keyK_eq hk hu, ← hw1]; exact DGet.k h4, Out.ok s' o4 _ hw2⟩
          | dfz kvs =>
            refine .inr (.inr (two r s h1 h2 fun m' H' v u e' s' hv hu => ?_))
            have o3 := ob.mono e'
            simp only [ixD, ixDct, hd] at o3
            cases hk : keyK e2 with
            | none => rw [hk] at o3; exact o3.elim
            | some kk =>
              rw [hk] at o3
              have o4 : Out g X m' H' (ofO S2 (valD kvs kk)) (VQ g Q) := o3
              cases hl : valD kvs kk with
              | none => rw [hl] at o4; exact o4.elim
              | some dv =>
                rw [hl] at o4
                obtain ⟨a, vs, od, h3, h4, R⟩ := dfz_of s' hd
                obtain ⟨a', rfl, h5⟩ := hv.ref_inv
                rw [h3] at h5; cases h5
                obtain ⟨w, hw1, hw2⟩ := R.val hl
                exact ⟨a, w, rfl, by rw [keyK_eq hk hu, ← hw1]; exact .inl ⟨vs, kk, .inr ⟨od, h4⟩, rfl, rfl⟩, Out.ok s' o4 _ hw2⟩
      | _ => exact .inl (seq (by rw [fin, fin2]; rfl))⟩
end
end Ab

namespace Ab
open PySem PySem.Spec PyProof.Rows L2
def gE (g : Gd) (X : Cx) (f : D → Env → M Env) : TG := fun v σ H Q => ∃ m env S d, Rel g m H σ env ∧ Sim g m S H ∧ RD g m H d v ∧ Out g X m H (f d env S) fun e _ m' H' => ∀ σ', Rel g m' H' σ' e → Q σ' H'
def gEs (g : Gd) (X : Cx) (f : List D → Env → M Env) : TGs := fun vs σ H Q => ∃ m env S ds, Rel g m H σ env ∧ Sim g m S H ∧ RDs g m H ds vs ∧ Out g X m H (f ds env S) fun e _ m' H' => ∀ σ', Rel g m' H' σ' e → Q σ' H'
structure GJ (g : Gd) (X : Cx) (e : Expr) (f : D → Env → M Env) : Prop where of :: un : PG X e (gE g X f)
structure GsJ (g : Gd) (X : Cx) (e : List Expr) (f : List D → Env → M Env) : Prop where of :: un : PGs X e (gEs g X f)
theorem PG.imp {X : Cx} {e : Expr} {t t' : TG} (h : PG X e t) (i : ∀ v σ H Q, t' v σ H Q → t v σ H Q) : PG X e t' := fun pins s σ H v u Q I r q => h pins s σ H v u Q I r (i _ _ _ _ q)
theorem PGs.imp {X : Cx} {e : List Expr} {t t' : TGs} (h : PGs X e t) (i : ∀ v σ H Q, t' v σ H Q → t v σ H Q) : PGs X e t' := fun pins s σ H v u Q I r q => h pins s σ H v u Q I r (i _ _ _ _ q)
def sName (i : Nat) : D → Env → M Env := fun d env S => .ok (env.set i (some d)) S
def sNil : List D → Env → M Env := fun ds env S => match ds with
  | [] => .ok env S
  | _ => .no
def sCons (f : D → Env → M Env) (fs : List D → Env → M Env) : List D → Env → M Env := fun ds env S => match ds with
  | d :: r => (f d env S).bind fun env S => fs r env S
  | [] => .no
def sTup (n : Nat) (fs : List D → Env → M Env) : D → Env → M Env := fun d env S => match d with
  | .tup ds => if ds.length = n then fs ds env S else .no
  | _ => .no
section
variable {g : Gd} {X : Cx} {a b c e o tg : Expr} {es : List Expr} {f fa fb fc : Env → M D} {ft fu : Env → M Bool} {fs : Env → M (List D)} {pos apos cpos p p2 pos' : Pos} {x : Str} {k : Nat} {gf : D → Env → M Env} {gfs : List D → Env → M Env}
theorem gName_of (i : Nat) (h : PG X e (gName i)) : GJ g X e (sName i) := ⟨PG.imp h fun v σ H Q ⟨m, env, S, d, r, s, hd, o⟩ => Out.ok s o _ (r.set i hd)⟩
theorem g_l (i : Nat) (hN : X.N.Nodup) (hi : X.N[i]? = some x := by kernel_rfl) (hx : X.env.scope.names.lookup x = some .local := by kernel_rfl) : GJ g X (.Name x pos) (sName i) := gName_of i (pg_l i hN hi hx)
theorem gs_nil : GsJ g X [] sNil := ⟨PGs.imp pgs_nil fun v σ H Q ⟨m, env, S, d, r, s, hd, o⟩ => by
  cases hd with
  | nil => exact ⟨rfl, Out.ok s o _ r⟩
  | cons _ _ => exact False.elim o⟩
theorem gs_cons (h : GJ g X e gf) (h2 : GsJ g X es gfs) (hh : (assignEach (e :: es) X.env).map (·.2) = assign e X.env :: (assignEach es X.env).map (·.2) := by kernel_rfl) : GsJ g X (e :: es) (sCons gf gfs) := ⟨PGs.imp (pgs_cons h.un h2.un hh) fun v σ H Q ⟨m, env, S, d, r, s, hd, o⟩ => by
  cases hd with
  | nil => exact False.elim o
  | cons h1 hr => exact ⟨_, _, rfl, m, env, S, _, r, s, h1, (Out.bind o).imp fun e1 S1 m1 H1 x1 s1 o1 σ1 r1 => ⟨m1, e1, S1, _, r1, s1, hr.mono x1, o1⟩⟩⟩
theorem g_tup {kk n : Nat} (h : GsJ g X es gfs) (hn : (assignEach es X.env).length = n := by kernel_rfl) (hf : List.findIdx? (fun x => x.1) (assignEach es X.env) = none := by kernel_rfl) (hc : X.calm = true := by rfl) (hK : g.K = X.K := by rfl) : GJ g X (.Tuple es kk pos) (sTup n gfs) := ⟨PG.imp (pg_tup hc h.un hn hf) fun v σ H Q ⟨m, env, S, d, r, s, hd, o⟩ => by
  unfold sTup at o
  split at o
  · split at o
    · rename_i hl
      obtain ⟨a, vs, rfl, t, q⟩ := hd.tup_inv
      exact ⟨a, vs, rfl, hK ▸ t.sq, by rw [← q.length]; exact hl, m, env, S, _, r, s, q, o⟩
    · exact o.elim
  · exact o.elim⟩
def putD (kvs : List (Key × D)) (k : Key) (v : D) : List (Key × D) :=
  if (kvs.any fun kv => decide (kv.1 = k)) = true then kvs.map (fun kv => if kv.1 = k then (kv.1, v) else kv) else kvs ++ [(k, v)]
theorem RK.any {m : List Addr} {H : Hp} {k : Key} : ∀ {kd : List (Key × D)} {kv : List (Key × V)}, RK g m H kd kv → (kd.any fun kv => decide (kv.1 = k)) = (kv.any fun kv => decide (kv.1 = k))
  | _, _, .nil => rfl
  | _, _, .cons (a := p) (b := q) r1 r2 => by rw [List.any_cons, List.any_cons, RK.any r2, r1.1]
theorem RK.map {m : List Addr} {H : Hp} {k : Key} {d : D} {v : V} (h : RD g m H d v) : ∀ {kd : List (Key × D)} {kv : List (Key × V)}, RK g m H kd kv → RK g m H (kd.map fun kv => if kv.1 = k then (kv.1, d) else kv) (kv.map fun kv => if kv.1 = k then (kv.1, v) else kv)
  | _, _, .nil => .nil
  | _, _, .cons (a := p) (b := q) r1 r2 => by
    rw [List.map_cons, List.map_cons]
    refine .cons ?_ (RK.map h r2)
    rw [← r1.1]
    by_cases e : p.1 = k
    · rw [if_pos e, if_pos e]; exact ⟨rfl, h⟩
    · rw [if_neg e, if_neg e]; exact r1
theorem RK.append {m : List Addr} {H : Hp} : ∀ {kd kd' : List (Key × D)} {kv kv' : List (Key × V)}, RK g m H kd kv → RK g m H kd' kv' → RK g m H (kd ++ kd') (kv ++ kv')
  | _, _, _, _, .nil, h => h
  | _, _, _, _, .cons a b, h => .cons a (RK.append b h)
theorem RK.put {m : List Addr} {H : Hp} {k : Key} {d : D} {v : V} {kd : List (Key × D)} {kv : List (Key × V)} (r : RK g m H kd kv) (h : RD g m H d v) : RK g m H (putD kd k d) (putK kv k v) := by
  unfold putD putK
  rw [r.any]
  split
  · exact r.map h
  · exact r.append (.cons ⟨rfl, h⟩ .nil)
theorem RK.length {m : List Addr} {H : Hp} {kd : List (Key × D)} {kv : List (Key × V)} (r : RK g m H kd kv) : kd.length = kv.length := Paired.length r
def setD (o i v : D) : M Unit := fun S => match o with
  | .ref l => match S[l]? with
    | some (.lst xs) => match i with
      | .int n => match ixN xs.length n with
        | some j => .ok () (S.set l (.lst (xs.set j v)))
        | none => .no
      | _ => .no
    | some (.dct kvs) => match keyK i with
      | some kk => if kvs.length < sizeLine then .ok () (S.set l (.dct (putD kvs kk v))) else .no
      | none => .no
    | _ => .no
  | _ => .no
def rSet (g : Gd) (X : Cx) : V → V → V → Hp → (Hp → Prop) → Prop := fun o i v H Q => ∃ m S d1 d2 d3, Sim g m S H ∧ RD g m H d1 o ∧ RD g m H d2 i ∧ RD g m H d3 v ∧ Out g X m H (setD d1 d2 d3 S) fun _ _ _ H' => Q H'
theorem Sim.putDict {m : List Addr} {S : Sto} {H : Hp} (s : Sim g m S H) {k : Nat} {a : Addr} {xs : List (Key × D)} {vs : List (Key × V)} (ha : m[k]? = some a) (hn : Nf H a) (r : RK g m H xs vs) : Sim g m (S.set k (.dct xs)) (upd H a (.dK vs)) :=
  s.put ha hn ⟨vs, upd_same, r.mono (ext_put (List.mem_of_getElem? ha) hn)⟩
theorem set_any (hu : X.A.units + 1 < cLine) : PSet X (rSet g X) := by
  intro pins s σ H o i v ov iv u Q I ro ri rv ⟨m, S, d1, d2, d3, sm, h1, h2, h3, out⟩
  unfold setD at out
  split at out
  · rename_i l
    obtain ⟨a, rfl, ha⟩ := h1.ref_inv
    split at out
    · rename_i xs hx
      split at out
      · rename_i n
        split at out
        · rename_i j hj
          obtain ⟨a', vs, e1, e2, r⟩ := sm.list hx
          rw [ha] at e1; cases e1
          rw [h2.int_inv] at ri
          refine set_list pins s σ H _ _ _ ov iv u Q I ro ri rv ⟨a, vs, n, j, rfl, rfl, e2, by rw [← r.length]; exact hj, ?_⟩
          exact out m _ (ext_put (List.mem_of_getElem? ha) (nfL e2)) (sm.putList ha (nfL e2) (r.set h3 j))
        · exact out.elim
      · exact out.elim
    · rename_i kvs hx
      split at out
      · rename_i kk hk
        split at out
        · rename_i hl
          obtain ⟨a', vs, e1, e2, r⟩ := dct_of sm hx
          rw [ha] at e1; cases e1
          cases ro
          refine d_setItem hu I (H' := upd H a (.dK (putK vs kk v))) (by rw [keyK_eq hk h2]; exact DPut.k e2 (by rw [← r.length]; exact hl)) ri rv fun s' I' => ⟨_, I', ?_⟩
          exact out m _ (ext_put (List.mem_of_getElem? ha) (nfD e2)) (sm.putDict ha (nfD e2) (r.put h3))
        · exact out.elim
      · exact out.elim
    · exact out.elim
  · exact out.elim
def sSub (fo fi : Env → M D) : D → Env → M Env := fun v env S => (fo env S).bind fun o S => (fi env S).bind fun i S => (setD o i v S).bind fun _ S => .ok env S
theorem g_sub (hu : X.A.units + 1 < cLine) (ho : EJ g X o fa) (hi : EJ g X e fb)
    (ha : ∀ v, assign (.Subscript o e pos) X.env v = (do
      let ov ← holding [v] (eval o X.env)
      let iv ← holding [v, ov] (eval e X.env)
      standAt pos
      holding [v, ov, iv] (setItem ov iv v)
      release [v, ov, iv] []) := by intro _; rfl) : GJ g X (.Subscript o e pos) (sSub fa fb) := ⟨PG.imp (pg_sub ho.un hi.un (set_any (g := g) hu) ha) fun v σ H Q ⟨m, env, S, d, r, s, hd, out⟩ =>
  ⟨m, env, S, r, s, (Out.bind out).imp fun d1 S1 m1 H1 x1 s1 o1 v1 h1 => ⟨m1, env, S1, r.mono x1, s1, (Out.bind o1).imp fun d2 S2 m2 H2 x2 s2 o2 v2 h2 =>
    ⟨m2, S2, d1, d2, d, s2, h1.mono x2, h2, hd.mono (x1.trans x2), (Out.bind o2).imp fun _ S3 m3 H3 x3 s3 o3 => Out.ok s3 o3 σ (r.mono ((x1.trans x2).trans x3))⟩⟩⟩⟩
def cAsg (f : Env → M D) (gf : D → Env → M Env) : Env → M Fl := fun env S => (f env S).bind fun d S => (gf d env S).bind fun env S => .ok (.nx env) S
def cExpr (f : Env → M D) : Env → M Fl := fun env S => (f env S).bind fun _ S => .ok (.nx env) S
def cRet (f : Env → M D) : Env → M Fl := fun env S => (f env S).bind fun d S => .ok (.rt d) S
def cRetN : Env → M Fl := fun _ S => .ok (.rt .non) S
def cPass : Env → M Fl := fun env S => .ok (.nx env) S
def cBrk : Env → M Fl := fun env S => .ok (.bk env) S
def cCnt : Env → M Fl := fun env S => .ok (.ct env) S
def Fl.thn (k : Env → M Fl) : Fl → M Fl := fun fl S => match fl with
  | .nx e => k e S
  | o => .ok o S
def cSeq (f k : Env → M Fl) : Env → M Fl := fun env S => (f env S).bind (Fl.thn k)
def cIfS (c : Env → M Bool) (f k : Env → M Fl) : Env → M Fl := fun env S => (c env S).bind fun b S => if b = true then f env S else k env S
section
variable {st : Stmt} {ss ss' : List Stmt} {f1 f2 : Env → M Fl}
theorem asg_of {σ : L2.St} {H : Hp} {E : Ends} (q : tS g X (cAsg fa gf) E σ H) : tAsg (tE g X fa) (gE g X gf) E σ H := by
  obtain ⟨m, env, S, r, s, o⟩ := q
  exact ⟨m, env, S, r, s, (Out.bind o).imp fun d1 S1 m1 H1 x1 s1 o1 v1 h1 => ⟨m1, env, S1, d1, r.mono x1, s1, h1, (Out.bind o1).imp fun e2 S2 m2 H2 x2 s2 o2 σ2 r2 => Out.ok s2 o2 σ2 r2⟩⟩
theorem s_asg (he : EJ g X e fa) (hg : GJ g X tg gf) (hs : swapsWithSole [tg] e pos.line X.env = pure false := by kernel_rfl) (hw : swappedStores [tg] e X.env = pure none := by kernel_rfl) (h1 : (assignEach [tg] X.env).map (·.2) = [assign tg X.env] := by kernel_rfl) : SJ g X (.Assign [tg] e pos) (cAsg fa gf) :=
  ⟨PS.imp (ps_asg he.un hg.un hs hw h1) fun _ _ _ q => asg_of q⟩
theorem setn_of {i : Nat} {σ : L2.St} {H : Hp} {E : Ends} (q : tS g X (cAsg fa (sName i)) E σ H) : tAsg (tE g X fa) (gName i) E σ H := by
  obtain ⟨m, env, S, r, s, o⟩ := q
  exact ⟨m, env, S, r, s, (Out.bind o).imp fun d1 S1 m1 H1 x1 s1 o1 v1 h1 => Out.ok s1 o1 _ ((r.mono x1).set i h1)⟩
theorem s_l (i : Nat) (hN : X.N.Nodup) (he : EJ g X e fa) (hi : X.N[i]? = some x := by kernel_rfl) (hx : X.env.scope.names.lookup x = some .local := by kernel_rfl) (hs : swapsWith e (some (.Name x pos')) pos.line X.env = pure false := by kernel_rfl) : SJ g X (.Assign [.Name x pos'] e pos) (cAsg fa (sName i)) :=
  ⟨PS.imp (ps_setl i hN he.un hi hx hs) fun _ _ _ q => setn_of q⟩
def cPar (i j : Nat) (fs : Env → M (List D)) : Env → M Fl := fun env S => (fs env S).bind fun ds S => match ds with
  | [d, e] => .ok (.nx ((env.set i (some d)).set j (some e))) S
  | _ => .no
theorem s_expr (he : EJ g X e fa) (hs : swapsWith e none pos.line X.env = pure false := by kernel_rfl) : SJ g X (.Expr e pos) (cExpr fa) := ⟨PS.imp (ps_expr he.un hs) fun E σ H ⟨m, env, S, r, s, o⟩ =>
  ⟨m, env, S, r, s, (Out.bind o).imp fun d1 S1 m1 H1 x1 s1 o1 v1 h1 => Out.ok s1 o1 σ (r.mono x1)⟩⟩
theorem s_ret (he : EJ g X e fa) : SJ g X (.Return (some e) pos) (cRet fa) := ⟨PS.imp (ps_ret he.un) fun E σ H ⟨m, env, S, r, s, o⟩ =>
  ⟨m, env, S, r, s, (Out.bind o).imp fun d1 S1 m1 H1 x1 s1 o1 v1 h1 => Out.ok s1 o1 v1 h1⟩⟩
theorem s_pass : SJ g X (.Pass pos) cPass := ⟨PS.imp ps_pass fun E σ H ⟨m, env, S, r, s, o⟩ => Out.ok s o σ r⟩
theorem s_if (hc : TJ g X c ft) (h1 : BJ g X ss f1) (h2 : BJ g X ss' f2) : SJ g X (.If c ss ss' pos) (cIfS ft f1 f2) := ⟨PS.imp (ps_if hc.un h1.un h2.un) fun E σ H ⟨m, env, S, r, s, o⟩ =>
  ⟨m, env, S, r, s, (Out.bind o).imp fun b S1 m1 H1 x1 s1 o1 => by
    cases b with
    | true => rw [if_pos rfl] at o1 ⊢; exact ⟨m1, env, S1, r.mono x1, s1, o1⟩
    | false => rw [if_neg Bool.false_ne_true] at o1 ⊢; exact ⟨m1, env, S1, r.mono x1, s1, o1⟩⟩⟩
theorem b_nil : BJ g X [] cPass := ⟨PSs.imp pss_nil fun E σ H ⟨m, env, S, r, s, o⟩ => Out.ok s o σ r⟩
theorem b_one (h : SJ g X st f1) : BJ g X [st] f1 := ⟨pss_one h.un⟩
theorem b_cons (h : SJ g X st f1) (h2 : BJ g X ss f2) : BJ g X (st :: ss) (cSeq f1 f2) := ⟨PSs.imp (pss_cons h.un h2.un) fun E σ H ⟨m, env, S, r, s, o⟩ =>
  ⟨m, env, S, r, s, (Out.bind o).imp fun fl S1 m1 H1 x1 s1 o1 => by
    cases fl with
    | nx e => exact fun σ' r' => ⟨m1, e, S1, r', s1, o1⟩
    | rt d => exact Out.ok (X := X) s1 o1
    | bk e => exact Out.ok (X := X) s1 o1
    | ct e => exact Out.ok (X := X) s1 o1⟩⟩
def Fl.turn (k : Env → M Fl) : Fl → M Fl := fun fl S => match fl with
  | .nx e => k e S
  | .ct e => k e S
  | .bk e => .ok (.nx e) S
  | .rt d => .ok (.rt d) S
end
end
end Ab

namespace Ab
open PySem PySem.Spec PyProof.Rows L2
structure Wk where
  items : List D
  keep : List (Nat × O)
def Kept (ks : List (Nat × O)) (S : Sto) : Prop := ∀ p, p ∈ ks → S[p.1]? = some p.2
def ItOk (g : Gd) (m0 : List Addr) (H0 : Hp) (it : Wk) (J : It) : Prop := ∀ (i : Nat) (m : List Addr) (S : Sto) (H : Hp), Ext m0 H0 m H → Sim g m S H → Kept it.keep S →
  (∀ d, it.items[i]? = some d → J.go i H ∧ ∀ x H', J.yld i H x H' → Ext m H m H' ∧ Sim g m S H' ∧ RD g m H' d x) ∧ (it.items.length ≤ i → J.stop i H)
def iE (g : Gd) (X : Cx) (f : Env → M Wk) : TI := fun σ H R => ∃ m env S, Rel g m H σ env ∧ Sim g m S H ∧ Out g X m H (f env S) fun it S' m' H' => ∀ J, ItOk g m' H' it J → Kept it.keep S' → R J H'
structure IJ (g : Gd) (X : Cx) (tg e : Expr) (f : Env → M Wk) : Prop where of :: un : PI X tg e (iE g X f)
theorem PI.imp {X : Cx} {tg e : Expr} {t t' : TI} (h : PI X tg e t) (i : ∀ σ H R, t' σ H R → t σ H R) : PI X tg e t' := fun pins s σ H R I q => h pins s σ H R I (i _ _ _ q)
theorem PI.or {X : Cx} {tg e : Expr} {t u : TI} (h : PI X tg e t) (h' : PI X tg e u) : PI X tg e (fun σ H R => t σ H R ∨ u σ H R) := fun pins s σ H R I q => q.elim (h pins s σ H R I) (h' pins s σ H R I)
section
variable {g : Gd} {m : List Addr} {S : Sto} {H : Hp} {ds : List D} {vs : List V}
def signs (z : Str) : List D := z.cps.toList.map fun c => .str ⟨#[c]⟩
def intsD (lo : Int) (n : Nat) : List D := (List.range n).map fun (i : Nat) => .int (lo + i)
theorem it_rng {lo : Int} {n : Nat} : ItOk g m H ⟨intsD lo n, []⟩ (Itr lo n) := by
  intro i m' S' H' x s _
  have hl : (intsD lo n).length = n := by simp [intsD]
  refine ⟨fun d hd => ?_, fun hi => by rw [hl] at hi; exact hi⟩
  have hi : i < n := by rw [← hl]; exact (List.getElem?_eq_some_iff.mp hd).1
  refine ⟨hi, fun y H2 ⟨e, h2⟩ => ?_⟩
  subst e h2
  have : d = .int (lo + i) := by
    rw [intsD, List.getElem?_map, List.getElem?_range hi] at hd
    exact (Option.some.inj hd).symm
  subst this
  exact ⟨.refl _ _, s, .int _⟩
def enumD : Nat → List D → List D
  | _, [] => []
  | i, d :: ds => .tup [.int i, d] :: enumD (i + 1) ds
theorem enumD_get : ∀ {ds : List D} {j i : Nat} {d : D}, (enumD j ds)[i]? = some d → ∃ e, ds[i]? = some e ∧ d = .tup [.int ((j + i : Nat) : Int), e]
  | [], _, _, _, h => by simp [enumD] at h
  | e :: ds, j, 0, d, h => by simp [enumD] at h; exact ⟨e, rfl, by rw [← h]; simp⟩
  | e :: ds, j, i + 1, d, h => by
    rw [enumD, List.getElem?_cons_succ] at h
    obtain ⟨e', h1, h2⟩ := enumD_get h
    exact ⟨e', by simpa using h1, by rw [h2, show j + 1 + i = j + (i + 1) by omega]⟩
theorem enumD_length : ∀ (ds : List D) (j : Nat), (enumD j ds).length = ds.length
  | [], _ => rfl
  | _ :: ds, j => by rw [enumD, List.length_cons, List.length_cons, enumD_length ds]
theorem new2 {m : List Addr} {S : Sto} {H : Hp} {T : Addr} {a b : D} {x y : V} (s : Sim g m S H) (hT : H T = none) (h1 : RD g m H a x) (h2 : RD g m H b y) : Ext m H m (upd H T (.tup [x, y])) ∧ Sim g m S (upd H T (.tup [x, y])) ∧ RD g m (upd H T (.tup [x, y])) (.tup [a, b]) (.ref T) :=
  ⟨ext_upd_new hT, s.aside hT, .tup (tp_new s hT) ((RDs.cons h1 (.one h2)).mono (ext_upd_new hT))⟩
theorem it_enumL {K : PySem.W.Frag} {k : Nat} {a : Addr} (ha : m[k]? = some a) : ItOk g m H ⟨enumD 0 ds, [(k, .lst ds)]⟩ (Ite K a) := by
  intro i m' S' H' x s kp
  have hk := kp _ (List.mem_singleton.mpr rfl)
  obtain ⟨a', vs, e1, e2, r⟩ := s.list hk
  rw [x.get ha] at e1; cases e1
  refine ⟨fun d hd => ?_, fun hl => ⟨vs, SqL.of e2, by rw [← r.length]; rw [enumD_length] at hl; exact hl⟩⟩
  obtain ⟨e, he, rfl⟩ := enumD_get hd
  obtain ⟨v, h1, h2⟩ := r.get he
  refine ⟨⟨vs, v, SqL.of e2, h1⟩, fun y H2 ⟨T, z, e3, e4, e5, q⟩ => ?_⟩
  subst e3 e5
  have := q vs (SqL.of e2)
  rw [h1] at this
  cases this
  rw [Nat.zero_add]
  exact new2 s e4 (.int _) h2
def zipD : List D → List D → List D
  | a :: as, b :: bs => .tup [a, b] :: zipD as bs
  | _, _ => []
end
section
variable {g : Gd} {X : Cx} {a b c e o tg : Expr} {es : List Expr} {f fa fb fc : Env → M D} {ft fu : Env → M Bool} {fs : Env → M (List D)} {pos apos cpos p p2 pos' : Pos} {x : Str} {k : Nat} {gf : D → Env → M Env} {gfs : List D → Env → M Env} {fi : Env → M Wk} {f1 f2 : Env → M Fl}
def itD : D → M Wk := fun d S => match d with
  | .tup ds => .ok ⟨ds, []⟩ S
  | .lro ds => .ok ⟨ds, []⟩ S
  | .str z => .ok ⟨signs z, []⟩ S
  | .ref k => match S[k]? with
    | some (.lst ds) => .ok ⟨ds, [(k, .lst ds)]⟩ S
    | _ => .no
  | _ => .no
def cIt (f : Env → M D) : Env → M Wk := fun env S => (f env S).bind itD
def in62 (i : Int) : Bool := decide (-(2 ^ 62) ≤ i) && decide (i < 2 ^ 62)
def rng1 : List D → M Wk := fun ds S => match ds with
  | [.int j] => if in62 j = true then .ok ⟨intsD 0 j.toNat, []⟩ S else .no
  | _ => .no
def rng2 : List D → M Wk := fun ds S => match ds with
  | [.int i, .int j] => if in62 i = true ∧ in62 j = true then .ok ⟨intsD i (j - i).toNat, []⟩ S else .no
  | _ => .no
def cItA (k : List D → M Wk) (fs : Env → M (List D)) : Env → M Wk := fun env S => (fs env S).bind k
theorem in62_of {i : Int} (h : in62 i = true) : -(2 ^ 62) ≤ i ∧ i < 2 ^ 62 := by simpa [in62] using h
theorem nokeep {S : Sto} : Kept [] S := fun p hp => by cases hp
theorem i_rng1 (hm : X.mg "range" = none) (ha : AJ g X [a] fs) (hg : X.env.kindOf "range" = some .globalImplicit := by kernel_rfl) (hs : starEach [a] X.env = [(false, eval a X.env)] := by kernel_rfl) : IJ g X tg (.Call (.Name "range" p) [a] [] pos) (cItA rng1 fs) := ⟨PI.imp (pi_range1 hg hm ha.un hs) fun σ H R ⟨m, env, S, r, s, o⟩ =>
  ⟨m, env, S, r, s, (Out.bind o).imp fun ds S1 m1 H1 x1 s1 o1 vs hv => by
    unfold rng1 at o1
    split at o1
    · split at o1
      · rename_i hj
        cases hv with
        | cons h1 h2 =>
          cases h2
          rw [h1.int_inv]
          exact ⟨_, rfl, (in62_of hj).1, (in62_of hj).2, Out.ok s1 o1 _ it_rng nokeep⟩
      · exact o1.elim
    · exact o1.elim⟩⟩
theorem i_rng2 (hm : X.mg "range" = none) (ha : AJ g X [a, b] fs) (hg : X.env.kindOf "range" = some .globalImplicit := by kernel_rfl) (hs : starEach [a, b] X.env = [(false, eval a X.env), (false, eval b X.env)] := by kernel_rfl) (hs2 : starEach [b] X.env = [(false, eval b X.env)] := by kernel_rfl) : IJ g X tg (.Call (.Name "range" p) [a, b] [] pos) (cItA rng2 fs) := ⟨PI.imp (pi_range2 hg hm ha.un hs hs2) fun σ H R ⟨m, env, S, r, s, o⟩ =>
  ⟨m, env, S, r, s, (Out.bind o).imp fun ds S1 m1 H1 x1 s1 o1 vs hv => by
    unfold rng2 at o1
    split at o1
    · split at o1
      · rename_i hj
        cases hv with
        | cons h1 h2 =>
          cases h2 with
          | cons h3 h4 =>
            cases h4
            rw [h1.int_inv, h3.int_inv]
            exact ⟨_, _, rfl, ⟨(in62_of hj.1).1, (in62_of hj.1).2, (in62_of hj.2).1, (in62_of hj.2).2⟩, Out.ok s1 o1 _ it_rng nokeep⟩
      · exact o1.elim
    · exact o1.elim⟩⟩
def enu1 : List D → M Wk := fun ds S => match ds with
  | [.ref k] => match S[k]? with
    | some (.lst xs) => .ok ⟨enumD 0 xs, [(k, .lst xs)]⟩ S
    | _ => .no
  | _ => .no
theorem i_enum {elts : List Expr} {kk : Nat} {tpos : Pos} (hm : X.mg "enumerate" = none) (ha : AJ g X [a] fs) (hg : X.env.kindOf "enumerate" = some .globalImplicit := by kernel_rfl) (hs : starEach [a] X.env = [(false, eval a X.env)] := by kernel_rfl) : IJ g X (.Tuple elts kk tpos) (.Call (.Name "enumerate" p) [a] [] pos) (cItA enu1 fs) := ⟨PI.imp (pi_enum hg hm ha.un hs) fun σ H R ⟨m, env, S, r, s, o⟩ =>
  ⟨m, env, S, r, s, (Out.bind o).imp fun ds S1 m1 H1 x1 s1 o1 vs hv => by
    unfold enu1 at o1
    split at o1
    · split at o1
      · rename_i xs hk
        cases hv with
        | cons h1 h2 =>
          cases h2
          obtain ⟨a, rfl, ha⟩ := h1.ref_inv
          obtain ⟨a', vs, e1, e2, r1⟩ := s1.list hk
          rw [ha] at e1; cases e1
          exact ⟨a, vs, rfl, SqL.of e2, Out.ok s1 o1 _ (it_enumL ha) fun p hp => by rw [List.mem_singleton.mp hp]; exact hk⟩
      · exact o1.elim
    · exact o1.elim⟩⟩
def zip2 : List D → M Wk := fun ds S => match ds with
  | [.ref k, .ref l] => match S[k]?, S[l]? with
    | some (.lst xs), some (.lst ys) => .ok ⟨zipD xs ys, [(k, .lst xs), (l, .lst ys)]⟩ S
    | _, _ => .no
  | [.tup xs, .tup ys] => .ok ⟨zipD xs ys, []⟩ S
  | _ => .no
open Classical in
noncomputable def cForL (ks : List (Nat × O)) (gf : D → Env → M Env) (b : Env → M Fl) : List D → Env → M Fl
  | [] => fun env S => if Kept ks S then .ok (.nx env) S else .no
  | x :: xs => fun env S => if Kept ks S then (gf x env S).bind fun env S => (b env S).bind (Fl.turn (cForL ks gf b xs)) else .no
noncomputable def cFor (fi : Env → M Wk) (gf : D → Env → M Env) (b : Env → M Fl) : Env → M Fl := fun env S => (fi env S).bind fun it S => cForL it.keep gf b it.items env S
theorem cForL_nil {ks : List (Nat × O)} {gf : D → Env → M Env} {b : Env → M Fl} {env : Env} {S : Sto} (h : Kept ks S) : cForL ks gf b [] env S = .ok (.nx env) S := by
  unfold cForL; rw [if_pos h]
theorem cForL_cons {ks : List (Nat × O)} {gf : D → Env → M Env} {b : Env → M Fl} {x : D} {xs : List D} {env : Env} {S : Sto} (h : Kept ks S) : cForL ks gf b (x :: xs) env S = (gf x env S).bind fun env S => (b env S).bind (Fl.turn (cForL ks gf b xs)) := by
  rw [cForL]; exact if_pos h
theorem s_for {body : List Stmt} (hp : PassesOwn (model X.prog X.w) X.A X.env X.xe) (hi : IJ g X tg e fi) (hg : GJ g X tg gf) (hb : BJ g X body f1) (hc : X.calm = true := by rfl) (hs : ∀ x, foldedSetIterable e X.env x = pure x := by intro _; rfl) : SJ g X (.For tg e body [] pos) (cFor fi gf f1) := ⟨PS.imp (ps_for hp hc hi.un hg.un hb.un hs) fun E σ H ⟨m, env, S, r, s, o⟩ => by
  refine ⟨m, env, S, r, s, (Out.bind o).imp fun it S1 m1 H1 x1 s1 o1 J hJ hk => ?_⟩
  refine ⟨fun i n σ H => n + i = it.items.length ∧ ∃ m env S, Ext m1 H1 m H ∧ Rel g m H σ env ∧ Sim g m S H ∧ Out g X m H (cForL it.keep gf f1 (it.items.drop i) env S) (FQ g E), ⟨it.items.length, by omega, m1, env, S1, .refl _ _, r.mono x1, s1, by simpa using o1⟩, ?_⟩
  rintro i n σ H ⟨hn, m, env, S, x2, r2, s2, o2⟩
  by_cases hi : i < it.items.length
  · rw [List.drop_eq_getElem_cons hi] at o2
    by_cases hkp : Kept it.keep S
    · rw [cForL_cons hkp] at o2
      obtain ⟨hgo, _⟩ := hJ i m S H x2 s2 hkp
      obtain ⟨go, yl⟩ := hgo _ (List.getElem?_eq_getElem hi)
      refine .inr ⟨go, fun σ' H' => (n - 1) + (i + 1) = it.items.length ∧ ∃ m env S, Ext m1 H1 m H' ∧ Rel g m H' σ' env ∧ Sim g m S H' ∧ Out g X m H' (cForL it.keep gf f1 (it.items.drop (i + 1)) env S) (FQ g E), fun σ' H' q => ⟨n - 1, by omega, q⟩, fun x H' y => ?_⟩
      obtain ⟨x3, s3, hd⟩ := yl x H' y
      refine ⟨m, env, S, _, r2.mono x3, s3, hd, ((Out.bind o2).mono x3).imp fun e4 S4 m4 H4 x4 s4 o4 σ4 r4 => ?_⟩
      refine ⟨m4, e4, S4, r4, s4, (Out.bind o4).imp fun fl S5 m5 H5 x5 s5 o5 => ?_⟩
      have x6 : Ext m1 H1 m5 H5 := ((x2.trans x3).trans x4).trans x5
      cases fl with
      | nx e => exact fun σ' r' => ⟨by omega, m5, e, S5, x6, r', s5, o5⟩
      | ct e => exact fun σ' r' => ⟨by omega, m5, e, S5, x6, r', s5, o5⟩
      | bk e => exact fun σ' r' => Out.ok s5 o5 σ' r'
      | rt d => exact Out.ok (X := X) s5 o5
    · unfold cForL at o2
      rw [if_neg hkp] at o2
      exact o2.elim
  · rw [List.drop_eq_nil_of_le (by omega)] at o2
    by_cases hkp : Kept it.keep S
    · rw [cForL_nil hkp] at o2
      obtain ⟨_, hst⟩ := hJ i m S H x2 s2 hkp
      exact .inl ⟨hst (by omega), Out.ok s2 o2 σ r2⟩
    · unfold cForL at o2
      rw [if_neg hkp] at o2
      exact o2.elim⟩
end
end Ab

namespace Ab
open PySem PySem.Spec PyProof.Rows L2
theorem Out.cx {α : Type} {g : Gd} {X Y : Cx} {m : List Addr} {H : Hp} {r : R α} {P : α → Sto → List Addr → Hp → Prop} (h : Out g X m H r P) : Out g Y m H r P := by
  cases r with
  | ok a S => exact h
  | ex x S => exact False.elim h
  | no => exact h
theorem wipe_set {σ : L2.St} {i : Nat} {v : Option V} : ∀ {vs : List Nat}, i ∈ vs → wipe (σ.set i v) vs = wipe σ vs
  | j :: vs, h => by
    show (wipe (σ.set i v) vs).set j none = (wipe σ vs).set j none
    by_cases e : i ∈ vs
    · rw [wipe_set e]
    · have hj : i = j := by
        rcases List.mem_cons.mp h with h | h
        · exact h
        · exact absurd h e
      subst hj
      have : ∀ (vs : List Nat), i ∉ vs → wipe (σ.set i v) vs = (wipe σ vs).set i v := by
        intro vs
        induction vs with
        | nil => intro _; rfl
        | cons k vs ih =>
          intro hk
          show (wipe (σ.set i v) vs).set k none = ((wipe σ vs).set k none).set i v
          rw [ih (fun z => hk (List.mem_cons_of_mem _ z)), List.set_comm _ _ (fun z => hk (by rw [z]; exact List.mem_cons_self))]
      rw [this vs e, List.set_set]
def gC (g : Gd) (X : Cx) (f : D → Env → M Env) (vs : List Nat) : TG := fun v σ H Q => ∃ m env S d, Rel g m H σ env ∧ Sim g m S H ∧ RD g m H d v ∧ Out g X m H (f d env S) fun e _ m' H' => ∀ σ', Rel g m' H' σ' e → wipe σ' vs = wipe σ vs → Q σ' H'
structure CJ (g : Gd) (X : Cx) (e : Expr) (f : D → Env → M Env) (vs : List Nat) : Prop where of :: un : PG X e (gC g X f vs)
structure FJ (g : Gd) (X : Cx) (e : List Expr) (f : Env → M Bool) : Prop where of :: un : PTs X e (tT g X f)
section
variable {g : Gd} {X : Cx} {a b c e o tg : Expr} {es : List Expr} {f fa fb fc fe : Env → M D} {ft fu : Env → M Bool} {fs : Env → M (List D)} {pos apos cpos p p2 pos' : Pos} {x : Str} {k : Nat} {gf : D → Env → M Env} {gfs : List D → Env → M Env} {fi : Env → M Wk} {f1 f2 : Env → M Fl} {vs : List Nat}
theorem c_l (i : Nat) (hN : X.N.Nodup) (hv : i ∈ vs := by decide) (hi : X.N[i]? = some x := by kernel_rfl) (hx : X.env.scope.names.lookup x = some .local := by kernel_rfl) : CJ g X (.Name x pos) (sName i) vs := ⟨PG.imp (pg_l i hN hi hx) fun v σ H Q ⟨m, env, S, d, r, s, hd, o⟩ => Out.ok s o _ (r.set i hd) (wipe_set hv)⟩
def cYes : Env → M Bool := fun _ S => .ok true S
theorem f_nil : FJ g X [] cYes := ⟨fun pins s σ H Q I ⟨m, env, S, r, sm, o⟩ => pts_nil pins s σ H Q I (Out.ok sm o)⟩
def appAt (L : Nat) (y : D) : M Unit := fun S => match S[L]? with
  | some (.lst acc) => if acc.length < sizeLine then .ok () (S.set L (.lst (acc ++ [y]))) else .no
  | _ => .no
open Classical in
noncomputable def lcL (ks : List (Nat × O)) (gf : D → Env → M Env) (ft : Env → M Bool) (fe : Env → M D) (env : Env) (L : Nat) : List D → M Unit
  | [] => fun S => if Kept ks S then .ok () S else .no
  | x :: xs => fun S => if Kept ks S then (gf x env S).bind fun e S => (ft e S).bind fun b S => if b = true then (fe e S).bind fun y S => (appAt L y S).bind fun _ S => lcL ks gf ft fe env L xs S else lcL ks gf ft fe env L xs S else .no
noncomputable def cLc (fi : Env → M Wk) (gf : D → Env → M Env) (ft : Env → M Bool) (fe : Env → M D) (vs : List Nat) : Env → M D := fun env S => (fi env S).bind fun it S => (lcL it.keep gf ft fe (wipeD env vs) S.length it.items (S ++ [.lst []])).bind fun _ S' => .ok (.ref S.length) S'
theorem lcL_nil {ks : List (Nat × O)} {gf : D → Env → M Env} {ft : Env → M Bool} {fe : Env → M D} {env : Env} {L : Nat} {S : Sto} (h : Kept ks S) : lcL ks gf ft fe env L [] S = .ok () S := by
  unfold lcL; rw [if_pos h]
theorem lcL_cons {ks : List (Nat × O)} {gf : D → Env → M Env} {ft : Env → M Bool} {fe : Env → M D} {env : Env} {L : Nat} {x : D} {xs : List D} {S : Sto} (h : Kept ks S) : lcL ks gf ft fe env L (x :: xs) S = (gf x env S).bind fun e S => (ft e S).bind fun b S => if b = true then (fe e S).bind fun y S => (appAt L y S).bind fun _ S => lcL ks gf ft fe env L xs S else lcL ks gf ft fe env L xs S := by
  rw [lcL]; exact if_pos h
theorem lcL_no {ks : List (Nat × O)} {gf : D → Env → M Env} {ft : Env → M Bool} {fe : Env → M D} {env : Env} {L : Nat} {xs : List D} {S : Sto} (h : ¬ Kept ks S) : lcL ks gf ft fe env L xs S = .no := by
  cases xs with
  | nil => unfold lcL; rw [if_neg h]
  | cons x xs => rw [lcL]; exact if_neg h
theorem lc_of {Y : Cx} {σ : L2.St} {H : Hp} {Q : VK} (h : tE g X (cLc fi gf ft fe vs) σ H Q) : tLc (iE g X fi) (gC g Y gf vs) (tT g Y ft) (tE g Y fe) vs σ H Q := by
  obtain ⟨m, env, S, r, s, o⟩ := h
  refine ⟨m, env, S, r, s, (Out.bind o).imp fun it S1 m1 H1 x1 s1 o1 J hJ hk D hD => ?_⟩
  have hL : m1.length = S1.length := s1.len
  have x2 : Ext m1 H1 (m1 ++ [D]) (upd H1 D (.lst [])) := ext_snoc s1 hD
  have s2 : Sim g (m1 ++ [D]) (S1 ++ [.lst []]) (upd H1 D (.lst [])) := s1.newList hD .nil
  have dAt : (m1 ++ [D])[S1.length]? = some D := by rw [← hL, List.getElem?_append_right (Nat.le_refl _), Nat.sub_self]; rfl
  refine ⟨fun i n H => n + i = it.items.length ∧ ∃ m S, Ext (m1 ++ [D]) (upd H1 D (.lst [])) m H ∧ Sim g m S H ∧ Out g X m H (lcL it.keep gf ft fe (wipeD env vs) S1.length (it.items.drop i) S) (fun _ S' m' H' => VQ g Q (.ref S1.length) S' m' H'),
    ⟨it.items.length, by omega, m1 ++ [D], S1 ++ [.lst []], .refl _ _, s2, ?_⟩, ?_⟩
  · have o2 := Out.bind o1
    rw [List.drop_zero]
    exact (o2.mono x2).imp fun _ S3 m3 H3 x3 s3 o3 => Out.ok s3 o3
  · rintro i n H ⟨hn, m, S, x3, s3, o3⟩
    by_cases hkp : Kept it.keep S
    · by_cases hi : i < it.items.length
      · rw [List.drop_eq_getElem_cons hi, lcL_cons hkp] at o3
        obtain ⟨hgo, _⟩ := hJ i m S H (x2.trans x3) s3 hkp
        obtain ⟨go, yl⟩ := hgo _ (List.getElem?_eq_getElem hi)
        refine .inr ⟨go, fun H' => (n - 1) + (i + 1) = it.items.length ∧ ∃ m S, Ext (m1 ++ [D]) (upd H1 D (.lst [])) m H' ∧ Sim g m S H' ∧ Out g X m H' (lcL it.keep gf ft fe (wipeD env vs) S1.length (it.items.drop (i + 1)) S) (fun _ S' m' H' => VQ g Q (.ref S1.length) S' m' H'), fun H' q => ⟨n - 1, by omega, q⟩, fun x H' y => ?_⟩
        obtain ⟨x4, s4, hd⟩ := yl x H' y
        have rr : Rel g m H' (wipe σ vs) (wipeD env vs) := ((r.mono (((x1.trans x2).trans x3).trans x4))).wipe vs
        refine ⟨m, wipeD env vs, S, _, rr, s4, hd, Out.cx (X := X) (((Out.bind o3).mono x4).imp fun e5 S5 m5 H5 x5 s5 o5 σ5 r5 w5 => ⟨?_, m5, e5, S5, r5, s5, Out.cx (X := X) ((Out.bind o5).imp fun b S6 m6 H6 x6 s6 o6 => ?_)⟩)⟩
        · rw [w5]
          have : ∀ (ws : List Nat), (∀ w ∈ ws, w ∈ vs) → wipe (wipe σ ws) vs = wipe σ vs := by
            intro ws
            induction ws with
            | nil => intro _; rfl
            | cons w ws ih =>
              intro hw
              show wipe ((wipe σ ws).set w none) vs = wipe σ vs
              rw [wipe_set (hw w List.mem_cons_self), ih fun u hu => hw u (List.mem_cons_of_mem _ hu)]
          exact this vs fun _ h => h
        · cases b with
          | false =>
            rw [if_neg Bool.false_ne_true] at o6 ⊢
            exact ⟨by omega, m6, S6, ((x3.trans x4).trans x5).trans x6, s6, o6⟩
          | true =>
            rw [if_pos rfl] at o6 ⊢
            refine ⟨m6, e5, S6, r5.mono x6, s6, Out.cx (X := X) ((Out.bind o6).imp fun y S7 m7 H7 x7 s7 o7 v hv => ?_)⟩
            have o8 := Out.bind o7
            unfold appAt at o8
            split at o8
            · rename_i acc hacc
              split at o8
              · rename_i hlt
                obtain ⟨a', us, e1, e2, r1⟩ := s7.list hacc
                have x8 := (((x3.trans x4).trans x5).trans x6).trans x7
                have hD7 : m7[S1.length]? = some D := x8.get dAt
                rw [hD7] at e1; cases e1
                have x9 : Ext m7 H7 m7 (upd H7 D (.lst (us ++ [v]))) := ext_put (List.mem_of_getElem? hD7) (nfL e2)
                refine ⟨us, e2, by rw [← r1.length]; exact hlt, by omega, m7, _, x8.trans x9, s7.putList hD7 (nfL e2) (r1.append (.one hv)), ?_⟩
                exact (o8.mono x9).ok (s7.putList hD7 (nfL e2) (r1.append (.one hv)))
              · exact o8.elim
            · exact o8.elim
      · rw [List.drop_eq_nil_of_le (by omega), lcL_nil hkp] at o3
        obtain ⟨_, hst⟩ := hJ i m S H (x2.trans x3) s3 hkp
        exact .inl ⟨hst (by omega), Out.ok s3 o3 _ (.ref (x3.get dAt))⟩
    · rw [lcL_no hkp] at o3
      exact o3.elim
end
end Ab

namespace Ab
open PySem PySem.Spec PyProof.Rows L2
section
variable {g : Gd} {X : Cx} {a b c e o tg elt iter st : Expr} {es ifs : List Expr} {f fa fb fc fe fo : Env → M D} {ft fu : Env → M Bool} {fs : Env → M (List D)} {pos apos cpos p p2 pos' : Pos} {x : Str} {k : Nat} {gf : D → Env → M Env} {gfs : List D → Env → M Env} {fi : Env → M Wk} {f1 f2 : Env → M Fl} {vs : List Nat}
theorem e_lc {scope : Scope} (own : List (Str × Nat)) (hN : X.N.Nodup) (hi : IJ g X tg iter fi)
    (hg : ∀ (s : Shared) (H : Hp) (C : Addr) (cl : List (Str × Addr)) (fp : List Addr), CJ g (X.blk s H scope (compEnvC scope cl C X.env) fp) tg gf (own.map (·.2))) (ht : ∀ (s : Shared) (H : Hp) (C : Addr) (cl : List (Str × Addr)) (fp : List Addr), FJ g (X.blk s H scope (compEnvC scope cl C X.env) fp) ifs ft)
    (he : ∀ (s : Shared) (H : Hp) (C : Addr) (cl : List (Str × Addr)) (fp : List Addr), EJ g (X.blk s H scope (compEnvC scope cl C X.env) fp) elt fe) (hc : X.calm = true := by rfl) (ok : blkC X.N X.env.scope scope own = true := by kernel_rfl) (hs : ∀ x, foldedSetIterable iter X.env x = pure x := by intro _; rfl) :
    EJ g X (.ListComp elt [⟨tg, iter, ifs, 0⟩] scope pos) (cLc fi gf ft fe (own.map (·.2))) := ⟨PE.imp (pe_lc (g := gC g X gf (own.map (·.2))) (tt := tT g X ft) (te := tE g X fe) hc hN hi.un (blkOk_by ok)
      (fun s H C cl fp => PG.imp (hg s H C cl fp).un fun v σ H Q ⟨m, env, S, d, r, s, hd, o⟩ => ⟨m, env, S, d, r, s, hd, o.cx⟩)
      (fun s0 H C cl fp => fun pins s2 σ H2 Q I ⟨m, env, S, r, s, o⟩ => (ht s0 H C cl fp).un pins s2 σ H2 Q I ⟨m, env, S, r, s, o.cx⟩)
      (fun s H C cl fp => PE.imp (he s H C cl fp).un fun σ H Q ⟨m, env, S, r, s, o⟩ => ⟨m, env, S, r, s, o.cx⟩) hs) fun _ _ _ q => lc_of q⟩
def truD : D → M Bool := fun d S => match d with
  | .non => .ok false S
  | .bl b => .ok b S
  | .int i => .ok (i != 0) S
  | .str z => if z.length ≤ sizeLine then .ok ((z.length : Int) != 0) S else .no
  | .tup xs => .ok (!xs.isEmpty) S
  | .lro xs => .ok (!xs.isEmpty) S
  | .ref k => match S[k]? with
    | some (.lst xs) => .ok (!xs.isEmpty) S
    | some (.dct kvs) => .ok (!kvs.isEmpty) S
    | _ => .no
  | _ => .no
def cTru (f : Env → M D) : Env → M Bool := fun env S => (f env S).bind truD
def cutD (xs : List D) (lo hi : Option Int) : List D := (xs.drop (HT.sIx xs.length 0 lo)).take (HT.sIx xs.length xs.length hi - HT.sIx xs.length 0 lo)
theorem RDs.cut {m : List Addr} {H : Hp} {ds : List D} {vs : List V} (r : RDs g m H ds vs) (lo hi : Option Int) : RDs g m H (cutD ds lo hi) (cutV vs lo hi) := by
  unfold cutD cutV
  rw [r.length]
  exact (r.drop _).take _
def slD (d : D) (lo hi : Option Int) : M D := fun S => match d with
  | .str z => if z.length ≤ sizeLine then .ok (.str (cutS z lo hi)) S else .no
  | .tup xs => .ok (.tup (cutD xs lo hi)) S
  | .lro xs => .ok (.ref S.length) (S ++ [.lst (cutD xs lo hi)])
  | .ref k => match S[k]? with
    | some (.lst xs) => .ok (.ref S.length) (S ++ [.lst (cutD xs lo hi)])
    | _ => .no
  | _ => .no
def rSl (g : Gd) (X : Cx) : V → Option Int → Option Int → Hp → VK → Prop := fun x lo hi H Q => ∃ m S d, Sim g m S H ∧ RD g m H d x ∧ Out g X m H (slD d lo hi S) (VQ g Q)
theorem cut_whole {xs : List D} {lo hi : Option Int} (h : HT.sIx xs.length 0 lo = 0 ∧ HT.sIx xs.length xs.length hi = xs.length) : cutD xs lo hi = xs := by
  unfold cutD
  rw [h.1, h.2]
  simp
theorem sl_any (hK : g.K = X.K := by rfl) : SlR X (rSl g X) := by
  intro pins s σ H x v vl vu lo hi sl Q I rx hs pl pu ⟨m, S, d, sm, hx, o⟩
  unfold slD at o
  split at o
  · split at o
    · rename_i hl
      rw [hx.str_inv] at rx
      exact sl_str pins s σ H _ v vl vu lo hi sl Q I rx hs pl pu ⟨_, rfl, hl, Out.ok sm o _ (.str _)⟩
    · exact o.elim
  · obtain ⟨a, vs, rfl, t, q⟩ := hx.tup_inv
    have hl := q.length
    by_cases hw : HT.sIx vs.length 0 lo = 0 ∧ HT.sIx vs.length vs.length hi = vs.length
    · cases rx
      obtain ⟨its, r, ht, hz⟩ := I.tuple (hK ▸ t.sq)
      have hlen : its.toArray.size = vs.length := by rw [List.size_toArray]; exact r.length.symm
      refine ⟨"tuple", _, PyProof.Rows.slot_tuple_getitem.lookup, ht.typeIs, tupWhole ht hs pl pu (by rw [hlen]; exact hw) ⟨.ref a, H, I, rfl, ?_⟩⟩
      rw [cut_whole (by rw [hl]; exact hw)] at o
      exact Out.ok sm o _ (.tup t q)
    · exact sl_tup pins s σ H (.ref a) v vl vu lo hi sl Q I rx hs pl pu ⟨a, vs, rfl, hK ▸ t.sq, hw, fun p hp => newT sm (q.cut lo hi) o hp⟩
  · cases hx with
    | lro t q => exact sl_list pins s σ H _ v vl vu lo hi sl Q I rx hs pl pu ⟨_, _, rfl, hK ▸ t.sq, fun p hp => newL sm (q.cut lo hi) o hp⟩
  · split at o
    · rename_i xs hk
      obtain ⟨a, rfl, ha⟩ := hx.ref_inv
      obtain ⟨a', vs, e1, e2, r1⟩ := sm.list hk
      rw [ha] at e1; cases e1
      exact sl_list pins s σ H _ v vl vu lo hi sl Q I rx hs pl pu ⟨_, _, rfl, SqL.of e2, fun p hp => newL sm (r1.cut lo hi) o hp⟩
    · exact o.elim
  · exact o.elim
def tO (g : Gd) (X : Cx) (f : Env → M (Option Int)) : TO := fun σ H Q => ∃ m env S, Rel g m H σ env ∧ Sim g m S H ∧ Out g X m H (f env S) fun o _ _ H' => Q o H'
structure OJ (g : Gd) (X : Cx) (e : Option Expr) (f : Env → M (Option Int)) : Prop where of :: un : PO X e (tO g X f)
theorem PO.imp {e : Option Expr} {t t' : TO} (h : PO X e t) (i : ∀ σ H Q, t' σ H Q → t σ H Q) : PO X e t' := fun pins s σ H Q I q => h pins s σ H Q I (i _ _ _ q)
def cNoP : Env → M (Option Int) := fun _ S => .ok none S
def isI : D → M (Option Int) := fun d S => match d with
  | .int i => .ok (some i) S
  | _ => .no
def cP (f : Env → M D) : Env → M (Option Int) := fun env S => (f env S).bind isI
theorem o_none : OJ g X none cNoP := ⟨PO.imp po_none fun σ H Q ⟨m, env, S, r, s, o⟩ => Out.ok s o⟩
theorem o_some (h : EJ g X e fa) : OJ g X (some e) (cP fa) := ⟨PO.imp (po_some h.un) fun σ H Q ⟨m, env, S, r, s, o⟩ => ⟨m, env, S, r, s, (Out.bind o).imp fun d S1 m1 H1 x1 s1 o1 v hv => by
  unfold isI at o1
  split at o1
  · exact ⟨_, hv.int_inv, Out.ok s1 o1⟩
  · exact o1.elim⟩⟩
def cSl (f : Env → M D) (fl fh : Env → M (Option Int)) : Env → M D := fun env S => (f env S).bind fun d S => (fl env S).bind fun l S => (fh env S).bind fun h S => slD d l h S
theorem e_sl {lo hi : Option Expr} {fl fh : Env → M (Option Int)} (h : EJ g X e fa) (hl : OJ g X lo fl) (hh : OJ g X hi fh) (hK : g.K = X.K := by rfl) : EJ g X (.Subscript e (.Slice lo hi none p2) pos) (cSl fa fl fh) := ⟨PE.imp (pe_slice (sl_any (g := g) hK) h.un hl.un hh.un) fun σ H Q ⟨m, env, S, r, s, o⟩ =>
  ⟨m, env, S, r, s, (Out.bind o).imp fun d S1 m1 H1 x1 s1 o1 v hv => ⟨m1, env, S1, r.mono x1, s1, (Out.bind o1).imp fun l S2 m2 H2 x2 s2 o2 => ⟨m2, env, S2, r.mono (x1.trans x2), s2, (Out.bind o2).imp fun h S3 m3 H3 x3 s3 o3 => ⟨m3, S3, d, s3, hv.mono (x2.trans x3), o3⟩⟩⟩⟩⟩
end
end Ab

namespace Ab
open PySem PySem.Spec PyProof.Rows L2
section
variable {g : Gd} {X : Cx} {a b c e o tg elt iter st : Expr} {es ifs : List Expr} {f fa fb fc fe fo : Env → M D} {ft fu : Env → M Bool} {fs : Env → M (List D)} {pos apos cpos p p2 pos' : Pos} {x : Str} {k : Nat} {gf : D → Env → M Env} {gfs : List D → Env → M Env} {fi : Env → M Wk} {f1 f2 : Env → M Fl} {vs : List Nat}
def lenD : List D → M D := fun ds S => match ds with
  | [.str z] => if z.length ≤ sizeLine then .ok (.int z.length) S else .no
  | [.tup xs] => .ok (.int xs.length) S
  | [.lro xs] => .ok (.int xs.length) S
  | [.ref k] => match S[k]? with
    | some (.lst xs) => .ok (.int xs.length) S
    | _ => .no
  | _ => .no
theorem b_len (hK : g.K = X.K := by rfl) : CallR X (.builtin "len") (rCb g X lenD) := by
  intro pins s σ H xs us Q I rx ⟨m, S, ds, sm, hx, o⟩
  unfold lenD at o
  split at o
  · split at o
    · rename_i hl
      cases hx with
      | cons h1 h2 =>
        cases h2
        rw [h1.str_inv] at rx
        exact call_len pins s σ H _ us Q I rx ⟨_, _, rfl, ⟨hl, rfl⟩, Out.ok sm o _ (.int _)⟩
    · exact o.elim
  · cases hx with
    | cons h1 h2 =>
      cases h2
      obtain ⟨a, vs, rfl, t, q⟩ := h1.tup_inv
      exact call_len pins s σ H _ us Q I rx ⟨_, _, rfl, .inr ⟨vs, hK ▸ t.sq, rfl⟩, Out.ok sm o _ (by rw [q.length]; exact .int _)⟩
  · cases hx with
    | cons h1 h2 =>
      cases h2
      cases h1 with
      | lro t q => exact call_len pins s σ H _ us Q I rx ⟨_, _, rfl, .inl ⟨_, hK ▸ t.sq, rfl⟩, Out.ok sm o _ (by rw [q.length]; exact .int _)⟩
  · split at o
    · rename_i xs hk
      cases hx with
      | cons h1 h2 =>
        cases h2
        obtain ⟨a, rfl, ha⟩ := h1.ref_inv
        obtain ⟨a', vs, e1, e2, r1⟩ := sm.list hk
        rw [ha] at e1; cases e1
        exact call_len pins s σ H _ us Q I rx ⟨_, _, rfl, .inl ⟨_, SqL.of e2, rfl⟩, Out.ok sm o _ (by rw [r1.length]; exact .int _)⟩
    · exact o.elim
  · exact o.elim
def intB : List D → M D := fun ds S => match ds with
  | [.int i] => .ok (.int i) S
  | [.bl b] => .ok (.int (if b then 1 else 0)) S
  | _ => .no
theorem b_int : CallR X (.type "int") (rCb g X intB) := by
  intro pins s σ H xs us Q I rx ⟨m, S, ds, sm, hx, o⟩
  unfold intB at o
  split at o
  · cases hx with
    | cons h1 h2 =>
      cases h2
      rw [h1.int_inv] at rx
      exact call_int1 pins s σ H _ us Q I rx (.inl ⟨_, rfl, Out.ok sm o _ (.int _)⟩)
  · cases hx with
    | cons h1 h2 =>
      cases h2
      rw [h1.bl_inv] at rx
      exact call_int1 pins s σ H _ us Q I rx (.inr ⟨_, rfl, Out.ok sm o _ (.int _)⟩)
  · exact o.elim
def max2 : List D → M D := fun ds S => match ds with
  | [.int i, .int j] => .ok (.int (if j > i then j else i)) S
  | _ => .no
def min2 : List D → M D := fun ds S => match ds with
  | [.int i, .int j] => .ok (.int (if j < i then j else i)) S
  | _ => .no
def asInts : List D → Option (List Int)
  | [] => some []
  | .int i :: r => (asInts r).map (i :: ·)
  | _ => none
def asStrs : List D → Option (List Str)
  | [] => some []
  | .str i :: r => (asStrs r).map (i :: ·)
  | _ => none
def lstOf (S : Sto) : D → Option (List D)
  | .ref k => match S[k]? with
    | some (.lst xs) => some xs
    | _ => none
  | .lro xs => some xs
  | _ => none
theorem lstOf_sq {m : List Addr} {S : Sto} {H : Hp} {d : D} {v : V} {ds : List D} (sm : Sim g m S H) (h : lstOf S d = some ds) (r : RD g m H d v) : ∃ a vs, v = .ref a ∧ SqL g.K H a vs ∧ RDs g m H ds vs := by
  unfold lstOf at h
  split at h
  · split at h
    · rename_i hk
      cases h
      obtain ⟨a, rfl, ha⟩ := r.ref_inv
      obtain ⟨a', vs, e1, e2, r1⟩ := sm.list hk
      rw [ha] at e1; cases e1
      exact ⟨a, vs, rfl, SqL.of e2, r1⟩
    · cases h
  · cases h
    cases r with
    | lro t q => exact ⟨_, _, rfl, t.sq, q⟩
  · cases h
def sumD : List D → M D := fun ds S => match ds with
  | [d] => match lstOf S d with
    | some xs => match asInts xs with
      | some ns => .ok (.int ns.sum) S
      | none => .no
    | none => .no
  | _ => .no
def listD : List D → M D := fun ds S => match ds with
  | [.tup xs] => .ok (.ref S.length) (S ++ [.lst xs])
  | [d] => match lstOf S d with
    | some xs => .ok (.ref S.length) (S ++ [.lst xs])
    | none => .no
  | _ => .no
theorem b_list (hK : g.K = X.K := by rfl) : CallR X (.type "list") (rCb g X listD) := by
  intro pins s σ H xs us Q I rx ⟨m, S, ds, sm, hx, o⟩
  unfold listD at o
  split at o
  · cases hx with
    | cons h1 h2 =>
      cases h2
      obtain ⟨a, vs, rfl, t, q⟩ := h1.tup_inv
      exact call_list_of pins s σ H _ us Q I rx ⟨a, vs, rfl, .inr (hK ▸ t.sq), fun p hp => newL sm q o hp⟩
  · split at o
    · rename_i hl
      cases hx with
      | cons h1 h2 =>
        cases h2
        obtain ⟨a, vs, rfl, t, q⟩ := lstOf_sq sm hl h1
        exact call_list_of pins s σ H _ us Q I rx ⟨a, vs, rfl, .inl (hK ▸ t), fun p hp => newL sm q o hp⟩
    · exact o.elim
  · exact o.elim
def tupleD : List D → M D := fun ds S => match ds with
  | [.tup xs] => .ok (.tup xs) S
  | [d] => match lstOf S d with
    | some xs => .ok (.tup xs) S
    | none => .no
  | _ => .no
theorem b_tuple (hK : g.K = X.K := by rfl) : CallR X (.type "tuple") (rCb g X tupleD) := by
  intro pins s σ H xs us Q I rx ⟨m, S, ds, sm, hx, o⟩
  unfold tupleD at o
  split at o
  · cases hx with
    | cons h1 h2 =>
      cases h2
      obtain ⟨a, vs, rfl, t, q⟩ := h1.tup_inv
      exact call_tuple_of pins s σ H _ us Q I rx ⟨a, vs, rfl, .inr ⟨hK ▸ t.sq, Out.ok sm o _ (.tup t q)⟩⟩
  · split at o
    · rename_i hl
      cases hx with
      | cons h1 h2 =>
        cases h2
        obtain ⟨a, vs, rfl, t, q⟩ := lstOf_sq sm hl h1
        exact call_tuple_of pins s σ H _ us Q I rx ⟨a, vs, rfl, .inl ⟨hK ▸ t, fun p hp => newT sm q o hp⟩⟩
    · exact o.elim
  · exact o.elim
end
end Ab

namespace Ab
open PySem PySem.Spec PyProof.Rows L2
section
variable {g : Gd} {X : Cx} {a b c e o tg elt iter st : Expr} {es ifs : List Expr} {f fa fb fc fe fo : Env → M D} {ft fu : Env → M Bool} {fs : Env → M (List D)} {pos apos cpos p p2 pos' : Pos} {x : Str} {k : Nat} {gf : D → Env → M Env} {gfs : List D → Env → M Env} {fi : Env → M Wk} {f1 f2 : Env → M Fl} {vs : List Nat}
def tyD (S : Sto) : D → Option String
  | .non => some "NoneType"
  | .bl _ => some "bool"
  | .int _ => some "int"
  | .str _ => some "str"
  | .tup _ => some "tuple"
  | .lro _ => some "list"
  | .ref k => match S[k]? with
    | some (.lst _) => some "list"
    | some (.dct _) => some "dict"
    | _ => none
  | _ => none
def isSub (t n : String) : Bool := t == n || (t == "bool" && n == "int")
def tyNames : List String := ["int", "bool", "str", "list", "tuple"]
def asTys : List D → Option (List String)
  | [] => some []
  | .ty n :: r => (asTys r).map (n :: ·)
  | _ => none
def isiD : List D → M D := fun ds S => match ds with
  | [d, .ty n] => match tyD S d with
    | some t => if n ∈ tyNames then .ok (.bl (isSub t n)) S else .no
    | none => .no
  | [d, .tup ts] => match tyD S d, asTys ts with
    | some t, some ns => if ns.all (· ∈ tyNames) = true then .ok (.bl (ns.any (isSub t))) S else .no
    | _, _ => .no
  | _ => .no
def isL (S : Sto) (d : D) : Bool := (lstOf S d).isSome
def cMt (k : D → List D → M D) (fo : Env → M D) (fs : Env → M (List D)) : Env → M D := fun env S => (fo env S).bind fun o S => if isL S o = true then (fs env S).bind fun ds S => k o ds S else .no
def rMt (g : Gd) (X : Cx) (k : D → List D → M D) : V → List V → Hp → VK → Prop := fun x vs H Q => ∃ m S d ds, Sim g m S H ∧ RD g m H d x ∧ RDs g m H ds vs ∧ Out g X m H (k d ds S) (VQ g Q)
theorem isL_ty {m : List Addr} {S : Sto} {H : Hp} {d : D} {v : V} (hK : g.K = X.K) (sm : Sim g m S H) (h : isL S d = true) (r : RD g m H d v) : tyV X.K "list" v H := by
  obtain ⟨ds, hd⟩ := Option.isSome_iff_exists.mp h
  obtain ⟨a, vs, rfl, t, q⟩ := lstOf_sq sm hd r
  exact .inl ⟨rfl, vs, hK ▸ t⟩
theorem e_mt {name : Str} {id : String} {k : D → List D → M D} (slot : Slot "list" name id) (hty : typeOf (.builtin id) = pure (.type "method_descriptor")) (hm : MtR X id (rMt g X k)) (ho : EJ g X o fo) (ha : AJ g X (e :: es) fs) (hK : g.K = X.K := by rfl)
    (hbase : attributeBase o name X.env (eval o X.env) = eval o X.env := by rfl)
    (hfew : ((backTo cpos (starEach (e :: es) X.env)).all (fun x => !x.1) && (backToKw cpos (keywordEach [] X.env)).all (fun x => x.1.isSome)
      && decide ((e :: es).length + ([] : List Keyword).length + (if ([] : List Keyword).isEmpty then 0 else 1) < 30)) = true := by kernel_rfl)
    (hline : (apos.endLine == cpos.line) = true := by kernel_rfl) (hs : starEach (e :: es) X.env = (false, eval e X.env) :: starEach es X.env := by kernel_rfl) (hplain : (backTo cpos (starEach es X.env)).any (·.1) = false := by kernel_rfl) :
    EJ g X (.Call (.Attribute o name apos) (e :: es) [] cpos) (cMt k fo fs) := ⟨PE.imp (pe_bm PySem.F.plainAttrs_list slot hty hm ho.un ha.un hbase hfew hline hs hplain) fun σ H Q ⟨m, env, S, r, s, o⟩ =>
  ⟨m, env, S, r, s, (Out.bind o).imp fun d S1 m1 H1 x1 s1 o1 v hv => by
    split at o1
    · rename_i hl
      exact ⟨isL_ty hK s1 hl hv, m1, env, S1, r.mono x1, s1, (Out.bind o1).imp fun ds S2 m2 H2 x2 s2 o2 vs h2 => ⟨m2, S2, d, ds, s2, hv.mono x2, h2, o2⟩⟩
    · exact o1.elim⟩⟩
def appendD : D → List D → M D := fun d ds S => match d, ds with
  | .ref k, [y] => match S[k]? with
    | some (.lst xs) => if xs.length < sizeLine then .ok .non (S.set k (.lst (xs ++ [y]))) else .no
    | _ => .no
  | _, _ => .no
theorem m_append : MtR X "list.append" (rMt g X appendD) := by
  intro pins s σ H x xs v us Q I rx rs ⟨m, S, d, ds, sm, hx, hs, o⟩
  unfold appendD at o
  split at o
  · split at o
    · rename_i k y _ _ ys hk
      split at o
      · rename_i hl
        obtain ⟨a, rfl, ha⟩ := hx.ref_inv
        obtain ⟨a', vs, e1, e2, r1⟩ := sm.list hk
        rw [ha] at e1; cases e1
        cases hs with
        | cons h1 h2 =>
          cases h2
          exact mt_append pins s σ H _ _ v us Q I rx rs ⟨a, vs, _, rfl, rfl, e2, by rw [← r1.length]; exact hl, o m _ (ext_put (List.mem_of_getElem? ha) (nfL e2)) (sm.putList ha (nfL e2) (r1.append (.one h1))) _ .non⟩
      · exact o.elim
    · exact o.elim
  · exact o.elim
end
end Ab

namespace Ab
open PySem PySem.Spec PyProof.Rows L2
section
variable {g : Gd} {X : Cx} {a b c e o tg elt iter st : Expr} {es ifs : List Expr} {f fa fb fc fe fo : Env → M D} {ft fu : Env → M Bool} {fs : Env → M (List D)} {pos apos cpos p p2 pos' : Pos} {x : Str} {k : Nat} {gf : D → Env → M Env} {gfs : List D → Env → M Env} {fi : Env → M Wk} {f1 f2 : Env → M Fl} {vs : List Nat}
def Out0 {α : Type} (g : Gd) (m : List Addr) (H : Hp) (r : R α) (P : α → Sto → List Addr → Hp → Prop) : Prop := match r with
  | .ok a S' => ∀ m' H', Ext m H m' H' → Sim g m' S' H' → P a S' m' H'
  | _ => False
theorem Out0.of {α : Type} {m : List Addr} {H : Hp} {r : R α} {P : α → Sto → List Addr → Hp → Prop} (h : Out0 g m H r P) : Out g X m H r P := by
  cases r with
  | ok a S => exact h
  | ex x S => exact False.elim h
  | no => exact h
theorem Out.to0 {α : Type} {m : List Addr} {H : Hp} {r : R α} {P : α → Sto → List Addr → Hp → Prop} (h : Out g X m H r P) : Out0 g m H r P := by
  cases r with
  | ok a S => exact h
  | ex x S => exact False.elim h
  | no => exact h
def spD (g : Gd) (n : Nat) (k : List D → M D) : Sp := fun vs H Q _ => vs.length = n ∧ ∃ m S ds, Sim g m S H ∧ RDs g m H ds vs ∧ Out0 g m H (k ds S) (VQ g Q)
def startD (n : Nat) (ds : List D) : Env := ds.map some ++ List.replicate (n - ds.length) none
def Fl.end_ : Fl → M D := fun fl S => match fl with
  | .rt d => .ok d S
  | .nx _ => .ok .non S
  | _ => .no
def cDef (n p : Nat) (f : Env → M Fl) : List D → M D := fun ds S => if ds.length = p then (f (startD n ds) S).bind Fl.end_ else .no
def DJ (g : Gd) (mg : Str → Option Value) (base : Heap) (j : Nat) (x : Str) (ps : List Str) (k : List D → M D) : Prop := Dfn g.P g.w g.K mg base j x ps (spD g ps.length k) ∧ ∀ ds S, ds.length ≠ ps.length → k ds S = .no
theorem rel_start {m : List Addr} {H : Hp} {N : List Str} {ds : List D} {vs : List V} (r : RDs g m H ds vs) (h : vs.length ≤ N.length) : Rel g m H (L2.start N vs) (startD N.length ds) := by
  have hl := r.length
  refine ⟨by simp [L2.start, startD, hl], fun i d hd => ?_⟩
  unfold startD at hd
  unfold L2.start
  by_cases hi : i < ds.length
  · rw [List.getElem?_append_left (by simpa using hi), List.getElem?_map] at hd
    obtain ⟨d', h1, h2⟩ := Option.map_eq_some_iff.mp hd
    cases h2
    obtain ⟨v, h3, h4⟩ := r.get h1
    exact ⟨v, by rw [List.getElem?_append_left (by simp; omega), List.getElem?_map, h3]; rfl, h4⟩
  · rw [List.getElem?_append_right (by simp; omega)] at hd
    have := List.mem_of_getElem? hd
    rw [List.mem_replicate] at this
    cases this.2
theorem dj_def {mg : Str → Option Value} {base : Heap} {s : Stmt} {N ps : List Str} {k : Nat} (D : Std g.K mg x s ps) (S : FnScope N ps (defScope s)) (hle : ps.length ≤ N.length := by decide)
    (hb : ∀ (f : Addr) (cdv : Value) (A : Around) (outer : List PySem.Env) (s0 : Shared) (H : Hp) (E : XK), Room k (A.deeper (envOfC x (defScope s) s0.heap.objs.size f cdv)) → BJ g (cxOf CX0 g.P g.w g.K mg base N x (defScope s) f cdv A outer s0 H E).nox (defBody s) f1) :
    DJ g mg base (k + 1) x ps (cDef N.length ps.length f1) := by
  refine ⟨?_, fun ds S0 h => by unfold cDef; rw [if_neg h]⟩
  refine D.ok S (fun vs H Q E h => h.1) fun f cdv A outer s0 H vs Q E hr hsp => ⟨_, (hb f cdv A outer s0 H E hr).un, ?_⟩
  obtain ⟨hl, m, S0, ds, sm, r, o⟩ := hsp
  have hd := r.length
  have o1 : Out g (cxOf CX0 g.P g.w g.K mg base N x (defScope s) f cdv A outer s0 H E).nox m H _ (VQ g Q) := o.of
  unfold cDef at o1
  rw [if_pos (by omega)] at o1
  refine ⟨m, startD N.length ds, S0, rel_start r (by omega), sm, (Out.bind o1).imp fun fl S1 m1 H1 x1 s1 o2 => ?_⟩
  cases fl with
  | nx e => exact fun σ' _ => Out.ok s1 o2 _ .non
  | rt d => exact fun v hv => Out.ok s1 o2 v hv
  | bk e => exact False.elim o2
  | ct e => exact False.elim o2
theorem e_call {j l : Nat} {ps : List Str} {k : List D → M D} (D : DJ g X.mg X.base j x ps k) (hr : Room l X.A) (hjl : j ≤ l) (ha : AJ g X (e :: es) fs) (hP : g.P = X.prog := by rfl) (hw : g.w = X.w := by rfl) (hK : g.K = X.K := by rfl)
    (hg : X.env.kindOf x = some .globalImplicit := by kernel_rfl) (hdb : (x == ("__debug__" : Str)) = false := by kernel_rfl)
    (he : starEach (e :: es) X.env = (false, eval e X.env) :: starEach es X.env := by kernel_rfl) (hpl : (backTo pos (starEach es X.env)).any (·.1) = false := by kernel_rfl) :
    EJ g X (.Call (.Name x p) (e :: es) [] pos) (cAp k fs) := by
  obtain ⟨gP, gw, gK, gfa⟩ := g
  subst hP hw hK
  refine ⟨PE.imp (pe_g D.1 hr hjl ha.un hg hdb he hpl) fun σ H Q ⟨m, env, S, r, s, o⟩ => ⟨m, env, S, r, s, ?_⟩⟩
  have o1 := Out.bind o
  cases hf : fs env S with
  | no => rw [hf] at o1; exact o1
  | ex x S1 => rw [hf] at o1; exact o1
  | ok ds S1 =>
    rw [hf] at o1
    intro m1 H1 x1 s1 vs hvs
    have o2 := o1 m1 H1 x1 s1
    by_cases hl : ds.length = ps.length
    · exact ⟨by rw [List.append_nil, ← hvs.length, hl], m1, S1, ds, s1, by rw [List.append_nil]; exact hvs, o2.to0⟩
    · simp only [D.2 ds S1 hl] at o2
      exact o2.elim
end
end Ab

namespace Ab
open PySem PySem.Spec PyProof.Rows L2
section
variable {g : Gd} {X : Cx} {a b c e o tg elt iter st : Expr} {es ifs : List Expr} {f fa fb fc fe fo : Env → M D} {ft fu : Env → M Bool} {fs : Env → M (List D)} {pos apos cpos p p2 pos' : Pos} {x : Str} {k : Nat} {gf : D → Env → M Env} {gfs : List D → Env → M Env} {fi : Env → M Wk} {f1 f2 : Env → M Fl} {vs : List Nat}
theorem dj_law {mg : Str → Option Value} {base : Heap} {j : Nat} {y : Str} {kl : List D → M D} (D : DJ g mg base j x [y] kl) (ht : g.tb = []) (h : ∀ ns : List Int, ns.length ≤ 63 → ∃ S, kl [.lro (ns.map .int)] [] = .ok (.bl true) S) : Dfn g.P g.w g.K mg base j x [y] (spLaw g.K) := by
  refine Dfn.imp D.1 fun vs H Q E ⟨a, ns, hv, hs, hl, q⟩ => ?_
  subst hv
  obtain ⟨S, hS⟩ := h ns hl
  have r : ∀ ns : List Int, RDs g [] H (ns.map .int) (ns.map V.int) := by
    intro ns
    induction ns with
    | nil => exact .nil
    | cons n ns ih => exact .cons (.int n) ih
  refine ⟨rfl, [], [], [.lro (ns.map .int)], ⟨rfl, .nil, fun k o a h => by simp at h, fun t h => by rw [ht] at h; cases h⟩, .one (.lro ?_ (r ns)), ?_⟩
  · rcases hs with hs | hs
    · exact .inl ⟨by simp, hs⟩
    · exact .inr hs
  · rw [hS]
    intro m' H' x' s' v hv
    rw [hv.bl_inv]
    exact q H'
end
end Ab

namespace Ab
open PySem PySem.Spec PyProof.Rows L2
section
variable {g : Gd} {X : Cx} {a b c e o tg elt iter st : Expr} {es ifs : List Expr} {f fa fb fc fe fo : Env → M D} {ft fu : Env → M Bool} {fs : Env → M (List D)} {pos apos cpos p p2 pos' : Pos} {x : Str} {k : Nat} {gf : D → Env → M Env} {gfs : List D → Env → M Env} {fi : Env → M Wk} {f1 f2 : Env → M Fl} {vs : List Nat}
def joinD : D → D → M D := fun d e S => match d with
  | .str z => match (match e with | .tup xs => some xs | e => lstOf S e) with
    | some xs => match asStrs xs with
      | some ys => if (ys.map (·.length)).sum + ys.length * z.length ≤ 16777216 then .ok (.str (Txt.join z ys)) S else .no
      | none => .no
    | none => .no
  | _ => .no
def isStr : D → Bool
  | .str _ => true
  | _ => false
def cJoin (fo fa : Env → M D) : Env → M D := fun env S => (fo env S).bind fun d S => if isStr d = true then (fa env S).bind fun e S => joinD d e S else .no
def isDc (S : Sto) : D → Bool
  | .ref k => match S[k]? with
    | some (.dct _) => true
    | _ => false
  | _ => false
def getD2 (d i z : D) : M D := fun S => match d with
  | .ref k => match S[k]? with
    | some (.dct kvs) => match keyK i with
      | some kk => .ok ((valD kvs kk).getD z) S
      | none => .no
    | _ => .no
  | _ => .no
def cGet2 (fo fa fb : Env → M D) : Env → M D := fun env S => (fo env S).bind fun d S => if isDc S d = true then (fa env S).bind fun i S => (fb env S).bind fun z S => getD2 d i z S else .no
def cGet1 (fo fa : Env → M D) : Env → M D := fun env S => (fo env S).bind fun d S => if isDc S d = true then (fa env S).bind fun i S => getD2 d i .non S else .no
def mergeD (kvs more : List (Key × D)) : List (Key × D) := more.foldl (fun acc kv => putD acc kv.1 kv.2) kvs
def pairsD : List ((Env → M D) × (Env → M D)) → Env → M (List (Key × D))
  | [] => fun _ S => .ok [] S
  | p :: ps => fun env S => (p.1 env S).bind fun k S => (p.2 env S).bind fun v S => (pairsD ps env S).bind fun kvs S => match keyK k with
    | some kk => .ok ((kk, v) :: kvs) S
    | none => .no
def cDisp (ps : List ((Env → M D) × (Env → M D))) : Env → M D := fun env S => (pairsD ps env (S ++ [.dct []])).bind fun kvs S2 => match S2[S.length]? with
  | some (.dct []) => if kvs.length ≤ 15 then .ok (.ref S.length) (S2.set S.length (.dct (mergeD [] kvs))) else .no
  | _ => .no
def cDnew : Env → M D := fun _ S => .ok (.ref S.length) (S ++ [.dct []])
def cAug (i : Nat) (fa : Env → M D) : Env → M Fl := fun env S => match env[i]? with
  | some (some (.int n)) => (fa env S).bind fun d S => match d with
    | .int j => .ok (.nx (env.set i (some (.int (n + j))))) S
    | _ => .no
  | _ => .no
end
end Ab

namespace Ab
open PySem PySem.Spec PyProof.Rows L2
section
variable {g : Gd} {m : List Addr} {H : Hp} {b : Addr} {od : Obj} {ws : List (Key × V)}
def lockD (k : Nat) (f : M D) : M D := fun S => match S[k]? with
  | some (.dct kvs) => (f (S.set k (.dfz kvs))).bind fun d S' => match S'[k]? with
    | some (.dfz _) => .ok d (S'.set k (.dct kvs))
    | _ => .no
  | _ => f S
def cLock (i : Nat) (f : Env → M D) : Env → M D := fun env S => match env[i]? with
  | some (some (.ref k)) => lockD k (f env) S
  | _ => f env S
end
section
variable {g : Gd} {X : Cx} {a b c e o tg elt iter st : Expr} {es ifs : List Expr} {f fa fb fc fe fo : Env → M D} {ft fu : Env → M Bool} {fs : Env → M (List D)} {pos apos cpos p p2 pos' : Pos} {x : Str} {k : Nat} {gf : D → Env → M Env} {gfs : List D → Env → M Env} {fi : Env → M Wk} {f1 f2 : Env → M Fl} {vs : List Nat}
def itK : D → M Wk := fun d S => match d with
  | .ref k => match S[k]? with
    | some (.dfz kvs) => .ok ⟨kvs.map fun kv => keyD kv.1, [(k, .dfz kvs)]⟩ S
    | _ => .no
  | _ => .no
def cItK (f : Env → M D) : Env → M Wk := fun env S => (f env S).bind itK
end
end Ab

namespace Ab
open PySem PySem.Spec PyProof.Rows L2
section
variable {g : Gd} {m : List Addr} {H : Hp} {ds : List D} {vs : List V}
theorem it_enumT {K : PySem.W.Frag} {a : Addr} (hK : g.K = K) (t : Tp g m H a vs) (r : RDs g m H ds vs) : ItOk g m H ⟨enumD 0 ds, []⟩ (Zp.ItE K a) := by
  subst hK
  intro i m' S' H' x s _
  refine ⟨fun d hd => ?_, fun hl => ⟨vs, (t.mono x).sq, by rw [← r.length]; rw [enumD_length] at hl; exact hl⟩⟩
  obtain ⟨e, he, rfl⟩ := enumD_get hd
  obtain ⟨v, h1, h2⟩ := (r.mono x).get he
  refine ⟨⟨vs, v, (t.mono x).sq, h1⟩, fun y H2 ⟨T, z, e3, e4, e5, q⟩ => ?_⟩
  subst e3 e5
  have := q vs (t.mono x).sq
  rw [h1] at this
  cases this
  rw [Nat.zero_add]
  exact new2 s e4 (.int _) h2
def zip3L : List D → List D → List D → List D
  | a :: as, b :: bs, c :: cs => .tup [a, b, c] :: zip3L as bs cs
  | _, _, _ => []
end
section
variable {g : Gd} {X : Cx} {a b c e o tg : Expr} {es : List Expr} {fs : Env → M (List D)} {pos p : Pos} {x : Str} {k : Nat}
def enu2 : List D → M Wk := fun ds S => match ds with
  | [.tup xs] => .ok ⟨enumD 0 xs, []⟩ S
  | ds => enu1 ds S
theorem i_enum2 {elts : List Expr} {kk : Nat} {tpos : Pos} (hm : X.mg "enumerate" = none) (ha : AJ g X [a] fs) (hg : X.env.kindOf "enumerate" = some .globalImplicit := by kernel_rfl) (hs : starEach [a] X.env = [(false, eval a X.env)] := by kernel_rfl) (hK : g.K = X.K := by rfl) : IJ g X (.Tuple elts kk tpos) (.Call (.Name "enumerate" p) [a] [] pos) (cItA enu2 fs) := ⟨PI.imp (PI.or (i_enum (elts := elts) (kk := kk) (tpos := tpos) (p := p) (pos := pos) hm ha hg hs).un (Zp.pi_E hg hm ha.un hs)) fun σ H R ⟨m, env, S, r, s, o⟩ => by
  have plain : cItA enu2 fs env S = cItA enu1 fs env S → iE g X (cItA enu1 fs) σ H R := fun e => ⟨m, env, S, r, s, by rw [← e]; exact o⟩
  cases hd : fs env S with
  | no => exact .inl (plain (by unfold cItA; rw [hd]; rfl))
  | ex x S1 => exact .inl (plain (by unfold cItA; rw [hd]; rfl))
  | ok ds S1 =>
    by_cases ht : ∃ xs, ds = [.tup xs]
    · obtain ⟨xs, rfl⟩ := ht
      have oo : Out g X m H (.ok ⟨enumD 0 xs, []⟩ S1) fun it S' m' H' => ∀ J, ItOk g m' H' it J → Kept it.keep S' → R J H' := by
        have : cItA enu2 fs env S = .ok ⟨enumD 0 xs, []⟩ S1 := by unfold cItA; rw [hd]; rfl
        rw [← this]; exact o
      refine .inr ⟨m, env, S, r, s, ?_⟩
      rw [hd]
      intro m1 H1 x1 s1 v hv
      cases hv with
      | cons h1 h2 =>
        cases h2
        obtain ⟨a, vs, rfl, t, q⟩ := h1.tup_inv
        exact ⟨a, vs, rfl, hK ▸ t.sq, oo m1 H1 x1 s1 _ (it_enumT hK t q) nokeep⟩
    · refine .inl (plain ?_)
      unfold cItA
      rw [hd]
      show enu2 ds S1 = enu1 ds S1
      unfold enu2
      split
      · exact absurd ⟨_, rfl⟩ ht
      · rfl⟩
end
section
variable {S : Sto} {PW : Wk → Sto → Prop}
theorem v_enu2L {k : Nat} {xs : List D} (h1 : S[k]? = some (.lst xs)) : enu2 [.ref k] S = .ok ⟨enumD 0 xs, [(k, .lst xs)]⟩ S := by simp only [enu2, enu1, h1]
end
end Ab

namespace L2
open PySem PySem.Spec PyProof.Rows
section
variable {X : Cx}
def tyT (K : PySem.W.Frag) (x : V) (H : Hp) : Prop := ∃ p, x = V.ref p ∧ ((∃ vs, H p = some (.tup vs)) ∨ ∃ o, K.lookup p = some o ∧ o.cls = .type "tuple" ∧ o.dict = none)
theorem tyT_is {pins : List (Addr × Obj)} {σ : St} {H : Hp} {s : Shared} {x : V} {v : Value} (I : Inv X pins σ H s) (r : RelV x v) (ty : tyT X.K x H) :
    s.TypeIs v "tuple" ∧ ∀ a, v = .ref a → ∃ ob, s.heap.get? a = some ob ∧ ob.dict = none := by
  obtain ⟨p, rfl, ⟨vs, h⟩ | ⟨o, hk, hc, hd⟩⟩ := ty
  · cases r
    obtain ⟨z, its, rv, p1, p2⟩ := I.hok p _ h
    refine ⟨p1.typeIs, fun a e => ?_⟩
    cases e
    exact p2
  · cases r
    refine ⟨⟨o, I.kIn p o hk, hc⟩, fun a e => ?_⟩
    cases e
    exact ⟨o, I.kIn _ o hk, hd⟩
def tBMT (K : PySem.W.Frag) (r : V → List V → Hp → VK → Prop) (to : TE) (t : TA) : TE := fun σ H Q => to σ H fun x H1 => tyT K x H1 ∧ t σ H1 fun xs H2 => r x xs H2 Q
variable {o e : Expr} {es : List Expr} {to : TE} {t : TA} {name : Str} {apos cpos : Pos} {id : String} {r : V → List V → Hp → VK → Prop}
theorem pe_bmT (slot : Slot "tuple" name id) (hty : typeOf (.builtin id) = pure (.type "method_descriptor")) (hm : MtR X id r) (ho : PE X o to) (ha : PA X (e :: es) t)
    (hbase : attributeBase o name X.env (eval o X.env) = eval o X.env := by rfl)
    (hfew : ((backTo cpos (starEach (e :: es) X.env)).all (fun x => !x.1) && (backToKw cpos (keywordEach [] X.env)).all (fun x => x.1.isSome)
      && decide ((e :: es).length + ([] : List Keyword).length + (if ([] : List Keyword).isEmpty then 0 else 1) < 30)) = true := by rfl)
    (hline : (apos.endLine == cpos.line) = true := by rfl) (hs : starEach (e :: es) X.env = (false, eval e X.env) :: starEach es X.env := by rfl) (hplain : (backTo cpos (starEach es X.env)).any (·.1) = false := by rfl) :
    PE X (.Call (.Attribute o name apos) (e :: es) [] cpos) (tBMT X.K r to t) := by
  intro pins s σ H Q I h
  refine wpAny_Call_method_late hbase hfew hline rfl (thn (ho pins s σ H _ I h) fun v s1 ⟨x, H1, I1, r1, ty, q1⟩ => ?_)
  obtain ⟨h1, h2⟩ := tyT_is I1 r1 ty
  refine ⟨"tuple", id, PySem.F.plainAttrs_tuple, slot, hty, h1, h2, ?_⟩
  have hA := ha cpos pins s1 σ H1 _ I1 q1
  rw [hs] at hA ⊢
  refine Calls.callWith_builtin (by show (false || (backTo cpos (starEach es X.env)).any (·.1)) = false; rw [hplain] <;> rfl) (Calls.evalArgs_plain ?_)
  exact thn hA fun us s2 ⟨vs, H2, I2, r2, q2⟩ => hm pins s2 σ H2 x vs v us Q I2 r1 r2 q2
end
end L2
namespace Ab
open PySem PySem.Spec PyProof.Rows L2
section
variable {g : Gd} {X : Cx} {o e : Expr} {es : List Expr} {fo : Env → M D} {fs : Env → M (List D)} {apos cpos : Pos}
def isT : D → Bool
  | .tup _ => true
  | _ => false
theorem isT_ty {m : List Addr} {H : Hp} {d : D} {v : V} (hK : g.K = X.K) (h : isT d = true) (r : RD g m H d v) : tyT X.K v H := by
  cases r with
  | tup t q =>
    rcases t with ⟨_, h2⟩ | ⟨o, its, n, h1, h2, h3, _⟩
    · exact ⟨_, rfl, .inl ⟨_, h2⟩⟩
    · exact ⟨_, rfl, .inr ⟨o, hK ▸ h1, h2, h3⟩⟩
  | _ => cases h
def inDat (d : PyData) (xs : List PyData) : Option Bool := if (PyData.canLayAll0 xs && d.canLay0 && decide (d.depth ≤ 900)) = true then some (xs.any fun y => PyData.eqv y d) else none
def inB2 (S : Sto) (x y : D) : Option Bool := match inB S x y with
  | some b => some b
  | none => match pyD S x, pyD S y with
    | some d, some (.list xs) => inDat d xs
    | some d, some (.tuple xs) => inDat d xs
    | _, _ => none
def opIn2 : D → D → M D := fun d e S => match inB2 S d e with
  | some b => .ok (.bl b) S
  | none => .no
def opNotIn2 : D → D → M D := fun d e S => match inB2 S d e with
  | some b => .ok (.bl (!b)) S
  | none => .no
theorem inDat_inv {d : PyData} {xs : List PyData} {b : Bool} (h : inDat d xs = some b) : PyData.canLayAll0 xs = true ∧ d.canLay0 = true ∧ d.depth ≤ 900 ∧ b = xs.any fun y => PyData.eqv y d := by
  unfold inDat at h
  split at h
  · rename_i hs
    rw [Bool.and_eq_true, Bool.and_eq_true, decide_eq_true_eq] at hs
    cases h
    exact ⟨hs.1.1, hs.1.2, hs.2, rfl⟩
  · cases h
variable {k : Nat}
theorem o_in2 (hr : Room k X.A) (hK : g.K = X.K := by rfl) : OpR X (compareOp .In) (rOp g X opIn2) := by
  intro pins s σ H x y v u Q I rx ry ⟨m, S, d, e, sm, hx, hy, o⟩
  unfold opIn2 inB2 at o
  cases hb : inB S d e with
  | some b =>
    rw [hb] at o
    refine o_in hK pins s σ H x y v u Q I rx ry ⟨m, S, d, e, sm, hx, hy, ?_⟩
    unfold opIn
    rw [hb]
    exact o
  | none =>
    rw [hb] at o
    have hu := hr.units2
    cases h1 : pyD S d with
    | none => rw [h1] at o; exact o.elim
    | some p =>
      cases h2 : pyD S e with
      | none => rw [h1, h2] at o; exact o.elim
      | some q =>
        rw [h1, h2] at o
        obtain ⟨as, r1⟩ := Dp.reads I p x v (hK ▸ pyD_dp sm h1 hx) rx
        obtain ⟨bs, r2⟩ := Dp.reads I q y u (hK ▸ pyD_dp sm h2 hy) ry
        cases q with
        | list xs =>
          simp only at o
          cases hi : inDat p xs with
          | none => rw [hi] at o; exact o.elim
          | some b =>
            rw [hi] at o
            obtain ⟨c1, c2, c3, rfl⟩ := inDat_inv hi
            exact SeqAt.in_list_reads r2 r1 c1 c2 (by have := Nat.min_le_right (PyData.depthAll xs) p.depth; omega) ⟨.bl _, H, I, rfl, Out.ok sm o _ (.bl _)⟩
        | tuple xs =>
          simp only at o
          cases hi : inDat p xs with
          | none => rw [hi] at o; exact o.elim
          | some b =>
            rw [hi] at o
            obtain ⟨c1, c2, c3, rfl⟩ := inDat_inv hi
            exact SeqAt.in_tuple_reads r2 r1 c1 c2 (by have := Nat.min_le_right (PyData.depthAll xs) p.depth; omega) ⟨.bl _, H, I, rfl, Out.ok sm o _ (.bl _)⟩
        | _ => exact o.elim
theorem o_notIn2 (hr : Room k X.A) (hK : g.K = X.K := by rfl) : OpR X (compareOp .NotIn) (rOp g X opNotIn2) := by
  intro pins s σ H x y v u Q I rx ry ⟨m, S, d, e, sm, hx, hy, o⟩
  unfold opNotIn2 inB2 at o
  cases hb : inB S d e with
  | some b =>
    rw [hb] at o
    refine o_notIn hK pins s σ H x y v u Q I rx ry ⟨m, S, d, e, sm, hx, hy, ?_⟩
    unfold opNotIn
    rw [hb]
    exact o
  | none =>
    rw [hb] at o
    have hu := hr.units2
    cases h1 : pyD S d with
    | none => rw [h1] at o; exact o.elim
    | some p =>
      cases h2 : pyD S e with
      | none => rw [h1, h2] at o; exact o.elim
      | some q =>
        rw [h1, h2] at o
        obtain ⟨as, r1⟩ := Dp.reads I p x v (hK ▸ pyD_dp sm h1 hx) rx
        obtain ⟨bs, r2⟩ := Dp.reads I q y u (hK ▸ pyD_dp sm h2 hy) ry
        cases q with
        | list xs =>
          simp only at o
          cases hi : inDat p xs with
          | none => rw [hi] at o; exact o.elim
          | some b =>
            rw [hi] at o
            obtain ⟨c1, c2, c3, rfl⟩ := inDat_inv hi
            exact SeqAt.notIn_list_reads r2 r1 c1 c2 (by have := Nat.min_le_right (PyData.depthAll xs) p.depth; omega) ⟨.bl _, H, I, rfl, Out.ok sm o _ (.bl _)⟩
        | tuple xs =>
          simp only at o
          cases hi : inDat p xs with
          | none => rw [hi] at o; exact o.elim
          | some b =>
            rw [hi] at o
            obtain ⟨c1, c2, c3, rfl⟩ := inDat_inv hi
            exact SeqAt.notIn_tuple_reads r2 r1 c1 c2 (by have := Nat.min_le_right (PyData.depthAll xs) p.depth; omega) ⟨.bl _, H, I, rfl, Out.ok sm o _ (.bl _)⟩
        | _ => exact o.elim
end
end Ab

namespace Xi
open PySem PySem.Spec PyProof.Rows L2
def Hd1 (h : Heap) (e : Addr) (vs : Array Value) : Option (Addr × Value) → Prop
  | none => vs[1]? = some .none
  | some (T, fl) => vs[1]? = some (.ref T) ∧ T ≠ e ∧ ∃ o ts, h.get? T = some o ∧ o.data = .fields ts ∧ ts[3]? = some fl
def ExAt (h : Heap) (e : Addr) (cls : Value) (dx : Option Addr) (T : Option (Addr × Value)) : Prop := ∃ vs sl, h.get? e = some ⟨cls, dx, .fields vs, sl⟩ ∧ Hd1 h e vs T
end Xi

namespace Xi
open PySem PySem.Spec PyProof.Rows L2
section
variable {X : Cx} {pins : List (Addr × Obj)} {σ : L2.St} {H : Hp} {s : Shared} {e : Addr} {cls : Value} {dx : Option Addr} {M : Model} {A : Around} {E : Value → Shared → Prop}
def Fre (X : Cx) (pins : List (Addr × Obj)) (H : Hp) (a : Addr) : Prop := X.s_0.heap.objs.size ≤ a ∧ H a = none ∧ a ≠ X.env.locals ∧ (∀ x c, X.env.cells.lookup x = some c → c ≠ a) ∧ ∀ p ∈ X.pn ++ pins, p.1 ≠ a
structure Fly (X : Cx) (pins : List (Addr × Obj)) (σ : L2.St) (H : Hp) (s : Shared) (e : Addr) (cls : Value) (dx : Option Addr) : Prop where
  inv : Inv X pins σ H s
  fre : Fre X pins H e
  tr : ∃ T, ExAt s.heap e cls dx T ∧ ∀ T' fl, T = some (T', fl) → Fre X pins H T' ∧ (fl = .none ∨ fl = rawInt X.env.locals)
def EXs (X : Cx) (σ : L2.St) : XK := fun cls dx H => ∀ pins s e, Fly X pins σ H s e cls dx → X.xe (.ref e) s
def EXa (X : Cx) : XK := fun cls dx H => ∀ pins σ s e, Fly X pins σ H s e cls dx → X.xe (.ref e) s
end
end Xi

namespace Ab
open PySem PySem.Spec PyProof.Rows L2 Xi
def R.nox {α : Type} : R α → R α
  | .ok a S => .ok a S
  | _ => .no
@[simp] theorem R.nox_ok {α : Type} (a : α) (S : Sto) : (R.ok a S).nox = .ok a S := rfl
@[simp] theorem R.nox_no {α : Type} : (R.no : R α).nox = .no := rfl
@[simp] theorem R.nox_ex {α : Type} (x : D) (S : Sto) : (R.ex x S : R α).nox = .no := rfl
section
variable {α β : Type} {g : Gd} {X : Cx} {E E' : XK} {m m' : List Addr} {H H' : Hp}
theorem ea {X : Cx} {σ : L2.St} {cls : Value} {dx : Option Addr} {H : Hp} (h : EXa X cls dx H) : EXs X σ cls dx H := fun pins s e F => h pins σ s e F
end
end Ab

namespace Ab
open PySem PySem.Spec PyProof.Rows L2 Xi
def Fl.wipe (v : Nat) : Fl → Fl
  | .nx e => .nx (e.set v none)
  | .bk e => .bk (e.set v none)
  | .ct e => .ct (e.set v none)
  | .rt d => .rt d
end Ab

namespace Ab
open PySem PySem.Spec PyProof.Rows L2
def Ok {α : Type} (r : R α) (P : α → Sto → Prop) : Prop := match r with
  | .ok a S => P a S
  | _ => False
theorem ok_bind {α β : Type} {r : R α} {k : α → M β} {P : β → Sto → Prop} : Ok (r.bind k) P = Ok r fun a S => Ok (k a S) P := by cases r <;> rfl
theorem Ok.imp {α : Type} {r : R α} {P Q : α → Sto → Prop} (h : Ok r P) (i : ∀ a S, P a S → Q a S) : Ok r Q := by
  cases r with
  | ok a S => exact i a S h
  | ex x S => exact h
  | no => exact h
theorem Ok.ex {α : Type} {r : R α} {P : α → Sto → Prop} (h : Ok r P) : ∃ a S, r = .ok a S ∧ P a S := by
  cases r with
  | ok a S => exact ⟨a, S, rfl, h⟩
  | ex x S => exact h.elim
  | no => exact h.elim
theorem ok_ite {α : Type} {c : Prop} [Decidable c] {r s : R α} {P : α → Sto → Prop} : Ok (if c then r else s) P = if c then Ok r P else Ok s P := by split <;> rfl
def Nxt (k : Env → M Fl) (P : Fl → Sto → Prop) (e : Env) (S : Sto) : Prop := Ok (k e S) P
theorem nxt {k : Env → M Fl} {P : Fl → Sto → Prop} {e : Env} {S : Sto} (h : Ok (k e S) P) : Nxt k P e S := h
def Aft (k : Env → M Fl) (P : Fl → Sto → Prop) : Fl → Sto → Prop := fun fl S => match fl with
  | .nx e => Nxt k P e S
  | o => P o S
def Trn (k : Env → M Fl) (P : Fl → Sto → Prop) : Fl → Sto → Prop := fun fl S => match fl with
  | .nx e => Nxt k P e S
  | .ct e => Nxt k P e S
  | .bk e => P (.nx e) S
  | .rt d => P (.rt d) S
def End (P : D → Sto → Prop) : Fl → Sto → Prop := fun fl S => match fl with
  | .rt d => P d S
  | .nx _ => P .non S
  | _ => False
section
variable {g f k b : Env → M Fl} {P : Fl → Sto → Prop} {PD : D → Sto → Prop} {PB : Bool → Sto → Prop} {PL : List D → Sto → Prop} {PE : Env → Sto → Prop} {PW : Wk → Sto → Prop} {PO : Option Int → Sto → Prop} {env e : Env} {S : Sto} {d : D} {i : Nat} {fa fb fc : Env → M D} {ft fu : Env → M Bool} {fs : Env → M (List D)} {gf : D → Env → M Env} {gs : List D → Env → M Env} {fi : Env → M Wk}
theorem aft_nx : Aft k P (.nx e) S = Nxt k P e S := id rfl
theorem aft_rt : Aft k P (.rt d) S = P (.rt d) S := id rfl
theorem aft_bk : Aft k P (.bk e) S = P (.bk e) S := id rfl
theorem aft_ct : Aft k P (.ct e) S = P (.ct e) S := id rfl
theorem trn_nx : Trn k P (.nx e) S = Nxt k P e S := id rfl
theorem trn_ct : Trn k P (.ct e) S = Nxt k P e S := id rfl
theorem trn_bk : Trn k P (.bk e) S = P (.nx e) S := id rfl
theorem trn_rt : Trn k P (.rt d) S = P (.rt d) S := id rfl
theorem end_rt : End PD (.rt d) S = PD d S := id rfl
theorem end_nx : End PD (.nx e) S = PD .non S := id rfl
theorem x_def {n p : Nat} {ds : List D} : Ok (cDef n p f ds S) PD = if ds.length = p then Ok (f (startD n ds) S) (End PD) else False := by
  unfold cDef
  split
  · rw [ok_bind]
    congr 1
    funext fl S
    cases fl <;> rfl
  · rfl
theorem x_seq : Ok (cSeq f k env S) P = Ok (f env S) (Aft k P) := by
  unfold cSeq
  rw [ok_bind]
  congr 1
  funext fl S
  cases fl <;> rfl
theorem x_asg : Ok (cAsg fa gf env S) P = Ok (fa env S) fun d S => Ok (gf d env S) fun e S => P (.nx e) S := by unfold cAsg; rw [ok_bind]; congr 1; funext d S; rw [ok_bind]; rfl
theorem x_expr : Ok (cExpr fa env S) P = Ok (fa env S) fun _ S => P (.nx env) S := by unfold cExpr; rw [ok_bind]; rfl
theorem x_ret : Ok (cRet fa env S) P = Ok (fa env S) fun d S => P (.rt d) S := by unfold cRet; rw [ok_bind]; rfl
theorem x_retN : Ok (cRetN env S) P = P (.rt .non) S := id rfl
theorem x_pass : Ok (cPass env S) P = P (.nx env) S := id rfl
theorem x_brk : Ok (cBrk env S) P = P (.bk env) S := id rfl
theorem x_cnt : Ok (cCnt env S) P = P (.ct env) S := id rfl
theorem x_ifS : Ok (cIfS ft f k env S) P = Ok (ft env S) fun b S => if b = true then Ok (f env S) P else Ok (k env S) P := by unfold cIfS; rw [ok_bind]; congr 1; funext b S; rw [ok_ite]
theorem x_par {j : Nat} : Ok (cPar i j fs env S) P = Ok (fs env S) fun ds S => ∃ a b, ds = [a, b] ∧ P (.nx ((env.set i (some a)).set j (some b))) S := by
  unfold cPar
  rw [ok_bind]
  congr 1
  funext ds S
  match ds with
  | [a, b] => exact propext ⟨fun h => ⟨a, b, rfl, h⟩, fun ⟨_, _, e, h⟩ => by cases e; exact h⟩
  | [] => exact propext ⟨fun h => h.elim, fun ⟨_, _, e, _⟩ => by cases e⟩
  | [_] => exact propext ⟨fun h => h.elim, fun ⟨_, _, e, _⟩ => by cases e⟩
  | _ :: _ :: _ :: _ => exact propext ⟨fun h => h.elim, fun ⟨_, _, e, _⟩ => by cases e⟩
theorem x_name : Ok (sName i d env S) PE = PE (env.set i (some d)) S := id rfl
theorem x_sub : Ok (sSub fa fb d env S) PE = Ok (fa env S) fun o S => Ok (fb env S) fun i S => Ok (setD o i d S) fun _ S => PE env S := by unfold sSub; rw [ok_bind]; congr 1; funext o S; rw [ok_bind]; congr 1; funext i S; rw [ok_bind]; rfl
theorem x_snil : Ok (sNil [] env S) PE = PE env S := id rfl
theorem x_scons {ds : List D} : Ok (sCons gf gs (d :: ds) env S) PE = Ok (gf d env S) fun e S => Ok (gs ds e S) PE := by unfold sCons; exact ok_bind
theorem x_stup {n : Nat} {ds : List D} : Ok (sTup n gs (.tup ds) env S) PE = if ds.length = n then Ok (gs ds env S) PE else False := by unfold sTup; rw [ok_ite]; rfl
theorem x_var : Ok (cVar i env S) PD = (match env[i]? with | some (some d) => PD d S | _ => False) := by
  unfold cVar
  generalize env[i]? = o
  match o with
  | none => exact id rfl
  | some none => exact id rfl
  | some (some d) => exact id rfl
theorem x_c : Ok (cC d env S) PD = PD d S := id rfl
theorem x_op {k : D → D → M D} : Ok (cOp k fa fb env S) PD = Ok (fa env S) fun x S => Ok (fb env S) fun y S => Ok (k x y S) PD := by unfold cOp; rw [ok_bind]; congr 1; funext o S; rw [ok_bind]
theorem x_un {k : D → M D} : Ok (cUn k fa env S) PD = Ok (fa env S) fun x S => Ok (k x S) PD := by unfold cUn; rw [ok_bind]
theorem x_test : Ok (cTest fa env S) PB = Ok (fa env S) fun d S => Ok (isB d S) PB := by unfold cTest; rw [ok_bind]
theorem x_tru : Ok (cTru fa env S) PB = Ok (fa env S) fun d S => Ok (truD d S) PB := by unfold cTru; rw [ok_bind]
theorem x_not : Ok (cNot ft env S) PB = Ok (ft env S) fun b S => PB (!b) S := by unfold cNot; rw [ok_bind]; rfl
theorem x_and : Ok (cAnd ft fu env S) PB = Ok (ft env S) fun b S => if b = true then Ok (fu env S) PB else PB false S := by unfold cAnd; rw [ok_bind]; congr 1; funext b S; rw [ok_ite]; rfl
theorem x_or : Ok (cOr ft fu env S) PB = Ok (ft env S) fun b S => if b = true then PB true S else Ok (fu env S) PB := by unfold cOr; rw [ok_bind]; congr 1; funext b S; rw [ok_ite]; rfl
theorem x_andV : Ok (cAndV fa fb env S) PD = Ok (fa env S) fun d S => Ok (isB d S) fun b S => if b = true then Ok (fb env S) PD else PD (.bl false) S := by unfold cAndV; rw [ok_bind]; congr 1; funext d S; rw [ok_bind]; congr 1; funext b S; rw [ok_ite]; rfl
theorem x_orV : Ok (cOrV fa fb env S) PD = Ok (fa env S) fun d S => Ok (isB d S) fun b S => if b = true then PD (.bl true) S else Ok (fb env S) PD := by unfold cOrV; rw [ok_bind]; congr 1; funext d S; rw [ok_bind]; congr 1; funext b S; rw [ok_ite]; rfl
theorem x_if : Ok (cIf ft fa fb env S) PD = Ok (ft env S) fun b S => if b = true then Ok (fa env S) PD else Ok (fb env S) PD := by unfold cIf; rw [ok_bind]; congr 1; funext b S; rw [ok_ite]
theorem x_nil : Ok (cNil env S) PL = PL [] S := id rfl
theorem x_cons : Ok (cCons fa fs env S) PL = Ok (fa env S) fun d S => Ok (fs env S) fun ds S => PL (d :: ds) S := by unfold cCons; rw [ok_bind]; congr 1; funext d S; rw [ok_bind]; rfl
theorem x_ap {k : List D → M D} : Ok (cAp k fs env S) PD = Ok (fs env S) fun ds S => Ok (k ds S) PD := by unfold cAp; rw [ok_bind]
theorem x_mt {k : D → List D → M D} : Ok (cMt k fa fs env S) PD = Ok (fa env S) fun o S => if isL S o = true then Ok (fs env S) fun ds S => Ok (k o ds S) PD else False := by unfold cMt; rw [ok_bind]; congr 1; funext d S; rw [ok_ite, ok_bind]; rfl
theorem x_sl {fl fh : Env → M (Option Int)} : Ok (cSl fa fl fh env S) PD = Ok (fa env S) fun d S => Ok (fl env S) fun l S => Ok (fh env S) fun h S => Ok (slD d l h S) PD := by unfold cSl; rw [ok_bind]; congr 1; funext d S; rw [ok_bind]; congr 1; funext l S; rw [ok_bind]
theorem x_nop : Ok (cNoP env S) PO = PO none S := id rfl
theorem x_p : Ok (cP fa env S) PO = Ok (fa env S) fun d S => Ok (isI d S) PO := by unfold cP; rw [ok_bind]
theorem x_it : Ok (cIt fa env S) PW = Ok (fa env S) fun d S => Ok (itD d S) PW := by unfold cIt; rw [ok_bind]
theorem x_itA {k : List D → M Wk} : Ok (cItA k fs env S) PW = Ok (fs env S) fun d S => Ok (k d S) PW := by unfold cItA; rw [ok_bind]
theorem x_for : Ok (cFor fi gf b env S) P = Ok (fi env S) fun it S => Ok (cForL it.keep gf b it.items env S) P := by unfold cFor; rw [ok_bind]
theorem x_lc {ft : Env → M Bool} {fe : Env → M D} {vs : List Nat} : Ok (cLc fi gf ft fe vs env S) PD = Ok (fi env S) fun it S => Ok (lcL it.keep gf ft fe (wipeD env vs) S.length it.items (S ++ [.lst []])) fun _ S' => PD (.ref S.length) S' := by
  unfold cLc; rw [ok_bind]; congr 1; funext it S; rw [ok_bind]; rfl
theorem x_yes : Ok (cYes env S) PB = PB true S := id rfl
theorem v_isB {b : Bool} : Ok (isB (.bl b) S) PB = PB b S := id rfl
theorem v_isI {i : Int} : Ok (isI (.int i) S) PO = PO (some i) S := id rfl
theorem v_add {i j : Int} : Ok (opAdd (.int i) (.int j) S) PD = PD (.int (i + j)) S := id rfl
theorem v_sub {i j : Int} : Ok (opSub (.int i) (.int j) S) PD = PD (.int (i - j)) S := id rfl
theorem v_mul {i j : Int} : Ok (opMul (.int i) (.int j) S) PD = if cmul i j = true then PD (.int (i * j)) S else False := by unfold opMul; rw [ok_ite]; rfl
theorem v_mod {i j : Int} : Ok (opMod (.int i) (.int j) S) PD = if 0 < j then PD (.int (i % j)) S else False := by
  show Ok (if decide (0 < j) = true then _ else _) PD = _
  rw [ok_ite]
  simp only [decide_eq_true_eq]
  rfl
theorem v_div {i j : Int} : Ok (opDiv (.int i) (.int j) S) PD = if 0 < j ∧ j < 2 ^ 100 then PD (.int (i / j)) S else False := by
  show Ok (if (decide (0 < j) && decide (j < 2 ^ 100)) = true then _ else _) PD = _
  rw [ok_ite]
  simp only [Bool.and_eq_true, decide_eq_true_eq]
  rfl
theorem v_1018 : Ok (opPow (.int 10) (.int 18) S) PD = PD (.int 1000000000000000000) S := by
  show Ok (if (decide ((0 : Int) ≤ 18) && (decide ((18 : Int) ≤ 1000000) && decide ((10 : Int).natAbs < 2 ^ 64))) = true then R.ok (D.int ((10 : Int) ^ (18 : Int).toNat)) S else .no) PD = _
  rw [if_pos (by decide)]; rfl
theorem v_lt {i j : Int} : Ok (opLt (.int i) (.int j) S) PD = PD (.bl (decide (i < j))) S := id rfl
theorem v_le {i j : Int} : Ok (opLe (.int i) (.int j) S) PD = PD (.bl (decide (i ≤ j))) S := id rfl
theorem v_gt {i j : Int} : Ok (opGt (.int i) (.int j) S) PD = PD (.bl (decide (j < i))) S := id rfl
theorem v_ge {i j : Int} : Ok (opGe (.int i) (.int j) S) PD = PD (.bl (decide (j ≤ i))) S := id rfl
theorem v_eqI {i j : Int} : Ok (opEq (.int i) (.int j) S) PD = PD (.bl (decide (i = j))) S := id rfl
theorem v_eqS {i j : Str} : Ok (opEq (.str i) (.str j) S) PD = PD (.bl (decide (i = j))) S := id rfl
theorem v_neI {i j : Int} : Ok (opNe (.int i) (.int j) S) PD = PD (.bl (!decide (i = j))) S := id rfl
theorem v_neS {i j : Str} : Ok (opNe (.str i) (.str j) S) PD = PD (.bl (!decide (i = j))) S := id rfl
theorem v_is : Ok (opIs d .non S) PD = PD (.bl (isNon d)) S := id rfl
theorem v_isNot : Ok (opIsNot d .non S) PD = PD (.bl (!isNon d)) S := id rfl
theorem v_neg {i : Int} : Ok (uNeg (.int i) S) PD = PD (.int (-i)) S := id rfl
theorem v_notV {b : Bool} : Ok (notV (.bl b) S) PD = PD (.bl (!b)) S := id rfl
theorem v_truB {b : Bool} : Ok (truD (.bl b) S) PB = PB b S := id rfl
theorem v_truI {i : Int} : Ok (truD (.int i) S) PB = PB (i != 0) S := id rfl
theorem v_mkT {ds : List D} (h : ds.length ≤ 1000) : Ok (mkT ds S) PD = PD (.tup ds) S := by
  unfold mkT; rw [if_pos (Nat.le_trans h (by rw [sizeLine_eq]; decide))]; rfl
theorem v_mkL {ds : List D} (h : ds.length ≤ 1000) : Ok (mkL ds S) PD = PD (.ref S.length) (S ++ [.lst ds]) := by
  unfold mkL; rw [if_pos (Nat.le_trans h (by rw [sizeLine_eq]; decide))]; rfl
theorem v_mkT0 : Ok (mkT [] S) PD = PD (.tup []) S := v_mkT (Nat.le_trans (Nat.le_of_eq (rfl : _ = 0)) (by decide))
theorem v_mkL0 : Ok (mkL [] S) PD = PD (.ref S.length) (S ++ [.lst []]) := v_mkL (Nat.le_trans (Nat.le_of_eq (rfl : _ = 0)) (by decide))
theorem v_mkT1 {a : D} : Ok (mkT [a] S) PD = PD (.tup [a]) S := v_mkT (Nat.le_trans (Nat.le_of_eq (rfl : _ = 1)) (by decide))
theorem v_mkL1 {a : D} : Ok (mkL [a] S) PD = PD (.ref S.length) (S ++ [.lst [a]]) := v_mkL (Nat.le_trans (Nat.le_of_eq (rfl : _ = 1)) (by decide))
theorem v_mkT2 {a b : D} : Ok (mkT [a, b] S) PD = PD (.tup [a, b]) S := v_mkT (Nat.le_trans (Nat.le_of_eq (rfl : _ = 2)) (by decide))
theorem v_mkL2 {a b : D} : Ok (mkL [a, b] S) PD = PD (.ref S.length) (S ++ [.lst [a, b]]) := v_mkL (Nat.le_trans (Nat.le_of_eq (rfl : _ = 2)) (by decide))
theorem v_mkT3 {a b c : D} : Ok (mkT [a, b, c] S) PD = PD (.tup [a, b, c]) S := v_mkT (Nat.le_trans (Nat.le_of_eq (rfl : _ = 3)) (by decide))
theorem v_mkL3 {a b c : D} : Ok (mkL [a, b, c] S) PD = PD (.ref S.length) (S ++ [.lst [a, b, c]]) := v_mkL (Nat.le_trans (Nat.le_of_eq (rfl : _ = 3)) (by decide))
theorem v_mkT4 {a b c d : D} : Ok (mkT [a, b, c, d] S) PD = PD (.tup [a, b, c, d]) S := v_mkT (Nat.le_trans (Nat.le_of_eq (rfl : _ = 4)) (by decide))
theorem v_mkL4 {a b c d : D} : Ok (mkL [a, b, c, d] S) PD = PD (.ref S.length) (S ++ [.lst [a, b, c, d]]) := v_mkL (Nat.le_trans (Nat.le_of_eq (rfl : _ = 4)) (by decide))
theorem v_mkT5 {a b c d e : D} : Ok (mkT [a, b, c, d, e] S) PD = PD (.tup [a, b, c, d, e]) S := v_mkT (Nat.le_trans (Nat.le_of_eq (rfl : _ = 5)) (by decide))
theorem v_mkL5 {a b c d e : D} : Ok (mkL [a, b, c, d, e] S) PD = PD (.ref S.length) (S ++ [.lst [a, b, c, d, e]]) := v_mkL (Nat.le_trans (Nat.le_of_eq (rfl : _ = 5)) (by decide))
theorem v_mkT6 {a b c d e f : D} : Ok (mkT [a, b, c, d, e, f] S) PD = PD (.tup [a, b, c, d, e, f]) S := v_mkT (Nat.le_trans (Nat.le_of_eq (rfl : _ = 6)) (by decide))
theorem v_mkL6 {a b c d e f : D} : Ok (mkL [a, b, c, d, e, f] S) PD = PD (.ref S.length) (S ++ [.lst [a, b, c, d, e, f]]) := v_mkL (Nat.le_trans (Nat.le_of_eq (rfl : _ = 6)) (by decide))
theorem v_mkT7 {a b c d e f g : D} : Ok (mkT [a, b, c, d, e, f, g] S) PD = PD (.tup [a, b, c, d, e, f, g]) S := v_mkT (Nat.le_trans (Nat.le_of_eq (rfl : _ = 7)) (by decide))
theorem v_mkL7 {a b c d e f g : D} : Ok (mkL [a, b, c, d, e, f, g] S) PD = PD (.ref S.length) (S ++ [.lst [a, b, c, d, e, f, g]]) := v_mkL (Nat.le_trans (Nat.le_of_eq (rfl : _ = 7)) (by decide))
theorem v_mkT8 {a b c d e f g h : D} : Ok (mkT [a, b, c, d, e, f, g, h] S) PD = PD (.tup [a, b, c, d, e, f, g, h]) S := v_mkT (Nat.le_trans (Nat.le_of_eq (rfl : _ = 8)) (by decide))
theorem v_mkL8 {a b c d e f g h : D} : Ok (mkL [a, b, c, d, e, f, g, h] S) PD = PD (.ref S.length) (S ++ [.lst [a, b, c, d, e, f, g, h]]) := v_mkL (Nat.le_trans (Nat.le_of_eq (rfl : _ = 8)) (by decide))
theorem v_ixT {xs : List D} {j : Int} : Ok (ixD (.tup xs) (.int j) S) PD = (match L2.atI xs j with | some d => PD d S | none => False) := by
  show Ok (ofO S (L2.atI xs j)) PD = _
  cases L2.atI xs j <;> rfl
theorem v_ixR {xs : List D} {j : Int} : Ok (ixD (.lro xs) (.int j) S) PD = (match L2.atI xs j with | some d => PD d S | none => False) := by
  show Ok (ofO S (L2.atI xs j)) PD = _
  cases L2.atI xs j <;> rfl
theorem v_ixL {l : Nat} {xs : List D} {j : Int} (h : S[l]? = some (.lst xs)) : Ok (ixD (.ref l) (.int j) S) PD = (match L2.atI xs j with | some d => PD d S | none => False) := by
  simp only [ixD, h, ixSeq]
  cases L2.atI xs j <;> rfl
theorem v_lenT {xs : List D} : Ok (lenD [.tup xs] S) PD = PD (.int xs.length) S := id rfl
theorem v_lenR {xs : List D} : Ok (lenD [.lro xs] S) PD = PD (.int xs.length) S := id rfl
theorem v_lenL {l : Nat} {xs : List D} (h : S[l]? = some (.lst xs)) : Ok (lenD [.ref l] S) PD = PD (.int xs.length) S := by simp only [lenD, h]; rfl
theorem v_intB {b : Bool} : Ok (intB [.bl b] S) PD = PD (.int (if b then 1 else 0)) S := id rfl
theorem v_intI {i : Int} : Ok (intB [.int i] S) PD = PD (.int i) S := id rfl
theorem v_max {i j : Int} : Ok (max2 [.int i, .int j] S) PD = PD (.int (if j > i then j else i)) S := id rfl
theorem v_min {i j : Int} : Ok (min2 [.int i, .int j] S) PD = PD (.int (if j < i then j else i)) S := id rfl
theorem v_rng1 {j : Int} : Ok (rng1 [.int j] S) PW = if in62 j = true then PW ⟨intsD 0 j.toNat, []⟩ S else False := by unfold rng1; rw [ok_ite]; rfl
theorem v_rng2 {i j : Int} : Ok (rng2 [.int i, .int j] S) PW = if in62 i = true ∧ in62 j = true then PW ⟨intsD i (j - i).toNat, []⟩ S else False := by unfold rng2; rw [ok_ite]; rfl
theorem v_itT {xs : List D} : Ok (itD (.tup xs) S) PW = PW ⟨xs, []⟩ S := id rfl
theorem v_itR {xs : List D} : Ok (itD (.lro xs) S) PW = PW ⟨xs, []⟩ S := id rfl
theorem v_itS {z : Str} : Ok (itD (.str z) S) PW = PW ⟨signs z, []⟩ S := id rfl
theorem v_slR {xs : List D} {lo hi : Option Int} : Ok (slD (.lro xs) lo hi S) PD = PD (.ref S.length) (S ++ [.lst (cutD xs lo hi)]) := id rfl
theorem v_slT {xs : List D} {lo hi : Option Int} : Ok (slD (.tup xs) lo hi S) PD = PD (.tup (cutD xs lo hi)) S := id rfl
theorem v_setL {l j : Nat} {xs : List D} {n : Int} {PU : Unit → Sto → Prop} (h : S[l]? = some (.lst xs)) (hj : ixN xs.length n = some j) : Ok (setD (.ref l) (.int n) d S) PU = PU () (S.set l (.lst (xs.set j d))) := by simp only [setD, h, hj]; rfl
theorem v_app {l : Nat} {xs : List D} (h : S[l]? = some (.lst xs)) (hl : xs.length < 1000000) : Ok (appendD (.ref l) [d] S) PD = PD .non (S.set l (.lst (xs ++ [d]))) := by
  simp only [appendD, h]; rw [if_pos (Nat.lt_trans hl (by rw [sizeLine_eq]; decide))]; rfl
theorem v_isL {l : Nat} {xs : List D} (h : S[l]? = some (.lst xs)) : isL S (.ref l) = true := by simp only [isL, lstOf, h]; rfl
theorem for_ok {ks : List (Nat × O)} {xs : List D} (I : Nat → Env → Sto → Prop) (h0 : I 0 env S) (hk : ∀ i env S, I i env S → Kept ks S)
    (hs : ∀ i x env S, xs[i]? = some x → I i env S → Ok (gf x env S) fun e S => Ok (b e S) fun fl S => match fl with
      | .nx e => I (i + 1) e S
      | .ct e => I (i + 1) e S
      | .bk e => P (.nx e) S
      | .rt d => P (.rt d) S) (hd : ∀ env S, I xs.length env S → P (.nx env) S) : Ok (cForL ks gf b xs env S) P := by
  have gen : ∀ (ys : List D) (i : Nat) (env : Env) (S : Sto), xs.drop i = ys → I i env S → i + ys.length = xs.length → Ok (cForL ks gf b ys env S) P := by
    intro ys
    induction ys with
    | nil =>
      intro i env S hx hi hl
      rw [cForL_nil (hk i env S hi)]
      exact hd env S (by rw [← hl]; exact hi)
    | cons y ys ih =>
      intro i env S hx hi hl
      rw [cForL_cons (hk i env S hi), ok_bind]
      have hy : xs[i]? = some y := by
        have : (xs.drop i)[0]? = some y := by rw [hx]; rfl
        rwa [List.getElem?_drop, Nat.add_zero] at this
      have hd2 : xs.drop (i + 1) = ys := by
        rw [← List.drop_drop, hx]; rfl
      refine (hs i y env S hy hi).imp fun e S1 h1 => ?_
      rw [ok_bind]
      refine h1.imp fun fl S2 h2 => ?_
      cases fl with
      | nx e => exact ih (i + 1) e S2 hd2 h2 (by rw [List.length_cons] at hl; omega)
      | ct e => exact ih (i + 1) e S2 hd2 h2 (by rw [List.length_cons] at hl; omega)
      | bk e => exact h2
      | rt d => exact h2
  exact gen xs 0 env S rfl h0 (Nat.zero_add _)
end
structure OnlyB (b : Nat) (S S' : Sto) : Prop where
  le : S.length ≤ S'.length
  eq : ∀ (k : Nat) (o : O), k ≠ b → S[k]? = some o → S'[k]? = some o
structure Grow (S S' : Sto) : Prop where
  le : S.length ≤ S'.length
  eq : ∀ (k : Nat) (o : O), S[k]? = some o → S'[k]? = some o
theorem Grow.refl (S : Sto) : Grow S S := ⟨Nat.le_refl _, fun _ _ h => h⟩
theorem Grow.trans {S1 S2 S3 : Sto} (a : Grow S1 S2) (b : Grow S2 S3) : Grow S1 S3 := ⟨Nat.le_trans a.le b.le, fun k o h => b.eq k o (a.eq k o h)⟩
theorem Grow.snoc {S S' : Sto} {o : O} (a : Grow S S') : Grow S (S' ++ [o]) := a.trans ⟨by simp, fun k o h => by rw [List.getElem?_append_left (List.getElem?_eq_some_iff.mp h).1]; exact h⟩
theorem OnlyB.refl (b : Nat) (S : Sto) : OnlyB b S S := ⟨Nat.le_refl _, fun _ _ _ h => h⟩
theorem OnlyB.trans {b : Nat} {S1 S2 S3 : Sto} (p : OnlyB b S1 S2) (q : OnlyB b S2 S3) : OnlyB b S1 S3 := ⟨Nat.le_trans p.le q.le, fun k o n h => q.eq k o n (p.eq k o n h)⟩
theorem Grow.onlyB {b : Nat} {S S' : Sto} (a : Grow S S') : OnlyB b S S' := ⟨a.le, fun k o _ h => a.eq k o h⟩
theorem OnlyB.snoc {b : Nat} {S S' : Sto} {o : O} (a : OnlyB b S S') : OnlyB b S (S' ++ [o]) := a.trans (Grow.onlyB (Grow.snoc (Grow.refl S')))
theorem OnlyB.put {b : Nat} {S S' : Sto} {o : O} (a : OnlyB b S S') : OnlyB b S (S'.set b o) := ⟨by rw [List.length_set]; exact a.le, fun k u n h => by rw [List.getElem?_set_ne (Ne.symm n)]; exact a.eq k u n h⟩
theorem get_snoc {S : Sto} {k : Nat} {o u : O} (h : S[k]? = some o) : (S ++ [u])[k]? = some o := by rw [List.getElem?_append_left (List.getElem?_eq_some_iff.mp h).1]; exact h
theorem get_last {S : Sto} {u : O} : (S ++ [u])[S.length]? = some u := by rw [List.getElem?_append_right (Nat.le_refl _), Nat.sub_self]; rfl
theorem get_set {S : Sto} {k : Nat} {o u : O} (h : S[k]? = some o) : (S.set k u)[k]? = some u := List.getElem?_set_self (List.getElem?_eq_some_iff.mp h).1
theorem get_set_ne {S : Sto} {k l : Nat} {u : O} (h : k ≠ l) : (S.set k u)[l]? = S[l]? := List.getElem?_set_ne h
def BoxA (S : Sto) (b : Nat) : Prop := ∃ x y : Int, S[b]? = some (.lst [.int x, .int y])
theorem BoxA.snoc {S : Sto} {b : Nat} {o : O} (h : BoxA S b) : BoxA (S ++ [o]) b := let ⟨x, y, e⟩ := h; ⟨x, y, get_snoc e⟩
theorem BoxA.lt {S : Sto} {b : Nat} (h : BoxA S b) : b < S.length := let ⟨_, _, e⟩ := h; (List.getElem?_eq_some_iff.mp e).1
theorem map_toNat_inj : ∀ {a b : List Char}, a.map Char.toNat = b.map Char.toNat → a = b
  | [], [], _ => rfl
  | [], _ :: _, h => by simp at h
  | _ :: _, [], h => by simp at h
  | x :: a, y :: b, h => by
    rw [List.map_cons, List.map_cons, List.cons.injEq] at h
    rw [map_toNat_inj h.2, Char.toNat_inj.mp h.1]
theorem ofString_inj {a b : String} (h : Str.ofString a = Str.ofString b) : a = b := by
  rw [Str.ofString_eq_toList, Str.ofString_eq_toList] at h
  have h1 : (a.toList.map Char.toNat) = (b.toList.map Char.toNat) := by
    have := congrArg (fun s : Str => s.cps.toList) h
    simpa using this
  have h2 := map_toNat_inj h1
  rw [← String.ofList_toList (s := a), ← String.ofList_toList (s := b), h2]
theorem str_lit {a b : String} : (Str.ofString a = Str.ofString b) = (a = b) := propext ⟨ofString_inj, fun h => by rw [h]⟩
end Ab

namespace Ab
open PySem PySem.Spec PyProof.Rows L2
theorem szK {n : Nat} (h : n ≤ 100000) : n ≤ sizeLine := Nat.le_trans h (by rw [sizeLine_eq]; decide)
section
variable {P : Fl → Sto → Prop} {PD : D → Sto → Prop} {PB : Bool → Sto → Prop} {PL : List D → Sto → Prop} {PE : Env → Sto → Prop} {PW : Wk → Sto → Prop} {PU : Unit → Sto → Prop} {env e : Env} {S : Sto} {d : D} {i : Nat} {fa fb fc fo : Env → M D} {ft fu : Env → M Bool} {fs : Env → M (List D)} {gf : D → Env → M Env} {fi : Env → M Wk}
theorem x_join : Ok (cJoin fo fa env S) PD = Ok (fo env S) fun d S => if isStr d = true then Ok (fa env S) fun e S => Ok (joinD d e S) PD else False := by unfold cJoin; rw [ok_bind]; congr 1; funext d S; rw [ok_ite, ok_bind]; rfl
theorem x_get2 : Ok (cGet2 fo fa fb env S) PD = Ok (fo env S) fun d S => if isDc S d = true then Ok (fa env S) fun i S => Ok (fb env S) fun z S => Ok (getD2 d i z S) PD else False := by unfold cGet2; rw [ok_bind]; congr 1; funext d S; rw [ok_ite, ok_bind]; congr 1; congr 1; funext i S; rw [ok_bind]
theorem x_get1 : Ok (cGet1 fo fa env S) PD = Ok (fo env S) fun d S => if isDc S d = true then Ok (fa env S) fun i S => Ok (getD2 d i .non S) PD else False := by unfold cGet1; rw [ok_bind]; congr 1; funext d S; rw [ok_ite, ok_bind]; rfl
theorem x_itK : Ok (cItK fa env S) PW = Ok (fa env S) fun d S => Ok (itK d S) PW := by unfold cItK; rw [ok_bind]
theorem x_dnew : Ok (cDnew env S) PD = PD (.ref S.length) (S ++ [.dct []]) := id rfl
theorem x_aug : Ok (cAug i fa env S) P = (match env[i]? with | some (some (.int n)) => Ok (fa env S) fun d S => ∃ j, d = .int j ∧ P (.nx (env.set i (some (.int (n + j))))) S | _ => False) := by
  unfold cAug
  generalize env[i]? = o
  match o with
  | none => exact id rfl
  | some none => exact id rfl
  | some (some (.int n)) =>
    show Ok ((fa env S).bind _) P = Ok (fa env S) _
    rw [ok_bind]
    congr 1
    funext d S
    cases d with
    | int j => exact propext ⟨fun h => ⟨j, rfl, h⟩, fun ⟨_, e, h⟩ => by cases e; exact h⟩
    | _ => exact propext ⟨fun h => False.elim h, fun ⟨_, e, _⟩ => by cases e⟩
  | some (some .non) => exact id rfl
  | some (some (.bl _)) => exact id rfl
  | some (some (.str _)) => exact id rfl
  | some (some (.ty _)) => exact id rfl
  | some (some (.fn _)) => exact id rfl
  | some (some (.tup _)) => exact id rfl
  | some (some (.ref _)) => exact id rfl
  | some (some (.lro _)) => exact id rfl
  | some (some (.dro _ _)) => exact id rfl
  | some (some (.drt _ _)) => exact id rfl
  | some (some (.df _)) => exact id rfl
theorem x_disp {ps : List ((Env → M D) × (Env → M D))} : Ok (cDisp ps env S) PD = Ok (pairsD ps env (S ++ [.dct []])) fun kvs S2 => (match S2[S.length]? with
  | some (.dct []) => if kvs.length ≤ 15 then PD (.ref S.length) (S2.set S.length (.dct (mergeD [] kvs))) else False
  | _ => False) := by
  unfold cDisp
  rw [ok_bind]
  congr 1
  funext kvs S2
  generalize S2[S.length]? = o
  match o with
  | none => exact id rfl
  | some (.lst _) => exact id rfl
  | some (.dfz _) => exact id rfl
  | some (.exc _) => exact id rfl
  | some .set0 => exact id rfl
  | some (.dcd _) => exact id rfl
  | some (.ins _ _) => exact id rfl
  | some (.dct []) => show Ok (if _ then _ else _) PD = _; rw [ok_ite]; rfl
  | some (.dct (_ :: _)) => exact id rfl
theorem x_pnil {PP : List (Key × D) → Sto → Prop} : Ok (pairsD [] env S) PP = PP [] S := id rfl
theorem x_pcons {p : (Env → M D) × (Env → M D)} {ps : List ((Env → M D) × (Env → M D))} {PP : List (Key × D) → Sto → Prop} : Ok (pairsD (p :: ps) env S) PP = Ok (p.1 env S) fun k S => Ok (p.2 env S) fun v S => Ok (pairsD ps env S) fun kvs S => (match keyK k with | some kk => PP ((kk, v) :: kvs) S | none => False) := by
  rw [pairsD, ok_bind]
  congr 1
  funext k S
  rw [ok_bind]
  congr 1
  funext v S
  rw [ok_bind]
  congr 1
  funext kvs S
  cases keyK k <;> rfl
theorem keyK_s {x : Str} : keyK (.str x) = some (.inr x) := id rfl
theorem keyK_i {x : Int} : keyK (.int x) = some (.inl x) := id rfl
theorem v_addT {x y : List D} (h : x.length + y.length ≤ 100000) : Ok (opAdd (.tup x) (.tup y) S) PD = PD (.tup (x ++ y)) S := by
  simp only [opAdd]; rw [if_pos (szK h)]; rfl
theorem v_mulS1 {x : Str} : Ok (opMul (.str x) (.int 1) S) PD = PD (.str x) S := id rfl
theorem v_mulS0 {x : Str} : Ok (opMul (.str x) (.int 0) S) PD = PD (.str Str.empty) S := id rfl
theorem v_listT {xs : List D} : Ok (listD [.tup xs] S) PD = PD (.ref S.length) (S ++ [.lst xs]) := id rfl
theorem v_tupL {l : Nat} {xs : List D} (h : S[l]? = some (.lst xs)) : Ok (tupleD [.ref l] S) PD = PD (.tup xs) S := by simp only [tupleD, lstOf, h]; rfl
theorem v_tupT {xs : List D} : Ok (tupleD [.tup xs] S) PD = PD (.tup xs) S := id rfl
theorem flat_strD : ∀ xs : List Str, (xs.map D.str).all flatD = true
  | [] => rfl
  | _ :: r => by rw [List.map_cons, List.all_cons, flat_strD r]; rfl
theorem any_strD {x : Str} : ∀ {xs : List Str}, ((xs.map D.str).any fun y => eqF y (.str x)) = decide (x ∈ xs)
  | [] => rfl
  | y :: r => by
    rw [List.map_cons, List.any_cons, any_strD (xs := r)]
    by_cases e : y = x
    · subst e; simp [eqF]
    · have e' : ¬ x = y := fun z => e z.symm
      simp [eqF, e, e']
theorem v_inT {x : Str} {xs : List Str} : Ok (opIn (.str x) (.tup (xs.map .str)) S) PD = PD (.bl (decide (x ∈ xs))) S := by
  simp only [opIn, inB]
  rw [if_pos ⟨rfl, flat_strD xs⟩, any_strD]; rfl
theorem v_notInT {x : Str} {xs : List Str} : Ok (opNotIn (.str x) (.tup (xs.map .str)) S) PD = PD (.bl (!decide (x ∈ xs))) S := by
  simp only [opNotIn, inB]
  rw [if_pos ⟨rfl, flat_strD xs⟩, any_strD]; rfl
theorem v_ixDc {l : Nat} {kvs : List (Key × D)} {x : Str} (h : S[l]? = some (.dct kvs)) : Ok (ixD (.ref l) (.str x) S) PD = (match valD kvs (.inr x) with | some d => PD d S | none => False) := by
  simp only [ixD, ixDct, h, keyK, ofO_some, R.bind_ok]
  cases valD kvs (.inr x) <;> rfl
theorem v_ixDr {ks vs : List D} {x : Str} : Ok (ixD (.dro ks vs) (.str x) S) PD = (match lookD ks vs (.inr x) with | some d => PD d S | none => False) := by
  simp only [ixD, ixKd, keyK, ofO_some, R.bind_ok]
  cases lookD ks vs (.inr x) <;> rfl
theorem v_zipT {xs ys : List D} : Ok (zip2 [.tup xs, .tup ys] S) PW = PW ⟨zipD xs ys, []⟩ S := id rfl
theorem v_appAt {l : Nat} {xs : List D} (h : S[l]? = some (.lst xs)) (hl : xs.length < 100000) : Ok (appAt l d S) PU = PU () (S.set l (.lst (xs ++ [d]))) := by
  simp only [appAt, h]; rw [if_pos (Nat.lt_of_lt_of_le hl (szK (Nat.le_refl _)))]; rfl
theorem v_nonI {n : Int} : Ok (opEq .non (.int n) S) PD = PD (.bl false) S := id rfl
theorem lc_ok {ks : List (Nat × O)} {fe : Env → M D} {L : Nat} {xs : List D} (I : Nat → Sto → Prop) (h0 : I 0 S) (hk : ∀ i S, I i S → Kept ks S)
    (hs : ∀ i x S, xs[i]? = some x → I i S → Ok (gf x env S) fun e S => Ok (ft e S) fun b S => if b = true then Ok (fe e S) fun y S => Ok (appAt L y S) fun _ S => I (i + 1) S else I (i + 1) S)
    (hd : ∀ S, I xs.length S → PU () S) : Ok (lcL ks gf ft fe env L xs S) PU := by
  have gen : ∀ (ys : List D) (i : Nat) (S : Sto), xs.drop i = ys → I i S → i + ys.length = xs.length → Ok (lcL ks gf ft fe env L ys S) PU := by
    intro ys
    induction ys with
    | nil =>
      intro i S hx hi hl
      rw [lcL_nil (hk i S hi)]
      exact hd S (by rw [← hl]; exact hi)
    | cons y ys ih =>
      intro i S hx hi hl
      rw [lcL_cons (hk i S hi), ok_bind]
      have hy : xs[i]? = some y := by
        have : (xs.drop i)[0]? = some y := by rw [hx]; rfl
        rwa [List.getElem?_drop, Nat.add_zero] at this
      have hd2 : xs.drop (i + 1) = ys := by rw [← List.drop_drop, hx]; rfl
      have next : ∀ S, I (i + 1) S → Ok (lcL ks gf ft fe env L ys S) PU := fun S h => ih (i + 1) S hd2 h (by rw [List.length_cons] at hl; omega)
      refine (hs i y S hy hi).imp fun e S1 h1 => ?_
      rw [ok_bind]
      refine h1.imp fun b S2 h2 => ?_
      cases b with
      | false => rw [if_neg Bool.false_ne_true] at h2 ⊢; exact next S2 h2
      | true =>
        rw [if_pos rfl] at h2 ⊢
        rw [ok_bind]
        refine h2.imp fun z S3 h3 => ?_
        rw [ok_bind]
        exact h3.imp fun _ S4 h4 => next S4 h4
  exact gen xs 0 S rfl h0 (Nat.zero_add _)
end
theorem OnlyB.putN {b k : Nat} {S S' : Sto} {o : O} (a : OnlyB b S S') (h : S.length ≤ k) : OnlyB b S (S'.set k o) := ⟨by rw [List.length_set]; exact a.le, fun j u n hj => by
  have : j < S.length := (List.getElem?_eq_some_iff.mp hj).1
  rw [List.getElem?_set_ne (by omega)]; exact a.eq j u n hj⟩
theorem BoxA.putNe {b k : Nat} {S : Sto} {o : O} (h : BoxA S b) (hk : k ≠ b) : BoxA (S.set k o) b := let ⟨x, y, e⟩ := h; ⟨x, y, by rw [get_set_ne hk]; exact e⟩
theorem intsD_get {lo : Int} {n i : Nat} {x : D} (h : (intsD lo n)[i]? = some x) : x = .int (lo + i) ∧ i < n := by
  have hi : i < n := by
    have := (List.getElem?_eq_some_iff.mp h).1
    simpa [intsD] using this
  rw [intsD, List.getElem?_map, List.getElem?_range hi] at h
  exact ⟨(Option.some.inj h).symm, hi⟩
theorem intsD_len (lo : Int) (n : Nat) : (intsD lo n).length = n := by simp [intsD]
theorem in62_iff {i : Int} : in62 i = true ↔ -(2 ^ 62) ≤ i ∧ i < 2 ^ 62 := by simp [in62]
end Ab

namespace Ab
open PySem PySem.Spec PyProof.Rows L2
section
variable {P : Fl → Sto → Prop} {PD : D → Sto → Prop} {PB : Bool → Sto → Prop} {PL : List D → Sto → Prop} {PE : Env → Sto → Prop} {PW : Wk → Sto → Prop} {PU : Unit → Sto → Prop} {env e : Env} {S : Sto} {d : D} {i : Nat}
theorem v_enuL2 {k : Nat} {xs : List D} (h1 : S[k]? = some (.lst xs)) : Ok (enu2 [.ref k] S) PW = PW ⟨enumD 0 xs, [(k, .lst xs)]⟩ S := by rw [v_enu2L h1]; rfl
end
end Ab

namespace Ab
open PySem PySem.Spec PyProof.Rows L2
def OkX {α : Type} (r : R α) (P : α → Sto → Prop) (E : D → Sto → Prop) : Prop := match r with
  | .ok a S => P a S
  | .ex x S => E x S
  | .no => False
theorem Ok.x {α : Type} {r : R α} {P : α → Sto → Prop} {E : D → Sto → Prop} (h : Ok r P) : OkX r P E := by
  cases r with
  | ok a S => exact h
  | ex x S => exact h.elim
  | no => exact h
end Ab

namespace Ab
open PySem PySem.Spec PyProof.Rows L2
def putA (f : Str) (d : D) : List (Str × D) → List (Str × D)
  | [] => [(f, d)]
  | (g, x) :: r => if g = f then (g, d) :: r else (g, x) :: putA f d r
section
variable {g : Gd} {m : List Addr} {S : Sto} {H : Hp}
theorem RF.length : ∀ {fs : List (Str × D)} {vs : List (Str × V)}, RF g m H fs vs → fs.length = vs.length
  | _, _, .nil => rfl
  | _, _, .cons _ t => by rw [List.length_cons, List.length_cons, RF.length t]
theorem RF.look {f : Str} {d : D} : ∀ {fs : List (Str × D)} {vs : List (Str × V)}, RF g m H fs vs → fs.lookup f = some d → ∃ v, vs.lookup f = some v ∧ RD g m H d v
  | _, _, .nil, h => by cases h
  | (n, x) :: fs, (n', v) :: vs, .cons a t, h => by
    obtain ⟨a1, a2⟩ := a
    have a1 : n = n' := a1
    subst a1
    rw [List.lookup_cons] at h ⊢
    cases e : (f == n) with
    | true => rw [e] at h; cases h; exact ⟨v, rfl, a2⟩
    | false => rw [e] at h; exact RF.look t h
theorem RF.look0 {f : Str} : ∀ {fs : List (Str × D)} {vs : List (Str × V)}, RF g m H fs vs → fs.lookup f = none → vs.lookup f = none
  | _, _, .nil, _ => rfl
  | (n, x) :: fs, (n', v) :: vs, .cons a t, h => by
    obtain ⟨a1, a2⟩ := a
    have a1 : n = n' := a1
    subst a1
    rw [List.lookup_cons] at h ⊢
    cases e : (f == n) with
    | true => rw [e] at h; cases h
    | false => rw [e] at h; exact RF.look0 t h
theorem RF.put {f : Str} {d : D} {v : V} (r : RD g m H d v) : ∀ {fs : List (Str × D)} {vs : List (Str × V)}, RF g m H fs vs → RF g m H (putA f d fs) (putF f v vs)
  | _, _, .nil => .cons ⟨rfl, r⟩ .nil
  | (n, x) :: fs, (n', y) :: vs, .cons a t => by
    obtain ⟨a1, a2⟩ := a
    have a1 : n = n' := a1
    subst a1
    show RF g m H (if n = f then (n, d) :: fs else (n, x) :: putA f d fs) (if n = f then (n, v) :: vs else (n, y) :: putF f v vs)
    by_cases e : n = f
    · rw [if_pos e, if_pos e]; exact .cons ⟨rfl, r⟩ t
    · rw [if_neg e, if_neg e]; exact .cons ⟨rfl, a2⟩ (RF.put r t)
theorem Sim.inst (s : Sim g m S H) {k : Nat} {i : Str} {fs : List (Str × D)} (h : S[k]? = some (.ins i fs)) : ∃ a C dx vs, m[k]? = some a ∧ PySem.W.nsIn g.K mainGlobals i = some (some (.ref C)) ∧ H a = some (.ins C dx vs) ∧ RF g m H fs vs := by
  obtain ⟨a, ha, C, dx, vs, h1, h2, h3⟩ := s.addr h
  exact ⟨a, C, dx, vs, ha, h1, h2, h3⟩
theorem nfI {a C dx : Addr} {vs : List (Str × V)} (h : H a = some (.ins C dx vs)) : Nf H a := ⟨fun o u z => (by rw [h] at z; cases z), fun ps z => (by rw [h] at z; cases z)⟩
end
section
variable {g : Gd} {X : Cx} {a b e o : Expr} {es : List Expr} {f fa fv fo : Env → M D} {fs : Env → M (List D)} {pos apos cpos p pos' : Pos} {x fn : Str} {C : Addr}
structure FA (g : Gd) (i : Str) (fn : Str) (C : Addr) : Prop where
  at_ : PySem.W.nsIn g.K mainGlobals i = some (some (.ref C))
  cls : Cls g.K C
  no : NoAttr g.K C fn
def fldD (i : Str) (fn : Str) : D → M D := fun d S => match d with
  | .ref k => match S[k]? with
    | some (.ins j fs) => if j = i then ofO S (fs.lookup fn) else .no
    | _ => .no
  | _ => .no
theorem e_fld (i : Str) (F : FA g i fn C) (ha : EJ g X a fa) (hK : g.K = X.K := by rfl) (hb : attributeBase a fn X.env (eval a X.env) = eval a X.env := by rfl) : EJ g X (.Attribute a fn pos) (cUn (fldD i fn) fa) := ⟨PE.imp (pe_fld ha.un hb) fun σ H Q ⟨m, env, S, r, s, o⟩ =>
  ⟨m, env, S, r, s, (Out.bind o).imp fun d S1 m1 H1 x1 s1 o1 v hv => by
    unfold fldD at o1
    split at o1
    · rename_i k
      split at o1
      · rename_i j fs hk
        split at o1
        · rename_i hj
          subst hj
          obtain ⟨a', C', dx, vs, h1, h2, h3, h4⟩ := s1.inst hk
          obtain ⟨a2, rfl, h5⟩ := hv.ref_inv
          rw [h1] at h5
          cases h5
          rw [F.at_] at h2
          cases h2
          cases hl : fs.lookup fn with
          | none => rw [hl] at o1; exact o1.elim
          | some d =>
            rw [hl] at o1
            obtain ⟨w, hw, rw_⟩ := h4.look hl
            exact ⟨_, C, dx, vs, w, rfl, h3, hK ▸ F.cls, hK ▸ F.no, hw, Out.ok s1 o1 _ rw_⟩
        · exact o1.elim
      · exact o1.elim
    · exact o1.elim⟩⟩
def cSetF (i : Str) (fn : Str) (fo fv : Env → M D) : Env → M Fl := fun env S => (fv env S).bind fun d S => (fo env S).bind fun o S => match o with
  | .ref k => match S[k]? with
    | some (.ins j fs) => if j = i ∧ fs.length < 1000 then .ok (.nx env) (S.set k (.ins j (putA fn d fs))) else .no
    | _ => .no
  | _ => .no
theorem s_setF (i : Str) (F : FA g i fn C) (ho : EJ g X o fo) (hv : EJ g X e fv) (hK : g.K = X.K := by rfl) (hs : swapsWith e (some (.Attribute o fn pos')) pos.line X.env = pure false := by rfl) : SJ g X (.Assign [.Attribute o fn pos'] e pos) (cSetF i fn fo fv) := ⟨PS.imp (ps_fld ho.un hv.un hs) fun E σ H ⟨m, env, S, r, s, o⟩ =>
  ⟨m, env, S, r, s, (Out.bind o).imp fun d S1 m1 H1 x1 s1 o1 y hy => ⟨m1, env, S1, r.mono x1, s1, (Out.bind o1).imp fun q S2 m2 H2 x2 s2 o2 z hz => by
    split at o2
    · rename_i k
      split at o2
      · rename_i j fs hk
        split at o2
        · rename_i hj
          obtain ⟨hj, hlen⟩ := hj
          subst hj
          obtain ⟨a', C', dx, vs, h1, h2, h3, h4⟩ := s2.inst hk
          obtain ⟨a2, rfl, h5⟩ := hz.ref_inv
          rw [h1] at h5
          cases h5
          rw [F.at_] at h2
          cases h2
          refine ⟨_, C, dx, vs, rfl, h3, hK ▸ F.cls, hK ▸ F.no, by rw [← h4.length]; exact hlen, ?_⟩
          have ex : Ext m2 H2 m2 (upd H2 a' (.ins C dx (putF fn y vs))) := ext_put (List.mem_of_getElem? h1) (nfI h3)
          have sm : Sim g m2 (S2.set k (.ins j (putA fn d fs))) (upd H2 a' (.ins C dx (putF fn y vs))) := s2.put h1 (nfI h3) ⟨C, dx, _, F.at_, upd_same, (RF.put (hy.mono x2) h4).mono ex⟩
          exact o2 _ _ ex sm σ ((r.mono x1).mono x2 |>.mono ex)
        · exact o2.elim
      · exact o2.elim
    · exact o2.elim⟩⟩⟩
def DM (g : Gd) (mg : Str → Option Value) (base : Heap) (j : Nat) (f : Addr) (ps : List Str) (k : List D → M D) : Prop :=
  (∃ fd : FuncData, FnOk g.P g.w g.K mg base CX0 j f fd ps (spD g ps.length k) ∧ Binds g.K fd ps []) ∧ ∀ ds S, ds.length ≠ ps.length → k ds S = .no
theorem dm_def {mg : Str → Option Value} {base : Heap} {s : Stmt} {N ps : List Str} {k : Nat} {nm qual : Str} {f : Addr} {fd : FuncData} {f1 : Env → M Fl} (F : Fun g.K nm qual s f fd) (b : Binds g.K fd ps []) (S : FnScope N ps (defScope s)) (hle : ps.length ≤ N.length := by decide)
    (hb : ∀ (cdv : Value) (A : Around) (outer : List PySem.Env) (s0 : Shared) (H : Hp) (E : XK), Room k (A.deeper (envOfC qual (defScope s) s0.heap.objs.size f cdv)) → BJ g (cxOf CX0 g.P g.w g.K mg base N qual (defScope s) f cdv A outer s0 H E).nox (defBody s) f1) :
    DM g mg base (k + 1) f ps (cDef N.length ps.length f1) := by
  refine ⟨⟨fd, F.ok S (fun vs H Q E h => h.1) fun cdv A outer s0 H vs Q E hr hsp => ⟨_, (hb cdv A outer s0 H E hr).un, ?_⟩, b⟩, fun ds S0 h => by unfold cDef; rw [if_neg h]⟩
  obtain ⟨hl, m, S0, ds, sm, r, o⟩ := hsp
  have hd := r.length
  have o1 : Out g (cxOf CX0 g.P g.w g.K mg base N qual (defScope s) f cdv A outer s0 H E).nox m H _ (VQ g Q) := o.of
  unfold cDef at o1
  rw [if_pos (by omega)] at o1
  refine ⟨m, startD N.length ds, S0, rel_start r (by omega), sm, (Out.bind o1).imp fun fl S1 m1 H1 x1 s1 o2 => ?_⟩
  cases fl with
  | nx e => exact fun σ' _ => Out.ok s1 o2 _ .non
  | rt d => exact fun v hv => Out.ok s1 o2 v hv
  | bk e => exact False.elim o2
  | ct e => exact False.elim o2
structure MA (g : Gd) (i : Str) (mn : Str) (C f : Addr) : Prop where
  at_ : PySem.W.nsIn g.K mainGlobals i = some (some (.ref C))
  cls : Cls g.K C
  meth : Meth g.K C mn f
def cMeth (i : Str) (mn : Str) (k : List D → M D) (fo : Env → M D) (fs : Env → M (List D)) : Env → M D := fun env S => (fo env S).bind fun o S => match o with
  | .ref r => match S[r]? with
    | some (.ins j as) => if j = i ∧ as.lookup mn = none then (fs env S).bind fun ds S => k (.ref r :: ds) S else .no
    | _ => .no
  | _ => .no
theorem meth_of {ps : List Str} {k : List D → M D} {i : Str} {mn : Str} {f : Addr} (A : MA g i mn C f) (hD : ∀ ds S, ds.length ≠ ps.length → k ds S = .no) {ta : TE} {t : TA} {σ : L2.St} {H : Hp} {Q : VK} (q : tE g X (cMeth i mn k fo fs) σ H Q)
    (h1 : ∀ H Q, tE g X fo σ H Q → ta σ H Q) (h2 : ∀ H Q, tA g X fs σ H Q → t σ H Q) : tMeth C mn (spD g ps.length k) [] E0 ta t σ H Q := by
  obtain ⟨m, env, S, r, s, o⟩ := q
  refine h1 _ _ ⟨m, env, S, r, s, (Out.bind o).imp fun d S1 m1 H1 x1 s1 o1 v hv => ?_⟩
  split at o1
  · rename_i q
    split at o1
    · rename_i j as hk
      split at o1
      · rename_i hj
        obtain ⟨hj, hlk⟩ := hj
        subst hj
        obtain ⟨a', C', dx, vs, e1, e2, e3, e4⟩ := s1.inst hk
        obtain ⟨a2, rfl, e5⟩ := hv.ref_inv
        rw [e1] at e5
        cases e5
        rw [A.at_] at e2
        cases e2
        refine ⟨_, dx, vs, rfl, e3, e4.look0 hlk, h2 _ _ ⟨m1, env, S1, r.mono x1, s1, (Out.bind o1).imp fun ds S2 m2 H2 x2 s2 o2 ws hws => ?_⟩⟩
        have hcons : RDs g m2 H2 (.ref q :: ds) (.ref a' :: ws) := .cons (.ref (x2.get e1)) hws
        show spD g ps.length k (.ref a' :: (ws ++ [])) H2 Q E0
        rw [List.append_nil]
        by_cases hl : (D.ref q :: ds).length = ps.length
        · exact ⟨by rw [← hcons.length, hl], m2, S2, _, s2, hcons, o2.to0⟩
        · rw [hD _ _ hl] at o2; exact o2.elim
      · exact o1.elim
    · exact o1.elim
  · exact o1.elim
theorem e_meth {i : Str} {j l : Nat} {mn : Str} {f : Addr} {ps : List Str} {k : List D → M D} {pl : Sem Bool} (D : DM g X.mg X.base j f ps k) (A : MA g i mn C f) (hr : Room l X.A) (hjl : j ≤ l) (ho : EJ g X o fo) (ha : AJ g X (e :: es) fs) (hP : g.P = X.prog := by rfl) (hw : g.w = X.w := by rfl) (hK : g.K = X.K := by rfl)
    (hst : starEach (e :: es) X.env = (false, eval e X.env) :: starEach es X.env := by kernel_rfl) (hpl : (backTo pos (starEach es X.env)).any (·.1) = false := by kernel_rfl)
    (ht : eval (.Call (.Attribute o mn apos) (e :: es) [] pos) X.env = (do
      let ov ← eval o X.env
      standAt apos.atName
      let (f, first) ← holding [ov] (getMethod ov mn pl)
      callWith pos f first (backTo pos (starEach (e :: es) X.env)) (backToKw pos (keywordEach [] X.env))) := by rfl) :
    EJ g X (.Call (.Attribute o mn apos) (e :: es) [] pos) (cMeth i mn k fo fs) := by
  obtain ⟨gP, gw, gK, gfa⟩ := g
  subst hP hw hK
  obtain ⟨⟨fd, F, b⟩, hD⟩ := D
  exact ⟨PE.imp (pe_meth ho.un A.cls A.meth F (hr.mono hjl) b .nil pass0 ha.un hst hpl ht) fun σ H Q q => meth_of A hD q (fun _ _ z => z) (fun _ _ z => z)⟩
theorem e_meth0 {i : Str} {j l : Nat} {mn : Str} {f : Addr} {ps : List Str} {k : List D → M D} {pl : Sem Bool} (D : DM g X.mg X.base j f ps k) (A : MA g i mn C f) (hr : Room l X.A) (hjl : j ≤ l) (ho : EJ g X o fo) (hP : g.P = X.prog := by rfl) (hw : g.w = X.w := by rfl) (hK : g.K = X.K := by rfl)
    (ht : eval (.Call (.Attribute o mn apos) [] [] pos) X.env = (do
      let ov ← eval o X.env
      standAt apos.atName
      let (f, first) ← holding [ov] (getMethod ov mn pl)
      callWith pos f first (backTo pos (starEach [] X.env)) (backToKw pos (keywordEach [] X.env))) := by rfl) :
    EJ g X (.Call (.Attribute o mn apos) [] [] pos) (cMeth i mn k fo cNil) := by
  obtain ⟨gP, gw, gK, gfa⟩ := g
  subst hP hw hK
  obtain ⟨⟨fd, F, b⟩, hD⟩ := D
  refine ⟨PE.imp (pe_meth0 ho.un A.cls A.meth F (hr.mono hjl) b .nil pass0 ht) fun σ H Q q => meth_of A hD q (fun _ _ z => z) (fun H1 Q1 ⟨m, env, S, r, s, o⟩ => ?_)⟩
  exact Out.ok s o [] .nil
def cMake (i : Str) (k : List D → M D) (fs : Env → M (List D)) : Env → M D := fun env S => (fs env S).bind fun ds S => (k (.ref S.length :: ds) (S ++ [.ins i []])).bind fun d S' => match d with
  | .non => .ok (.ref S.length) S'
  | _ => .no
structure MkA (g : Gd) (i : Str) (C f : Addr) : Prop where
  at_ : PySem.W.nsIn g.K mainGlobals i = some (some (.ref C))
  mk_ : Mk g.K C f
theorem make_of {ps : List Str} {k : List D → M D} {i : Str} {f : Addr} (A : MkA g i C f) (hD : ∀ ds S, ds.length ≠ ps.length → k ds S = .no) {t : TA} {σ : L2.St} {H : Hp} {Q : VK} (q : tE g X (cMake i k fs) σ H Q)
    (h2 : ∀ H Q, tA g X fs σ H Q → t σ H Q) : tMake C (spD g ps.length k) [] E0 t σ H Q := by
  obtain ⟨m, env, S, r, s, o⟩ := q
  refine h2 _ _ ⟨m, env, S, r, s, (Out.bind o).imp fun ds S1 m1 H1 x1 s1 o1 ws hws => ?_⟩
  intro x dx hx hdx hne
  show spD g ps.length k (.ref x :: (ws ++ [])) (upd (upd H1 dx (.own x)) x (.ins C dx [])) (fun v H2 => v = .non ∧ Q (.ref x) H2) E0
  rw [List.append_nil]
  have hx2 : (upd H1 dx (.own x)) x = none := by rw [upd_ne (Ne.symm hne)]; exact hx
  have e1 : Ext m1 H1 m1 (upd H1 dx (.own x)) := ext_upd_new hdx
  have sA := s1.aside (o := .own x) hdx
  have e2 : Ext m1 (upd H1 dx (.own x)) (m1 ++ [x]) (upd (upd H1 dx (.own x)) x (.ins C dx [])) := ext_snoc sA hx2
  have sB : Sim g (m1 ++ [x]) (S1 ++ [.ins i []]) (upd (upd H1 dx (.own x)) x (.ins C dx [])) := sA.snoc hx2 ⟨C, dx, [], A.at_, upd_same, .nil⟩
  have hcons : RDs g (m1 ++ [x]) (upd (upd H1 dx (.own x)) x (.ins C dx [])) (.ref S1.length :: ds) (.ref x :: ws) := .cons (rd_new s1) ((hws.mono e1).mono e2)
  have o2 := Out.mono (e1.trans e2) o1
  by_cases hl : (D.ref S1.length :: ds).length = ps.length
  · refine ⟨by rw [← hcons.length, hl], _, _, _, sB, hcons, ((Out.bind o2).imp fun d S3 m3 H3 x3 s3 o3 v hv => ?_).to0⟩
    split at o3
    · refine ⟨hv.non_inv, Out.ok s3 o3 _ ?_⟩
      exact (rd_new s1 (H' := upd (upd H1 dx (.own x)) x (.ins C dx []))).mono x3
    · exact o3.elim
  · rw [hD _ _ hl] at o2; exact o2.elim
theorem e_makeI {i : Str} {j l : Nat} {f : Addr} {ps : List Str} {k : List D → M D} (D : DM g X.mg X.base j f ps k) (A : MkA g i C f) (hm : X.mg x = some (.ref C)) (hr : Room (l + 1) X.A) (hjl : j ≤ l) (ha : AJ g X (e :: es) fs) (hP : g.P = X.prog := by rfl) (hw : g.w = X.w := by rfl) (hK : g.K = X.K := by rfl)
    (hg : X.env.kindOf x = some .globalImplicit := by kernel_rfl) (hdb : (x == ("__debug__" : Str)) = false := by kernel_rfl)
    (he : starEach (e :: es) X.env = (false, eval e X.env) :: starEach es X.env := by kernel_rfl) (hpl : (backTo pos (starEach es X.env)).any (·.1) = false := by kernel_rfl) :
    EJ g X (.Call (.Name x p) (e :: es) [] pos) (cMake i k fs) := by
  obtain ⟨gP, gw, gK, gfa⟩ := g
  subst hP hw hK
  obtain ⟨⟨fd, F, b⟩, hD⟩ := D
  exact ⟨PE.imp (pe_make A.mk_ (F.mono hjl) hr hg hm b .nil pass0 ha.un hdb he hpl) fun σ H Q q => make_of A hD q (fun _ _ z => z)⟩
end
end Ab

namespace Ab
open PySem PySem.Spec PyProof.Rows L2
def reprD : List D → M D := fun ds S => match ds with
  | [.tup xs] => match pyP (.tup xs) with
    | some p => if p.showable = true ∧ p.hasDict = false ∧ p.shown.length ≤ sizeLine ∧ p.depth ≤ 1000 then .ok (.str p.shown) S else .no
    | none => .no
  | _ => .no
section
variable {g : Gd} {X : Cx} {k : Nat}
theorem b_repr (hr : Room k X.A) (hK : g.K = X.K := by rfl) : CallR X (.builtin "repr") (rCb g X reprD) := by
  intro pins s σ H xs us Q I rx ⟨m, S, ds, sm, hx, o⟩
  unfold reprD at o
  split at o
  · rename_i ys
    split at o
    · rename_i pd hp
      split at o
      · rename_i hc
        obtain ⟨c1, c2, c3, c4⟩ := hc
        cases hx with
        | cons h1 h2 =>
          cases h2
          obtain ⟨u, rfl, ru⟩ := vals1 rx
          have dp := pyP_dp hp h1
          rw [hK] at dp
          obtain ⟨as, rd⟩ := Dp.reads I pd _ u dp ru
          obtain ⟨a, vs, rfl, _, _⟩ := h1.tup_inv
          cases ru
          have un := hr.un
          refine repr_of_reads' rd c1 (fun z => by rw [c2] at z; cases z) hr.gd (by omega) (fun _ _ e => e) (fun h' v tk hk => ?_) c3
          exact ⟨.str pd.shown, H, I.kept (t' := tk) hk, ⟨_, rfl⟩, Out.ok sm o _ (.str _)⟩
      · exact o.elim
    · exact o.elim
  · exact o.elim
end
end Ab

namespace Ab
open PySem PySem.Spec PyProof.Rows L2
noncomputable instance decD : DecidableEq D := fun _ _ => Classical.propDecidable _
def keyP (d : D) : Option PyData := match pyP d with
  | some p => if Dk.keyOk p = true then some p else none
  | none => none
theorem keyP_inv {d : D} {p : PyData} (h : keyP d = some p) : pyP d = some p ∧ Dk.keyOk p = true := by
  unfold keyP at h
  split at h
  · rename_i q hq
    split at h
    · rename_i hk; cases h; exact ⟨hq, hk⟩
    · cases h
  · cases h
mutual
theorem pyP_inj : ∀ (p : PyData) (d e : D), Dk.shp p = true → pyP d = some p → pyP e = some p → d = e
  | .none, d, e, _, h1, h2 => by
    cases d <;> simp [pyP] at h1 <;> cases e <;> simp [pyP] at h2 <;> rfl
  | .int i, d, e, _, h1, h2 => by
    cases d <;> simp [pyP] at h1 <;> cases e <;> simp [pyP] at h2 <;> simp_all
  | .str x, d, e, _, h1, h2 => by
    cases d <;> simp [pyP] at h1 <;> cases e <;> simp [pyP] at h2 <;> simp_all
  | .tuple xs, d, e, h, h1, h2 => by
    cases d <;> simp [pyP] at h1
    cases e <;> simp [pyP] at h2
    rw [pysP_inj xs _ _ (by simpa [Dk.shp] using h) h1 h2]
  | .bool _, _, _, h, _, _ => by simp [Dk.shp] at h
  | .list _, _, _, h, _, _ => by simp [Dk.shp] at h
  | .dict _, _, _, h, _, _ => by simp [Dk.shp] at h
theorem pysP_inj : ∀ (ps : List PyData) (ds es : List D), Dk.shps ps = true → pyPs ds = some ps → pyPs es = some ps → ds = es
  | [], ds, es, _, h1, h2 => by
    have e1 : ds = [] := by
      cases ds with
      | nil => rfl
      | cons d ds => simp only [pyPs] at h1; split at h1 <;> simp at h1
    have e2 : es = [] := by
      cases es with
      | nil => rfl
      | cons d ds => simp only [pyPs] at h2; split at h2 <;> simp at h2
    rw [e1, e2]
  | p :: ps, ds, es, h, h1, h2 => by
    have h' : Dk.shp p = true ∧ Dk.shps ps = true := by simpa [Dk.shps] using h
    cases ds with
    | nil => simp [pyPs] at h1
    | cons d ds =>
      cases es with
      | nil => simp [pyPs] at h2
      | cons e es =>
        simp only [pyPs] at h1 h2
        split at h1
        · rename_i a1 b1 z1 z2
          split at h2
          · rename_i a2 b2 z3 z4
            simp only [Option.some.injEq, List.cons.injEq] at h1 h2
            obtain ⟨rfl, rfl⟩ := h1
            obtain ⟨rfl, rfl⟩ := h2
            rw [pyP_inj _ d e h'.1 z1 z3, pysP_inj _ ds es h'.2 z2 z4]
          · cases h2
        · cases h1
end
noncomputable def valT : List (D × D) → D → Option D
  | [], _ => none
  | (k, v) :: r, d => if k = d then some v else valT r d
section
variable {g : Gd} {X : Cx} {m : List Addr} {H : Hp} {S : Sto}
def Tri (g : Gd) (m : List Addr) (H : Hp) (kvs : List (D × D)) (us : List (PyData × Addr × Value)) : Prop :=
  Paired (fun (p : D × D) (u : PyData × Addr × Value) => pyP p.1 = some u.1 ∧ Dk.keyOk u.1 = true ∧ RD g m H p.1 (.ref u.2.1) ∧ ∃ v, RD g m H p.2 v ∧ RelV v u.2.2) kvs us
theorem key_same {d e : D} {p q : PyData} (h1 : pyP d = some p) (h2 : pyP e = some q) (hk : Dk.keyOk p = true) : (d = e) = (p = q) := by
  refine propext ⟨fun z => ?_, fun z => ?_⟩
  · subst z; rw [h1] at h2; exact Option.some.inj h2
  · subst z; exact pyP_inj p d e (Dk.keyOk_shp hk).1 h1 h2
theorem tri_val {d : D} {p : PyData} (hp : pyP d = some p) : ∀ {kvs : List (D × D)} {us : List (PyData × Addr × Value)}, Tri g m H kvs us →
    (∀ v, valT kvs d = some v → ∃ q w, atKey us p = some q ∧ RD g m H v w ∧ RelV w q.2) ∧ (valT kvs d = none → atKey us p = none)
  | _, _, .nil => ⟨fun _ h => (by simp [valT] at h), fun _ => rfl⟩
  | _, _, .cons (a := a) (b := u) (l₁ := kvs) (l₂ := us) z t => by
    obtain ⟨h1, h2, h3, w, h4, h5⟩ := z
    obtain ⟨i1, i2⟩ := tri_val hp t
    obtain ⟨k, v0⟩ := a
    have e := key_same h1 hp h2
    unfold valT atKey
    rw [List.find?_cons]
    by_cases c : k = d
    · have c' : u.1 = p := e ▸ c
      rw [if_pos c, decide_eq_true c']
      exact ⟨fun v hv => ⟨u.2, w, rfl, by cases hv; exact h4, h5⟩, fun hv => by cases hv⟩
    · have c' : ¬ u.1 = p := fun z => c (e ▸ z)
      rw [if_neg c, decide_eq_false c']
      exact ⟨i1, i2⟩
theorem keyP_ref {d : D} {p : PyData} {v : V} (h : keyP d = some p) (r : RD g m H d v) : ∃ a, v = .ref a := by
  obtain ⟨h1, h2⟩ := keyP_inv h
  cases r with
  | tup _ _ => exact ⟨_, rfl⟩
  | lro _ _ => exact ⟨_, rfl⟩
  | fn _ => exact ⟨_, rfl⟩
  | ref _ => exact ⟨_, rfl⟩
  | df _ => exact ⟨_, rfl⟩
  | dro _ _ => exact ⟨_, rfl⟩
  | drt _ _ _ => exact ⟨_, rfl⟩
  | _ => simp [pyP] at h1 <;> (subst h1; simp [Dk.keyOk] at h2)
theorem key_is {pins : List (Addr × Obj)} {s : Shared} {σ : L2.St} (I : Inv X pins σ H s) {d : D} {p : PyData} {a : Addr} (hK : g.K = X.K) (h1 : pyP d = some p) (h2 : Dk.keyOk p = true) (r : RD g m H d (.ref a)) : (Dk.deepKind X.prog X.w).is s.heap p a :=
  ⟨h2, Dp.reads I p (.ref a) (.ref a) (hK ▸ pyP_dp h1 r) rfl⟩
theorem tri_of {kvs : List (D × D)} {xs : List (PyData × Addr × V)} (h2 : Paired (fun (p : D × D) (x : PyData × Addr × V) => pyP p.1 = some x.1 ∧ Dk.keyOk x.1 = true ∧ RD g m H p.1 (.ref x.2.1) ∧ RD g m H p.2 x.2.2) kvs xs) :
    ∀ {us : List (PyData × Addr × Value)}, Paired (fun (x : PyData × Addr × V) (u : PyData × Addr × Value) => x.1 = u.1 ∧ x.2.1 = u.2.1 ∧ RelV x.2.2 u.2.2) xs us → Tri g m H kvs us := by
  induction h2 with
  | nil => intro us q; cases q; exact .nil
  | cons z t ih =>
    intro us q
    cases q with
    | cons y t' => exact .cons ⟨by rw [← y.1]; exact z.1, by rw [← y.1]; exact z.2.1, by rw [← y.2.1]; exact z.2.2.1, _, z.2.2.2, y.2.2⟩ (ih t')
theorem tri_is {pins : List (Addr × Obj)} {s : Shared} {σ : L2.St} (I : Inv X pins σ H s) (hK : g.K = X.K) {kvs : List (D × D)} {us : List (PyData × Addr × Value)} (t : Tri g m H kvs us) : ∀ u ∈ us, (Dk.deepKind X.prog X.w).is s.heap u.1 u.2.1 := by
  induction t with
  | nil => intro u hu; cases hu
  | cons z t ih =>
    intro u hu
    rcases List.mem_cons.mp hu with e | e
    · subst e; exact key_is I hK z.1 z.2.1 z.2.2.1
    · exact ih u e
theorem keys_same {xs : List (PyData × Addr × V)} {us : List (PyData × Addr × Value)} (q : Paired (fun (x : PyData × Addr × V) (u : PyData × Addr × Value) => x.1 = u.1 ∧ x.2.1 = u.2.1 ∧ RelV x.2.2 u.2.2) xs us) : us.map (·.1) = xs.map (·.1) := by
  induction q with
  | nil => rfl
  | cons y t ih => rw [List.map_cons, List.map_cons, ih, y.1]
theorem dcd_of {pins : List (Addr × Obj)} {s : Shared} {σ : L2.St} (I : Inv X pins σ H s) (sm : Sim g m S H) {k : Nat} {kvs : List (D × D)} (h : S[k]? = some (.dcd kvs)) (hK : g.K = X.K) (hP : g.P = X.prog) (hw : g.w = X.w) :
    ∃ a us φ, m[k]? = some a ∧ H a = some (.ext φ) ∧ s.heap.DictOfH (Dk.deepKind X.prog X.w) a us ∧ Tri g m H kvs us ∧ (a == sysModules) = false ∧ us.length ≤ sizeLine := by
  obtain ⟨a, ha, xs, h1, h2, h3, h4, h5⟩ := sm.addr h
  obtain ⟨⟨o, es, ep, us, q1, q2, q3, q4, q5⟩, _⟩ := (show ObjOk X.prog X.w H s.heap a (.ext _) from I.hok a _ h1)
  rw [hP, hw] at q4
  have tri : Tri g m H kvs us := tri_of h2 q5
  exact ⟨a, us, _, ha, h1, ⟨o, es, ep, q1, q2, q3, q4, tri_is I hK tri, by rw [keys_same q5]; exact h3⟩, tri, h5, by rw [← Paired.length q5, ← Paired.length h2]; exact h4⟩
theorem dko_mono {P : Program} {w : World} {a : Addr} {xs : List (PyData × Addr × V)} (h1 h2 : Heap) (x : Dk.DkO P w a xs h1) (k : ∀ o, h1.get? a = some o → h2.get? a = some o) : Dk.DkO P w a xs h2 :=
  let ⟨o, es, ep, us, q1, q⟩ := x; ⟨o, es, ep, us, k o q1, q⟩
theorem nfE {a : Addr} {φ : Heap → Prop} (h : H a = some (.ext φ)) : Nf H a := ⟨fun o u z => (by rw [h] at z; cases z), fun ps z => (by rw [h] at z; cases z)⟩
theorem Tri.vals {kvs : List (D × D)} {us : List (PyData × Addr × Value)} (t : Tri g m H kvs us) : ∃ xs : List (PyData × Addr × V), Paired (fun (p : D × D) (x : PyData × Addr × V) => pyP p.1 = some x.1 ∧ Dk.keyOk x.1 = true ∧ RD g m H p.1 (.ref x.2.1) ∧ RD g m H p.2 x.2.2) kvs xs ∧ Paired (fun (x : PyData × Addr × V) (u : PyData × Addr × Value) => x.1 = u.1 ∧ x.2.1 = u.2.1 ∧ RelV x.2.2 u.2.2) xs us := by
  induction t with
  | nil => exact ⟨[], .nil, .nil⟩
  | @cons p u ps us z t ih =>
    obtain ⟨xs, h1, h2⟩ := ih
    obtain ⟨z1, z2, z3, v, z4, z5⟩ := z
    exact ⟨(u.1, u.2.1, v) :: xs, .cons ⟨z1, z2, z3, z4⟩ h1, .cons ⟨rfl, rfl, z5⟩ h2⟩
theorem dcd_put {pins : List (Addr × Obj)} {s : Shared} {σ : L2.St} {h' : Heap} {t' : Nat} (I : Inv X pins σ H s) (sm : Sim g m S H) {k : Nat} {a : Addr} {φ : Heap → Prop} {kvs : List (D × D)} {us : List (PyData × Addr × Value)}
    (ha : m[k]? = some a) (hH : H a = some (.ext φ)) (hd : h'.DictOfH (Dk.deepKind X.prog X.w) a us) (hs : Heap.SameBut a s.heap h') (t : Tri g m H kvs us) (hz : (a == sysModules) = false) (hl : us.length ≤ sizeLine) (hP : g.P = X.prog) (hw : g.w = X.w) :
    ∃ H', Inv X pins σ H' { s with heap := h', toks := t' } ∧ Ext m H m H' ∧ Sim g m (S.set k (.dcd kvs)) H' := by
  obtain ⟨xs, h1, h2⟩ := t.vals
  obtain ⟨o, es, ep, q1, q2, q3, q4, _, q6⟩ := hd
  have dk : Dk.DkO X.prog X.w a xs h' := ⟨o, es, ep, us, q1, q2, q3, q4, h2⟩
  have ex : Ext m H m (upd H a (.ext (Dk.DkO X.prog X.w a xs))) := ext_put (List.mem_of_getElem? ha) (nfE hH)
  refine ⟨upd H a (.ext (Dk.DkO X.prog X.w a xs)), d_write I (by rw [hH]; exact True.intro) hs ⟨o, q1⟩ ⟨dk, ⟨o, q1⟩, dko_mono⟩, ex, sm.put ha (nfE hH) ⟨xs, by rw [hP, hw]; exact upd_same, Paired.mapP h1 fun _ _ z => ⟨z.1, z.2.1, z.2.2.1.mono ex, z.2.2.2.mono ex⟩, by rw [← keys_same h2]; exact q6, ?_, hz⟩⟩
  rw [Paired.length h1, Paired.length h2]; exact hl
end
noncomputable def ixT : D → D → M D := fun d e S => match keyP e with
  | some _ => match d with
    | .drt ks vs => ofO S (valT (ks.zip vs) e)
    | .ref k => match S[k]? with
      | some (.dcd kvs) => ofO S (valT kvs e)
      | _ => .no
    | _ => .no
  | none => .no
noncomputable def opNotInT : D → D → M D := fun e d S => match keyP e with
  | some _ => match d with
    | .ref k => match S[k]? with
      | some (.dcd kvs) => .ok (.bl (!(valT kvs e).isSome)) S
      | _ => .no
    | _ => .no
  | none => .no
noncomputable def setTD (o i v : D) : M Unit := fun S => match keyP i with
  | some _ => match o with
    | .ref k => match S[k]? with
      | some (.dcd kvs) => (match valT kvs i with
        | none => if kvs.length < sizeLine then .ok () (S.set k (.dcd (kvs ++ [(i, v)]))) else .no
        | some _ => .no)
      | _ => .no
    | _ => .no
  | none => .no
noncomputable def sdefT : D → List D → M D := fun o ds S => match ds with
  | [i, v] => match keyP i with
    | some _ => match o with
      | .ref k => match S[k]? with
        | some (.dcd kvs) => (match valT kvs i with
          | some x => .ok x S
          | none => if kvs.length < sizeLine then .ok v (S.set k (.dcd (kvs ++ [(i, v)]))) else .no)
        | _ => .no
      | _ => .no
    | none => .no
  | _ => .no
def cDnewT : Env → M D := fun _ S => .ok (.ref S.length) (S ++ [.dcd []])
section
variable {g : Gd} {X : Cx} {o e : Expr} {es : List Expr} {fo fe : Env → M D} {fs : Env → M (List D)} {pos apos cpos : Pos}
theorem e_dnewT (hP : g.P = X.prog := by rfl) (hw : g.w = X.w := by rfl) : EJ g X (.Dict [] [] pos) cDnewT := ⟨fun pins s σ H Q I ⟨m, env, S, r, sm, ou⟩ => by
  have hn : H s.heap.objs.size = none := I.hok.fresh (Nat.le_refl _)
  have hz : (s.heap.objs.size == sysModules) = false := beq_eq_false_iff_ne.mpr (Ne.symm (Nat.ne_of_lt I.big))
  have gx : (s.heap.push { cls := .type "dict", data := .dict #[] }).get? s.heap.objs.size = some { cls := .type "dict", data := .dict #[] } := Heap.get?_push_size _ rfl
  refine wpAny_Dict_empty ⟨.ref s.heap.objs.size, _, I.laid (a := s.heap.objs.size) (o := .ext (Dk.DkO X.prog X.w s.heap.objs.size [])) (t' := s.toks) (fun _ _ q => Heap.get?_push_of_some _ q) (Nat.le_refl _) ⟨⟨_, #[], 0, [], gx, ⟨rfl, rfl, rfl⟩, rfl, rfl, .nil⟩, ⟨_, gx⟩, dko_mono⟩, rfl, ?_⟩
  exact ou _ _ (ext_snoc sm hn) (sm.snoc hn ⟨[], by rw [hP, hw]; exact upd_same, .nil, List.nodup_nil, Nat.zero_le _, hz⟩) _ (rd_new sm)⟩
theorem tab_val {m : List Addr} {H : Hp} {e : D} {p : PyData} (hp : pyP e = some p) (hk : Dk.keyOk p = true) {d : D} : ∀ {ks : List D} {us : List (PyData × Addr × Value)} {ds : List D} {vs : List V}, pyPs ks = some (us.map (·.1)) → Vals vs (us.map (·.2.2)) → RDs g m H ds vs → valT (ks.zip ds) e = some d →
    ∃ q w, atKey us p = some q ∧ RD g m H d w ∧ RelV w q.2
  | [], us, ds, vs, h1, h2, h3, h => by simp [valT] at h
  | k :: ks, us, ds, vs, h1, h2, h3, h => by
    cases us with
    | nil => simp only [pyPs] at h1; split at h1 <;> simp at h1
    | cons u us =>
      cases h2 with
      | cons r1 r2 =>
        cases h3 with
        | cons q1 q2 =>
          simp only [pyPs] at h1
          split at h1
          · rename_i pk pks z1 z2
            simp only [List.map_cons, Option.some.injEq, List.cons.injEq] at h1
            obtain ⟨e1, e2⟩ := h1
            have c := key_same hp z1 hk
            rw [List.zip_cons_cons] at h
            unfold valT at h
            unfold atKey
            rw [List.find?_cons]
            by_cases y : k = e
            · rw [if_pos y] at h
              cases h
              have y' : u.1 = p := by rw [← e1]; exact (c ▸ y.symm).symm
              rw [decide_eq_true y']
              exact ⟨_, _, rfl, q1, r1⟩
            · rw [if_neg y] at h
              have y' : ¬ u.1 = p := fun z => y (Eq.symm (c ▸ (show p = pk by rw [e1, z])))
              rw [decide_eq_false y']
              exact tab_val hp hk (by rw [z2, e2]) r2 q2 h
          · cases h1
theorem e_ixT {k : Nat} (hr : Room k X.A) (ho : EJ g X o fo) (he : EJ g X e fe) (hs : NoSl e := by exact fun _ _ => rfl) (hK : g.K = X.K := by rfl) (hP : g.P = X.prog := by rfl) (hw : g.w = X.w := by rfl) : EJ g X (.Subscript o e pos) (cOp ixT fo fe) := ⟨fun pins s σ H Q I ⟨m, env, S, r, sm, ou⟩ => by
  have hu := hr.units2
  refine subD_of PySem.F.slot_dict_getitem.lookup hs (thn (ho.un pins s σ H (fun x H1 => tE g X fe σ H1 fun y H2 => ∃ d1 d2 m2 S2, RD g m2 H2 d1 x ∧ RD g m2 H2 d2 y ∧ Sim g m2 S2 H2 ∧ Out g X m2 H2 (ixT d1 d2 S2) (VQ g Q)) I ⟨m, env, S, r, sm, (Out.bind ou).imp fun d1 S1 m1 H1 x1 s1 o1 v1 hv1 => ⟨m1, env, S1, r.mono x1, s1, (Out.bind o1).imp fun d2 S2 m2 H2 x2 s2 o2 v2 hv2 => ⟨d1, d2, m2, S2, hv1.mono x2, hv2, s2, o2⟩⟩⟩)
    fun u s1 ⟨x, H1, I1, rx, q1⟩ => thn (he.un pins s1 σ H1 _ I1 q1) fun iv s2 ⟨y, H2, I2, ry, d1, d2, m2, S2, h1, h2, s2m, o2⟩ => ?_)
  unfold ixT at o2
  split at o2
  · rename_i p hp
    obtain ⟨p1, p2⟩ := keyP_inv hp
    obtain ⟨b, rfl⟩ := keyP_ref hp h2
    cases ry
    have hi := key_is I2 hK p1 p2 h2
    have room : (Dk.deepKind X.prog X.w).room X.A.in1 := by show X.A.in1.units + 16 < cLine; simp only [Around.in1_units]; omega
    split at o2
    · rename_i ks ds
      cases h1 with
      | @drt a _ ps _ vs z1 z2 z3 =>
        cases rx
        obtain ⟨ob, es', ep, us, q1, q2, q3, q4, q5, q6, q7, q8⟩ := z2
        rw [hP, hw] at q4
        rw [hK, hP, hw] at q7
        have hg : s2.heap.get? a = some ob := I2.kIn a ob (hK ▸ q1)
        have hD : s2.heap.DictOfH (Dk.deepKind X.prog X.w) a us := ⟨ob, es', ep, hg, q2, q3, q4, q7 _ (fun b o h => I2.kIn b o h), by rw [q5]; exact q6⟩
        refine ⟨hD.typeIs, ?_⟩
        cases hl : valT (ks.zip ds) d2 with
        | none => rw [hl] at o2; exact o2.elim
        | some d =>
          rw [hl] at o2
          obtain ⟨q, w, a1, a2, a3⟩ := tab_val p1 p2 (by rw [q5]; exact z1) q8 z3 hl
          exact wpAny_getItem_heap room hi hD a1 ⟨w, H2, I2.tok _, a3, Out.ok s2m o2 _ a2⟩
    · rename_i k
      split at o2
      · rename_i kvs hk
        obtain ⟨a, us, φ, b1, b2, b3, b4, b5, b6⟩ := dcd_of I2 s2m hk hK hP hw
        obtain ⟨a', rfl, b7⟩ := h1.ref_inv
        rw [b1] at b7
        cases b7
        cases rx
        refine ⟨b3.typeIs, ?_⟩
        cases hl : valT kvs d2 with
        | none => rw [hl] at o2; exact o2.elim
        | some d =>
          rw [hl] at o2
          obtain ⟨q, w, a1, a2, a3⟩ := (tri_val p1 b4).1 d hl
          exact wpAny_getItem_heap room hi b3 a1 ⟨w, H2, I2.tok _, a3, Out.ok s2m o2 _ a2⟩
      · exact o2.elim
    · exact o2.elim
  · exact o2.elim⟩
theorem o_notInT {k : Nat} (hr : Room k X.A) (hK : g.K = X.K := by rfl) (hP : g.P = X.prog := by rfl) (hw : g.w = X.w := by rfl) : OpR X (compareOp .NotIn) (rOp g X opNotInT) := by
  intro pins s σ H x y v u Q I rx ry ⟨m, S, d, e, sm, hx, hy, ou⟩
  have hu := hr.units2
  unfold opNotInT at ou
  split at ou
  · rename_i p hp
    obtain ⟨p1, p2⟩ := keyP_inv hp
    obtain ⟨b, rfl⟩ := keyP_ref hp hx
    cases rx
    have hi := key_is I hK p1 p2 hx
    have room : (Dk.deepKind X.prog X.w).room X.A.in1 := by show X.A.in1.units + 16 < cLine; simp only [Around.in1_units]; omega
    split at ou
    · rename_i k
      split at ou
      · rename_i kvs hk
        obtain ⟨a, us, φ, b1, b2, b3, b4, b5, b6⟩ := dcd_of I sm hk hK hP hw
        obtain ⟨a', rfl, b7⟩ := hy.ref_inv
        rw [b1] at b7
        cases b7
        cases ry
        refine wpAny_notIn_heap room hi b5 b3 ⟨.bl (!(atKey us p).isSome), H, I.tok _, rfl, ?_⟩
        have e : (atKey us p).isSome = (valT kvs d).isSome := by
          obtain ⟨t1, t2⟩ := tri_val p1 b4
          cases hl : valT kvs d with
          | none => rw [t2 hl]; rfl
          | some z => obtain ⟨q, w, a1, _⟩ := t1 z hl; rw [a1]; rfl
        rw [e]
        exact Out.ok sm ou _ (.bl _)
      · exact ou.elim
    · exact ou.elim
  · exact ou.elim
theorem Paired.snoc {α β : Type} {F : α → β → Prop} {a : α} {b : β} (h : F a b) : ∀ {l : List α} {l' : List β}, Paired F l l' → Paired F (l ++ [a]) (l' ++ [b])
  | _, _, .nil => .cons h .nil
  | _, _, .cons z t => .cons z (Paired.snoc h t)
theorem set_T {k : Nat} (hr : Room k X.A) (hK : g.K = X.K := by rfl) (hP : g.P = X.prog := by rfl) (hw : g.w = X.w := by rfl) : PSet X fun o i v H Q => ∃ m S d1 d2 d3, Sim g m S H ∧ RD g m H d1 o ∧ RD g m H d2 i ∧ RD g m H d3 v ∧ Out g X m H (setTD d1 d2 d3 S) fun _ _ _ H' => Q H' := by
  intro pins s σ H o i v ov iv u Q I ro ri rv ⟨m, S, d1, d2, d3, sm, h1, h2, h3, ou⟩
  have hu := hr.units2
  unfold setTD at ou
  split at ou
  · rename_i p hp
    obtain ⟨p1, p2⟩ := keyP_inv hp
    obtain ⟨b, rfl⟩ := keyP_ref hp h2
    cases ri
    have hi := key_is I hK p1 p2 h2
    have room : (Dk.deepKind X.prog X.w).room X.A.in1 := by show X.A.in1.units + 16 < cLine; simp only [Around.in1_units]; omega
    split at ou
    · rename_i k
      split at ou
      · rename_i kvs hk
        obtain ⟨a, us, φ, b1, b2, b3, b4, b5, b6⟩ := dcd_of I sm hk hK hP hw
        obtain ⟨a', rfl, b7⟩ := h1.ref_inv
        rw [b1] at b7
        cases b7
        cases ro
        split at ou
        · rename_i hn
          split at ou
          · rename_i hl
            refine wpAny_setItem_heap (hsz := b6) room hi b3 fun h' c1 c2 => ?_
            rw [storedH_new ((tri_val p1 b4).2 hn)] at c1
            obtain ⟨H', i1, i2, i3⟩ := dcd_put (t' := s.toks + (Dk.deepKind X.prog X.w).draws p) I sm b1 b2 c1 c2 (kvs := kvs ++ [(d2, d3)]) (Paired.snoc (a := (d2, d3)) ⟨p1, p2, h2, v, h3, rv⟩ b4) b5 (by rw [List.length_append, List.length_singleton, ← Paired.length b4]; omega) hP hw
            exact ⟨H', i1, ou _ _ i2 i3⟩
          · exact ou.elim
        · exact ou.elim
      · exact ou.elim
    · exact ou.elim
  · exact ou.elim
noncomputable def sSubT (fo fi : Env → M D) : D → Env → M Env := fun v env S => (fo env S).bind fun o S => (fi env S).bind fun i S => (setTD o i v S).bind fun _ S => .ok env S
theorem g_subT {k : Nat} (hr : Room k X.A) (ho : EJ g X o fo) (hi : EJ g X e fe) (hK : g.K = X.K := by rfl) (hP : g.P = X.prog := by rfl) (hw : g.w = X.w := by rfl)
    (ha : ∀ v, assign (.Subscript o e pos) X.env v = (do
      let ov ← holding [v] (eval o X.env)
      let iv ← holding [v, ov] (eval e X.env)
      standAt pos
      holding [v, ov, iv] (setItem ov iv v)
      release [v, ov, iv] []) := by intro _; rfl) : GJ g X (.Subscript o e pos) (sSubT fo fe) := ⟨PG.imp (pg_sub ho.un hi.un (set_T hr hK hP hw) ha) fun v σ H Q ⟨m, env, S, d, r, s, hd, out⟩ =>
  ⟨m, env, S, r, s, (Out.bind out).imp fun d1 S1 m1 H1 x1 s1 o1 v1 h1 => ⟨m1, env, S1, r.mono x1, s1, (Out.bind o1).imp fun d2 S2 m2 H2 x2 s2 o2 v2 h2 =>
    ⟨m2, S2, d1, d2, d, s2, h1.mono x2, h2, hd.mono (x1.trans x2), (Out.bind o2).imp fun _ S3 m3 H3 x3 s3 o3 => Out.ok s3 o3 σ (r.mono ((x1.trans x2).trans x3))⟩⟩⟩⟩
theorem setDefault_heap {prog : Program} {w : World} {K : Type} [DecidableEq K] {knd : HeapKind prog w K} {A : Around} {E : Value → Shared → Prop} {s : Shared} {d a : Addr} {xs : List (K × Addr × Value)} {k : K} {v : Value} {Q : Value → Shared → Prop} (hu : knd.room A) (hkey : knd.is s.heap k a) (hm : s.heap.DictOfH knd d xs)
    (hthere : ∀ p, atKey xs k = some p → Q p.2 { s with toks := s.toks + knd.draws k })
    (hnew : atKey xs k = none → ∀ h', h'.DictOfH knd d (xs ++ [(k, a, v)]) → Heap.SameBut d s.heap h' → Q v { s with heap := h', toks := s.toks + knd.draws k })
    (hz : xs.length ≤ sizeLine) : wpAny (model prog w) A (dictSetDefault d (.ref a) v) Q E s := by
  obtain ⟨o, es, ep, ho, hc, hd, he, his, hn⟩ := hm
  unfold dictSetDefault
  refine wpAny_holding (wpAny_bind (knd.pyHash hu hkey (wpAny_bind (wpAny_dictFind_heap (s := { s with toks := s.toks + knd.draws k }) hu hkey ho hd he his hn (fun hno => ?_) fun j p hj => ?_))))
  · refine wpAny_bind (wpAny_rule (wpAny_bind (wpAny_updateDictKeys (hz := by have := size_of_entries he; omega) (s := { s with toks := s.toks + knd.draws k }) ho hd (wpAny_pure (hnew (atKey_none_of_get hno) _ ⟨_, _, ep + 1, Heap.get?_update_self _ ho (Obj.isFreed_of_dict (Obj.data_mapDictKeys hd _)), hc.mapDictKeys _, Obj.data_mapDictKeys hd _, ?_, fun x hx => ?_, ?_⟩ (Heap.SameBut.update ..))))))
    · simp [he, entryOfKey]
    · rcases List.mem_append.mp hx with q | q
      · exact knd.keeps (his x q) ho hd (Heap.SameBut.update ..)
      · rw [List.mem_singleton] at q; subst q; exact knd.keeps hkey ho hd (Heap.SameBut.update ..)
    · rw [List.map_append, List.nodup_append]
      refine ⟨hn, by simp, fun x hx y hy e => ?_⟩
      simp only [List.map_cons, List.map_nil, List.mem_singleton] at hy
      subst hy
      exact not_mem_keys_of_get hno (e ▸ hx)
  · refine wpAny_bind (wpAny_dictEntries (s := { s with toks := s.toks + knd.draws k }) ho hd ?_)
    rw [entry_at he j, hj]
    exact wpAny_bind (wpAny_rule (wpAny_pure (hthere p (atKey_of_get hn hj))))
noncomputable def cSdef (fo : Env → M D) (fs : Env → M (List D)) : Env → M D := fun env S => (fo env S).bind fun o S => match o with
  | .ref k => match S[k]? with
    | some (.dcd _) => (fs env S).bind fun ds S => sdefT o ds S
    | _ => .no
  | _ => .no
theorem e_sdef {k : Nat} (hr : Room k X.A) (ho : EJ g X o fo) (ha : AJ g X (e :: es) fs) (hK : g.K = X.K := by rfl) (hP : g.P = X.prog := by rfl) (hw : g.w = X.w := by rfl)
    (hbase : attributeBase o (Str.ofString "setdefault") X.env (eval o X.env) = eval o X.env := by rfl)
    (hfew : ((backTo cpos (starEach (e :: es) X.env)).all (fun x => !x.1) && (backToKw cpos (keywordEach [] X.env)).all (fun x => x.1.isSome)
      && decide ((e :: es).length + ([] : List Keyword).length + (if ([] : List Keyword).isEmpty then 0 else 1) < 30)) = true := by kernel_rfl)
    (hline : (apos.endLine == cpos.line) = true := by kernel_rfl) (hst : starEach (e :: es) X.env = (false, eval e X.env) :: starEach es X.env := by kernel_rfl) (hplain : (backTo cpos (starEach es X.env)).any (·.1) = false := by kernel_rfl) :
    EJ g X (.Call (.Attribute o (Str.ofString "setdefault") apos) (e :: es) [] cpos) (cSdef fo fs) := ⟨fun pins s σ H Q I ⟨m, env, S, r, sm, ou⟩ => by
  have hu := hr.units2
  refine wpAny_Call_method_late hbase hfew hline rfl (thn (ho.un pins s σ H (fun x H1 => ∃ k m1 S1 kvs, RD g m1 H1 (.ref k) x ∧ Sim g m1 S1 H1 ∧ S1[k]? = some (.dcd kvs) ∧ tA g X fs σ H1 fun xs H2 => ∃ m2 S2 ds, RD g m2 H2 (.ref k) x ∧ RDs g m2 H2 ds xs ∧ Sim g m2 S2 H2 ∧ Out g X m2 H2 (sdefT (.ref k) ds S2) (VQ g Q)) I ⟨m, env, S, r, sm, (Out.bind ou).imp fun d1 S1 m1 H1 x1 s1 o1 v1 hv1 => ?_⟩) fun v s1 ⟨x, H1, I1, r1, k, m1, S1, kvs, hx, sm1, hk, q1⟩ => ?_)
  · split at o1
    · rename_i k
      split at o1
      · rename_i kvs hk
        exact ⟨k, m1, S1, kvs, hv1, s1, hk, m1, env, S1, r.mono x1, s1, (Out.bind o1).imp fun ds S2 m2 H2 x2 s2 o2 vs h2 => ⟨m2, S2, ds, hv1.mono x2, h2, s2, o2⟩⟩
      · exact o1.elim
    · exact o1.elim
  · obtain ⟨a, us0, φ, b1, b2, b3, _⟩ := dcd_of I1 sm1 hk hK hP hw
    obtain ⟨a', rfl, b7⟩ := hx.ref_inv
    rw [b1] at b7
    cases b7
    cases r1
    refine ⟨"dict", "dict.setdefault", PySem.F.plainAttrs_dict, PySem.F.slot_dict_setdefault, PySem.F.type_dict_setdefault, b3.typeIs, dictOfH_noDict b3, ?_⟩
    have hA := ha.un cpos pins s1 σ H1 _ I1 q1
    rw [hst] at hA ⊢
    refine Calls.callWith_builtin (by show (false || (backTo cpos (starEach es X.env)).any (·.1)) = false; rw [hplain] <;> rfl) (Calls.evalArgs_plain ?_)
    refine thn hA fun ws s2 ⟨vs, H2, I2, r2, m2, S2, ds, hx2, hds, sm2, o2⟩ => ?_
    unfold sdefT at o2
    split at o2
    · rename_i i y
      cases hds with
      | cons i1 t1 =>
        cases t1 with
        | cons i2 t2 =>
          cases t2
          obtain ⟨w1, w2, rfl, rw1, rw2⟩ := vals2 r2
          split at o2
          · rename_i p hp
            obtain ⟨p1, p2⟩ := keyP_inv hp
            obtain ⟨b, rfl⟩ := keyP_ref hp i1
            cases rw1
            have hi := key_is I2 hK p1 p2 i1
            have room : (Dk.deepKind X.prog X.w).room X.A.in1 := by show X.A.in1.units + 16 < cLine; simp only [Around.in1_units]; omega
            dsimp only at o2
            · split at o2
              · rename_i kvs2 hk2
                obtain ⟨a2, us, φ2, c1, c2, c3, c4, c5, c6⟩ := dcd_of I2 sm2 hk2 hK hP hw
                obtain ⟨a3, c7, c8⟩ := hx2.ref_inv
                cases c7
                have c9 : a2 = a := Option.some.inj (c1.symm.trans c8)
                subst c9
                refine wpAny_call_entry PySem.F.slot_dict_setdefault c3.typeIs PySem.F.entry_dict_setdefault ?_ (PySem.F.args_dict_setdefault_3 _ _ _)
                unfold Builtin.«dict.setdefault»
                refine wpAny_bind ?_
                unfold Builtin.Dict.keyAndDefault
                refine wpAny_bind (wpAny_notOrdered_dict c3.typeIs (show wpAny _ _ (pure (_, _, some _)) _ _ s2 from wpAny_pure ?_))
                show wpAny _ _ (if (a2 == sysModules) = true then _ else (dictSetDefault a2 (Value.ref b) w2 >>= _)) _ _ s2
                rw [if_neg (by rw [c5]; exact Bool.false_ne_true)]
                refine wpAny_bind (setDefault_heap room hi c3 (fun q hq => ?_) (fun hn h' d1 d2 => ?_) c6)
                · cases hl : valT kvs2 i with
                  | none => rw [(tri_val p1 c4).2 hl] at hq; cases hq
                  | some d =>
                    rw [hl] at o2
                    obtain ⟨q', w, a1, a2', a3'⟩ := (tri_val p1 c4).1 d hl
                    rw [a1] at hq
                    cases hq
                    exact wpAny_pure ⟨_, rfl, ⟨w, H2, I2.tok _, a3', Out.ok sm2 o2 _ a2'⟩⟩
                · cases hl : valT kvs2 i with
                  | some d => obtain ⟨q', w, a1, _⟩ := (tri_val p1 c4).1 d hl; rw [hn] at a1; cases a1
                  | none =>
                    rw [hl] at o2
                    dsimp only at o2
                    split at o2
                    · rename_i hlen
                      obtain ⟨H', j1, j2, j3⟩ := dcd_put (t' := s2.toks + (Dk.deepKind X.prog X.w).draws p) I2 sm2 c1 c2 d1 d2 (kvs := kvs2 ++ [(i, y)]) (Paired.snoc (a := (i, y)) ⟨p1, p2, i1, _, i2, rw2⟩ c4) c5 (by rw [List.length_append, List.length_singleton, ← Paired.length c4]; omega) hP hw
                      exact wpAny_pure ⟨_, rfl, ⟨_, H', j1, rw2, o2 _ _ j2 j3 _ (i2.mono j2)⟩⟩
                    · exact o2.elim
              · exact o2.elim
          · exact o2.elim
    · exact o2.elim⟩
end
end Ab

namespace Ab
open PySem PySem.Spec PyProof.Rows L2
noncomputable def idxDt (d : D) : List D → Option Nat
  | [] => none
  | x :: t => if x = d then some 0 else (idxDt d t).map (· + 1)
theorem idxDt_at {y : D} : ∀ {ys : List D} {j : Nat}, idxDt y ys = some j → ys[j]? = some y ∧ ∀ (m : Nat) (z : D), m < j → ys[m]? = some z → z ≠ y
  | [], _, h => by cases h
  | x :: t, j, h => by
    unfold idxDt at h
    split at h
    · rename_i e
      cases h
      exact ⟨by rw [e]; rfl, fun m z hm _ => absurd hm (Nat.not_lt_zero m)⟩
    · rename_i e
      obtain ⟨k, h1, rfl⟩ := Option.map_eq_some_iff.mp h
      obtain ⟨a, b⟩ := idxDt_at h1
      exact ⟨a, fun m z hm hz => match m, hm, hz with
        | 0, _, hz => (Option.some.inj hz) ▸ e
        | m + 1, hm, hz => b m z (by omega) hz⟩
noncomputable def indexDt : D → List D → M D := fun o ds S => match o, ds with
  | .tup xs, [d] => match pyP d, pyPs xs with
    | some p, some ps => if (Dk.shp p && Dk.shps ps && decide (p.depth ≤ 500)) = true then (match idxDt d xs with
      | some j => .ok (.int (j : Nat)) S
      | none => .no) else .no
    | _, _ => .no
  | _, _ => .no
noncomputable def cIndexT (fo : Env → M D) (fs : Env → M (List D)) : Env → M D := fun env S => (fo env S).bind fun o S => if isT o = true then (fs env S).bind fun ds S => indexDt o ds S else .no
theorem pyPs_at : ∀ {ds : List D} {ps : List PyData} {j : Nat} {d : D}, pyPs ds = some ps → ds[j]? = some d → ∃ p, ps[j]? = some p ∧ pyP d = some p
  | [], _, _, _, _, h => by simp at h
  | d :: ds, ps, j, e, h1, h2 => by
    simp only [pyPs] at h1
    split at h1
    · rename_i a b z1 z2
      cases h1
      cases j with
      | zero => cases h2; exact ⟨a, rfl, z1⟩
      | succ j =>
        obtain ⟨q, q1, q2⟩ := pyPs_at (j := j) (d := e) z2 (by simpa using h2)
        exact ⟨q, by simpa using q1, q2⟩
    · cases h1
theorem readsAll_at {h : Heap} : ∀ {ps : List PyData} {vs : List Value} {as : List Addr} {j : Nat} {v : Value}, ReadsAll h vs ps as → vs[j]? = some v → ∃ p bs, ps[j]? = some p ∧ Reads h v p bs
  | [], _, _, _, _, r, e => by cases r; simp at e
  | p :: ps, _, _, j, v, r, e => by
    cases r with
    | cons r1 r2 =>
      cases j with
      | zero => cases e; exact ⟨p, _, rfl, r1⟩
      | succ j =>
        obtain ⟨q, bs, q1, q2⟩ := readsAll_at (j := j) (v := v) r2 (by simpa using e)
        exact ⟨q, bs, by simpa using q1, q2⟩
section
variable {g : Gd} {X : Cx} {o e : Expr} {es : List Expr} {fo : Env → M D} {fs : Env → M (List D)} {apos cpos : Pos}
theorem m_indexDt (k : Nat) (hr : Room k X.A) (hK : g.K = X.K := by rfl) : MtR X "tuple.index" (rMt g X indexDt) := by
  intro pins s σ H x xs v us Q I rx rs ⟨m, S, d, ds, sm, hx, hs, ou⟩
  have hu := hr.units2
  unfold indexDt at ou
  split at ou
  · rename_i ys d0
    split at ou
    · rename_i p ps hp hps
      split at ou
      · rename_i hc
        rw [Bool.and_eq_true, Bool.and_eq_true, decide_eq_true_eq] at hc
        obtain ⟨⟨c1, c2⟩, c3⟩ := hc
        split at ou
        · rename_i j hj
          obtain ⟨a, vs, rfl, t, q⟩ := hx.tup_inv
          cases rx
          cases hs with
          | cons h3 h4 =>
            cases h4
            obtain ⟨uy, rfl, ry⟩ := vals1 rs
            obtain ⟨its, rv, ⟨⟨cls, dd, data, sl⟩, ho, hcl, n, hd⟩, hlen⟩ := I.tuple (hK ▸ t.sq)
            simp only at hcl hd
            subst hcl hd
            obtain ⟨as, r1⟩ := Dp.reads I p _ uy (hK ▸ pyP_dp hp h3) ry
            obtain ⟨bs, r2⟩ := Dp.readsAll I ps vs its (hK ▸ pyPs_dp hps q) rv
            obtain ⟨i1, i2⟩ := idxDt_at hj
            have shp_at : ∀ {i : Nat} {z : PyData}, ps[i]? = some z → Dk.shp z = true := fun hz => Dk.shps_mem c2 _ (List.mem_of_getElem? hz)
            have lay : ∀ {z : PyData}, Dk.shp z = true → z.canLay0 = true := fun h => Dk.shp_lay _ h
            have key : ∀ (i : Nat) (u' : Value), its[i]? = some u' → ∃ pi bi di, ps[i]? = some pi ∧ Reads s.heap u' pi bi ∧ ys[i]? = some di ∧ pyP di = some pi := by
              intro i u' hi
              obtain ⟨pi, bi, e1, e2⟩ := readsAll_at r2 hi
              have hl1 := rv.length
              have hl2 := q.length
              have il : i < its.length := (List.getElem?_eq_some_iff.mp hi).1
              have il2 : i < ys.length := by omega
              obtain ⟨pj, e3, e4⟩ := pyPs_at hps (List.getElem?_eq_getElem il2)
              rw [e1] at e3
              cases e3
              exact ⟨pi, bi, ys[i], e1, e2, List.getElem?_eq_getElem il2, e4⟩
            have hjl : j < its.length := by
              have := (List.getElem?_eq_some_iff.mp i1).1
              have hl1 := rv.length
              have hl2 := q.length
              omega
            let f : Value → Bool := fun u' => @decide (∃ pi bi, Reads s.heap u' pi bi ∧ Dk.shp pi = true ∧ PyData.eqv pi p = true) (Classical.propDecidable _)
            have fval : ∀ {u' : Value} {pi : PyData} {bi : List Addr}, Reads s.heap u' pi bi → Dk.shp pi = true → f u' = PyData.eqv pi p := by
              intro u' pi bi hr hs
              cases he : PyData.eqv pi p with
              | true => exact @decide_eq_true _ (Classical.propDecidable _) ⟨pi, bi, hr, hs, he⟩
              | false =>
                refine @decide_eq_false _ (Classical.propDecidable _) ?_
                rintro ⟨pk, bk, k1, k2, k3⟩
                rw [SeqAt.Reads.unique pi pk _ _ _ (lay hs) hr k1] at he
                rw [he] at k3
                cases k3
            refine call_meets PySem.F.slot_tuple_index ⟨_, ho, rfl⟩ PySem.F.entry_tuple_index (PySem.F.args_tuple_index_2 _ _) (Zp.tidx_meets a its.toArray n dd sl uy f j (by simpa using hjl) ?_ ?_) ⟨ho, fun u' hu' => ?_, ?_⟩
            · obtain ⟨pi, bi, di, e1, e2, e3, e4⟩ := key j its[j] (List.getElem?_eq_getElem hjl)
              have : its.toArray[j]'(by simpa using hjl) = its[j] := by simp
              rw [this, fval e2 (shp_at e1)]
              rw [i1] at e3
              cases e3
              rw [hp] at e4
              cases e4
              exact (Dk.eqv_iff p p c1 c1).mpr rfl
            · intro i hi hij
              have hil : i < its.length := by simpa using hi
              obtain ⟨pi, bi, di, e1, e2, e3, e4⟩ := key i its[i] (List.getElem?_eq_getElem hil)
              have : its.toArray[i]'hi = its[i] := by simp
              rw [this, fval e2 (shp_at e1)]
              cases he : PyData.eqv pi p with
              | false => rfl
              | true =>
                have hq := (Dk.eqv_iff pi p (shp_at e1) c1).mp he
                subst hq
                exact absurd (pyP_inj pi di d0 c1 e4 hp) (i2 i di hij e3)
            · obtain ⟨i, hi⟩ := List.mem_iff_getElem?.mp (show u' ∈ its by simpa using hu')
              obtain ⟨pi, bi, di, e1, e2, e3, e4⟩ := key i u' hi
              rw [fval e2 (shp_at e1)]
              exact SeqAt.eqAt_reads pi p X.A.in1 s u' uy bi as e2 r1 (lay (shp_at e1)) (lay c1) (by have := Nat.min_le_right pi.depth p.depth; simp only [Around.in1_units]; omega)
            · exact ⟨.int (j : Nat), H, I.tok _, ⟨_, rfl⟩, Out.ok sm ou _ (.int _)⟩
        · exact ou.elim
      · exact ou.elim
    · exact ou.elim
  · exact ou.elim
theorem e_indexT {k : Nat} (hr : Room k X.A) (ho : EJ g X o fo) (ha : AJ g X (e :: es) fs) (hK : g.K = X.K := by rfl)
    (hbase : attributeBase o (Str.ofString "index") X.env (eval o X.env) = eval o X.env := by rfl)
    (hfew : ((backTo cpos (starEach (e :: es) X.env)).all (fun x => !x.1) && (backToKw cpos (keywordEach [] X.env)).all (fun x => x.1.isSome)
      && decide ((e :: es).length + ([] : List Keyword).length + (if ([] : List Keyword).isEmpty then 0 else 1) < 30)) = true := by kernel_rfl)
    (hline : (apos.endLine == cpos.line) = true := by kernel_rfl) (hst : starEach (e :: es) X.env = (false, eval e X.env) :: starEach es X.env := by kernel_rfl) (hplain : (backTo cpos (starEach es X.env)).any (·.1) = false := by kernel_rfl) :
    EJ g X (.Call (.Attribute o (Str.ofString "index") apos) (e :: es) [] cpos) (cIndexT fo fs) := ⟨PE.imp (pe_bmT PySem.F.slot_tuple_index PySem.F.type_tuple_index (m_indexDt k hr hK) ho.un ha.un hbase hfew hline hst hplain) fun σ H Q ⟨m, env, S, r, s, ou⟩ =>
  ⟨m, env, S, r, s, (Out.bind ou).imp fun d S1 m1 H1 x1 s1 o1 v hv => by
    split at o1
    · rename_i hl
      exact ⟨isT_ty hK hl hv, m1, env, S1, r.mono x1, s1, (Out.bind o1).imp fun ds S2 m2 H2 x2 s2 o2 vs h2 => ⟨m2, S2, d, ds, s2, hv.mono x2, h2, o2⟩⟩
    · exact o1.elim⟩⟩
end
end Ab

namespace Ab
open PySem PySem.Spec PyProof.Rows L2
section
variable {P : Fl → Sto → Prop} {PD : D → Sto → Prop} {PB : Bool → Sto → Prop} {PL : List D → Sto → Prop} {PE : Env → Sto → Prop} {PU : Unit → Sto → Prop} {env e : Env} {S : Sto} {d : D} {fa fb fo fv fi : Env → M D} {fs : Env → M (List D)} {i fn mn : Str} {k : Nat} {kf : List D → M D}
theorem v_fld {fs : List (Str × D)} (h : S[k]? = some (.ins i fs)) (hl : fs.lookup fn = some d) : Ok (fldD i fn (.ref k) S) PD = PD d S := by
  simp only [fldD, h, if_true, hl]; rfl
theorem x_setF : Ok (cSetF i fn fo fv env S) P = Ok (fv env S) fun d S => Ok (fo env S) fun o S => ∃ k fs, o = .ref k ∧ S[k]? = some (.ins i fs) ∧ fs.length < 1000 ∧ P (.nx env) (S.set k (.ins i (putA fn d fs))) := by
  unfold cSetF
  rw [ok_bind]; congr 1; funext d S; rw [ok_bind]; congr 1; funext o S
  refine propext ⟨fun h => ?_, fun ⟨k, fs, h1, h2, h3, h4⟩ => ?_⟩
  · split at h
    · split at h
      · split at h
        · rename_i hj; obtain ⟨rfl, hl⟩ := hj; exact ⟨_, _, rfl, ‹_›, hl, h⟩
        · exact h.elim
      · exact h.elim
    · exact h.elim
  · subst h1; simp only [h2]; rw [if_pos (by exact ⟨trivial, h3⟩)]; exact h4
theorem x_meth : Ok (cMeth i mn kf fo fs env S) PD = Ok (fo env S) fun o S => ∃ r as, o = .ref r ∧ S[r]? = some (.ins i as) ∧ as.lookup mn = none ∧ Ok (fs env S) fun ds S => Ok (kf (.ref r :: ds) S) PD := by
  unfold cMeth
  rw [ok_bind]; congr 1; funext o S
  refine propext ⟨fun h => ?_, fun ⟨k, as, h1, h2, h3, h4⟩ => ?_⟩
  · split at h
    · split at h
      · split at h
        · rename_i hj; obtain ⟨rfl, hl⟩ := hj; rw [ok_bind] at h; exact ⟨_, _, rfl, ‹_›, hl, h⟩
        · exact h.elim
      · exact h.elim
    · exact h.elim
  · subst h1; simp only [h2]; rw [if_pos (by exact ⟨trivial, h3⟩), ok_bind]; exact h4
theorem x_make : Ok (cMake i kf fs env S) PD = Ok (fs env S) fun ds S => Ok (kf (.ref S.length :: ds) (S ++ [.ins i []])) fun d S' => d = .non ∧ PD (.ref S.length) S' := by
  unfold cMake
  rw [ok_bind]; congr 1; funext ds S; rw [ok_bind]; congr 1; funext d S'
  cases d <;> first | exact propext ⟨fun h => ⟨rfl, h⟩, fun h => h.2⟩ | exact propext ⟨fun h => h.elim, fun h => by cases h.1⟩
theorem x_dnewT : Ok (cDnewT env S) PD = PD (.ref S.length) (S ++ [.dcd []]) := id rfl
theorem v_ixTk {kvs : List (D × D)} {x : D} {p : PyData} (h : S[k]? = some (.dcd kvs)) (hp : keyP x = some p) : Ok (ixT (.ref k) x S) PD = (match valT kvs x with | some d => PD d S | none => False) := by
  simp only [ixT, hp, h]; cases valT kvs x <;> rfl
theorem v_notInTk {kvs : List (D × D)} {x : D} {p : PyData} (h : S[k]? = some (.dcd kvs)) (hp : keyP x = some p) : Ok (opNotInT x (.ref k) S) PD = PD (.bl (!(valT kvs x).isSome)) S := by
  simp only [opNotInT, hp, h]; rfl
theorem x_subT : Ok (sSubT fo fi d env S) PE = Ok (fo env S) fun o S => Ok (fi env S) fun i S => Ok (setTD o i d S) fun _ S => PE env S := by
  unfold sSubT; rw [ok_bind]; congr 1; funext o S; rw [ok_bind]; congr 1; funext i S; rw [ok_bind]; rfl
theorem v_setTk {kvs : List (D × D)} {x v : D} {p : PyData} (h : S[k]? = some (.dcd kvs)) (hp : keyP x = some p) (hn : valT kvs x = none) (hl : kvs.length < 100000) : Ok (setTD (.ref k) x v S) PU = PU () (S.set k (.dcd (kvs ++ [(x, v)]))) := by
  simp only [setTD, hp, h, hn]; rw [if_pos (Nat.lt_of_lt_of_le hl (szK (Nat.le_refl _)))]; rfl
theorem x_sdef : Ok (cSdef fo fs env S) PD = Ok (fo env S) fun o S => ∃ k kvs, o = .ref k ∧ S[k]? = some (.dcd kvs) ∧ Ok (fs env S) fun ds S => Ok (sdefT o ds S) PD := by
  unfold cSdef
  rw [ok_bind]; congr 1; funext o S
  refine propext ⟨fun h => ?_, fun ⟨k, kvs, h1, h2, h4⟩ => ?_⟩
  · split at h
    · split at h
      · rw [ok_bind] at h; exact ⟨_, _, rfl, ‹_›, h⟩
      · exact h.elim
    · exact h.elim
  · subst h1; simp only [h2]; rw [ok_bind]; exact h4
theorem v_sdefN {kvs : List (D × D)} {x v : D} {p : PyData} (h : S[k]? = some (.dcd kvs)) (hp : keyP x = some p) (hn : valT kvs x = none) (hl : kvs.length < 100000) : Ok (sdefT (.ref k) [x, v] S) PD = PD v (S.set k (.dcd (kvs ++ [(x, v)]))) := by
  simp only [sdefT, hp, h, hn]; rw [if_pos (Nat.lt_of_lt_of_le hl (szK (Nat.le_refl _)))]; rfl
theorem v_sdefS {kvs : List (D × D)} {x v y : D} {p : PyData} (h : S[k]? = some (.dcd kvs)) (hp : keyP x = some p) (hn : valT kvs x = some y) : Ok (sdefT (.ref k) [x, v] S) PD = PD y S := by
  simp only [sdefT, hp, h, hn]; rfl
theorem x_indexT : Ok (cIndexT fo fs env S) PD = Ok (fo env S) fun o S => if isT o = true then Ok (fs env S) fun ds S => Ok (indexDt o ds S) PD else False := by
  unfold cIndexT; rw [ok_bind]; congr 1; funext o S; rw [ok_ite, ok_bind]; rfl
end
def Shw (d : D) (n k : Nat) : Prop := ∃ p, pyP d = some p ∧ p.showable = true ∧ p.canLay0 = true ∧ p.shown.length ≤ n ∧ p.depth ≤ k
def shownD (d : D) : Str := match pyP d with
  | some p => p.shown
  | none => Str.empty
theorem Shw.imp {d : D} {n k n' k' : Nat} (h : Shw d n k) (hn : n ≤ n') (hk : k ≤ k') : Shw d n' k' :=
  let ⟨p, h1, h2, h3, h4, h5⟩ := h; ⟨p, h1, h2, h3, Nat.le_trans h4 hn, Nat.le_trans h5 hk⟩
theorem len_ofList (l : List Char) : (Str.ofString (String.ofList l)).length = l.length := by
  rw [PySem.W.Fast.ofString_ofList]
  show ((l.map Char.toNat).toArray).size = _
  simp
theorem len_ofString (x : String) : (Str.ofString x).length = x.length := by
  have := len_ofList x.toList; rw [String.ofList_toList] at this; rw [this]; rfl
theorem shw_int {i : Int} (h0 : 0 ≤ i) (h1 : i < 1000000000000000000) : Shw (.int i) 18 0 := by
  obtain ⟨n, rfl⟩ := Int.eq_ofNat_of_zero_le h0
  have hn : n < 10 ^ 18 := by omega
  refine ⟨.int n, rfl, ?_, rfl, ?_, Nat.le_refl _⟩
  · simp only [PyData.showable, decide_eq_true_eq, Int.natAbs_natCast]
    by_cases hz : n = 0
    · subst hz; decide
    · exact Nat.lt_of_lt_of_le ((Nat.log2_lt hz).mpr (Nat.lt_of_lt_of_le hn (by decide : 10 ^ 18 ≤ 2 ^ 60))) (by decide)
  · show (Str.ofString (toString (n : Int))).length ≤ 18
    rw [len_ofString]
    have : toString (n : Int) = Nat.repr n := rfl
    rw [this]
    exact (Nat.length_repr_le_iff (by decide)).mpr hn
theorem shw_str {x : Str} {n : Nat} (h1 : PyData.strOk x = true) (h : (reprText x).length ≤ n) : Shw (.str x) n 0 := ⟨.str x, rfl, rfl, by simpa [PyData.canLay0] using h1, h, Nat.le_refl _⟩
theorem shws {n k : Nat} : ∀ {xs : List D}, (∀ d ∈ xs, Shw d n k) → ∃ ps, pyPs xs = some ps ∧ PyData.showableAll ps = true ∧ PyData.canLayAll0 ps = true ∧ piled (PyData.shownAll ps) ≤ xs.length * (n + 2) ∧ (PyData.shownAll ps).length = xs.length ∧ PyData.depthAll ps ≤ k
  | [], _ => ⟨[], rfl, rfl, rfl, by simp [PyData.shownAll, piled], rfl, Nat.zero_le _⟩
  | d :: xs, h => by
    obtain ⟨p, h1, h2, h3, h4, h5⟩ := h d List.mem_cons_self
    obtain ⟨ps, g1, g2, g3, g4, g5, g6⟩ := shws (xs := xs) fun e he => h e (List.mem_cons_of_mem _ he)
    refine ⟨p :: ps, by simp [pyPs, h1, g1], by simp [PyData.showableAll, h2, g2], by simp [PyData.canLayAll0, h3, g3], ?_, by simp [PyData.shownAll, g5], by simp only [PyData.depthAll]; omega⟩
    have e : piled (PyData.shownAll (p :: ps)) = p.shown.length + 2 + piled (PyData.shownAll ps) := by simp [PyData.shownAll, piled]
    rw [e, List.length_cons, Nat.add_mul, Nat.one_mul]
    omega
theorem shw_tup {n k : Nat} {xs : List D} (h : ∀ d ∈ xs, Shw d n k) : Shw (.tup xs) (xs.length * (n + 2) + 3) (k + 1) := by
  obtain ⟨ps, g1, g2, g3, g4, g5, g6⟩ := shws h
  refine ⟨.tuple ps, by simp [pyP, g1], by simpa [PyData.showable] using g2, by simpa [PyData.canLay0] using g3, ?_, by simp only [PyData.depth]; omega⟩
  show (tupleText (PyData.shownAll ps)).length ≤ _
  unfold tupleText
  rw [strLen_append, strLen_append]
  have e1 : ("(" : Str).length = 1 := rfl
  have e2 : (Str.ofString (if (PyData.shownAll ps).length == 1 then ",)" else ")" : String)).length ≤ 2 := by split <;> decide
  rw [e1]
  by_cases hz : PyData.shownAll ps = []
  · rw [hz] at e2 ⊢
    have e3 : (Str.join ", " ([] : List Str)).length = 0 := rfl
    rw [e3]
    have : (Str.ofString (if ([] : List Str).length == 1 then ",)" else ")" : String)).length ≤ 2 := e2
    omega
  · have := join_length_add _ hz
    have e3 : (Str.ofString (if (PyData.shownAll ps).length == 1 then ",)" else ")" : String)).length ≤ 2 := e2
    omega
theorem v_repr {S : Sto} {PD : D → Sto → Prop} {xs : List D} {n k : Nat} (h : Shw (.tup xs) n k) (hn : n ≤ 16777216) (hk : k ≤ 1000) : Ok (reprD [.tup xs] S) PD = PD (.str (shownD (.tup xs))) S := by
  obtain ⟨p, h1, h2, h3, h4, h5⟩ := h
  simp only [reprD, shownD, h1]
  rw [if_pos ⟨h2, PyData.hasDict_of_canLay p h3, by rw [sizeLine_eq]; omega, by omega⟩]; rfl
theorem in_tup {S : Sto} {x : D} {p : PyData} {ps : List PyData} {ys : List D} (hx : pyP x = some p) (hp : Dk.shp p = true) (hd : p.depth ≤ 500) (hf : flatD x = false) (hn : ∀ k, x ≠ .ref k) (h2 : pyPs ys = some ps) (hps : Dk.shps ps = true) : inB2 S x (.tup ys) = some (decide (x ∈ ys)) := by
  have e1 : inB S x (.tup ys) = none := by simp only [inB, hf]; rw [if_neg (by simp)]
  have e2 : pyD S x = some p := by cases x <;> first | exact hx | exact absurd rfl (hn _)
  have e3 : pyD S (.tup ys) = some (.tuple ps) := by simp [pyD, pyP, h2]
  unfold inB2
  rw [e1, e2, e3]
  show inDat p ps = _
  unfold inDat
  rw [Dk.shps_lay ps hps, Dk.shp_lay p hp, if_pos (by simp; omega)]
  congr 1
  have : ∀ {ys : List D} {ps : List PyData}, pyPs ys = some ps → Dk.shps ps = true → (ps.any fun y => PyData.eqv y p) = decide (x ∈ ys) := by
    intro ys
    induction ys with
    | nil => intro ps h _; simp only [pyPs] at h; cases h; simp
    | cons y ys ih =>
      intro ps h hs
      simp only [pyPs] at h
      split at h
      · rename_i a b z1 z2
        cases h
        have hs' : Dk.shp a = true ∧ Dk.shps b = true := by simpa [Dk.shps] using hs
        rw [List.any_cons, ih z2 hs'.2]
        have c : PyData.eqv a p = decide (x = y) := by
          cases he : PyData.eqv a p with
          | true =>
            have hq := (Dk.eqv_iff a p hs'.1 hp).mp he
            subst hq
            exact (decide_eq_true (pyP_inj a x y hp hx z1)).symm
          | false =>
            refine (decide_eq_false fun q => ?_).symm
            subst q
            rw [hx] at z1
            cases z1
            rw [(Dk.eqv_iff p p hp hp).mpr rfl] at he
            cases he
        rw [c]
        by_cases q : x = y <;> simp [q]
      · cases h
  exact this h2 hps
end Ab

namespace Ab
open PySem PySem.Spec PyProof.Rows L2
theorem U0 : type_of% @x_def := @x_def
theorem U1 : type_of% @x_seq := @x_seq
theorem U2 : type_of% @x_asg := @x_asg
theorem U3 : type_of% @x_expr := @x_expr
theorem U4 : type_of% @x_ret := @x_ret
theorem U5 : type_of% @x_retN := @x_retN
theorem U6 : type_of% @x_pass := @x_pass
theorem U7 : type_of% @x_brk := @x_brk
theorem U8 : type_of% @x_cnt := @x_cnt
theorem U9 : type_of% @x_ifS := @x_ifS
theorem Ua : type_of% @x_par := @x_par
theorem Ub : type_of% @x_name := @x_name
theorem Uc : type_of% @x_sub := @x_sub
theorem Ud : type_of% @x_snil := @x_snil
theorem Ue : type_of% @x_scons := @x_scons
theorem Uf : type_of% @x_stup := @x_stup
theorem Ug : type_of% @x_var := @x_var
theorem Uh : type_of% @x_c := @x_c
theorem Ui : type_of% @x_op := @x_op
theorem Uj : type_of% @x_un := @x_un
theorem Uk : type_of% @x_test := @x_test
theorem Ul : type_of% @x_tru := @x_tru
theorem Um : type_of% @x_not := @x_not
theorem Uo : type_of% @x_and := @x_and
theorem Up : type_of% @x_or := @x_or
theorem Uq : type_of% @x_andV := @x_andV
theorem Ur : type_of% @x_orV := @x_orV
theorem Us : type_of% @x_if := @x_if
theorem Ut : type_of% @x_nil := @x_nil
theorem Uu : type_of% @x_cons := @x_cons
theorem Uv : type_of% @x_ap := @x_ap
theorem Uw : type_of% @x_mt := @x_mt
theorem Ux : type_of% @x_sl := @x_sl
theorem Uy : type_of% @x_nop := @x_nop
theorem Uz : type_of% @x_p := @x_p
theorem UA : type_of% @x_it := @x_it
theorem UB : type_of% @x_itA := @x_itA
theorem UC : type_of% @x_for := @x_for
theorem UD : type_of% @x_lc := @x_lc
theorem UE : type_of% @x_yes := @x_yes
theorem UF : type_of% @x_join := @x_join
theorem UG : type_of% @x_get2 := @x_get2
theorem UH : type_of% @x_get1 := @x_get1
theorem UI : type_of% @x_itK := @x_itK
theorem UJ : type_of% @x_dnew := @x_dnew
theorem UK : type_of% @x_aug := @x_aug
theorem UL : type_of% @x_disp := @x_disp
theorem UM : type_of% @x_pnil := @x_pnil
theorem UN : type_of% @x_pcons := @x_pcons
theorem UO : type_of% @aft_nx := @aft_nx
theorem UP : type_of% @aft_rt := @aft_rt
theorem UQ : type_of% @aft_bk := @aft_bk
theorem UR : type_of% @aft_ct := @aft_ct
theorem US : type_of% @trn_nx := @trn_nx
theorem UT : type_of% @trn_ct := @trn_ct
theorem UU : type_of% @trn_bk := @trn_bk
theorem UV : type_of% @trn_rt := @trn_rt
theorem UW : type_of% @end_rt := @end_rt
theorem UX : type_of% @end_nx := @end_nx
theorem UY : type_of% @x_setF := @x_setF
theorem UZ : type_of% @x_meth := @x_meth
theorem Y0 : type_of% @x_make := @x_make
theorem Y1 : type_of% @x_dnewT := @x_dnewT
theorem Y2 : type_of% @x_subT := @x_subT
theorem Y3 : type_of% @x_sdef := @x_sdef
theorem Y4 : type_of% @x_indexT := @x_indexT
theorem Y5 : type_of% @v_isB := @v_isB
theorem Y6 : type_of% @v_isI := @v_isI
theorem Y7 : type_of% @v_add := @v_add
theorem Y8 : type_of% @v_sub := @v_sub
theorem Y9 : type_of% @v_mul := @v_mul
theorem Ya : type_of% @v_mod := @v_mod
theorem Yb : type_of% @v_div := @v_div
theorem Yc : type_of% @v_1018 := @v_1018
theorem Yd : type_of% @v_lt := @v_lt
theorem Ye : type_of% @v_le := @v_le
theorem Yf : type_of% @v_gt := @v_gt
theorem Yg : type_of% @v_ge := @v_ge
theorem Yh : type_of% @v_eqI := @v_eqI
theorem Yi : type_of% @v_eqS := @v_eqS
theorem Yj : type_of% @v_neI := @v_neI
theorem Yk : type_of% @v_neS := @v_neS
theorem Yl : type_of% @v_is := @v_is
theorem Ym : type_of% @v_isNot := @v_isNot
theorem Yn : type_of% @v_neg := @v_neg
theorem Yo : type_of% @v_notV := @v_notV
theorem Yp : type_of% @v_truB := @v_truB
theorem Yq : type_of% @v_truI := @v_truI
theorem Yr : type_of% @v_ixT := @v_ixT
theorem Ys : type_of% @v_ixR := @v_ixR
theorem Yt : type_of% @v_lenT := @v_lenT
theorem Yu : type_of% @v_lenR := @v_lenR
theorem Yv : type_of% @v_intB := @v_intB
theorem Yw : type_of% @v_intI := @v_intI
theorem Yx : type_of% @v_max := @v_max
theorem Yy : type_of% @v_min := @v_min
theorem Yz : type_of% @v_rng1 := @v_rng1
theorem YA : type_of% @v_rng2 := @v_rng2
theorem YB : type_of% @v_itT := @v_itT
theorem YC : type_of% @v_itR := @v_itR
theorem YD : type_of% @v_itS := @v_itS
theorem YE : type_of% @v_slR := @v_slR
theorem YF : type_of% @v_slT := @v_slT
theorem YG : type_of% @keyK_s := @keyK_s
theorem YH : type_of% @keyK_i := @keyK_i
theorem YI : type_of% @v_listT := @v_listT
theorem YJ : type_of% @v_tupT := @v_tupT
theorem YK : type_of% @v_ixDr := @v_ixDr
theorem YL : type_of% @v_zipT := @v_zipT
theorem YM : type_of% @v_inT := @v_inT
theorem YN : type_of% @v_notInT := @v_notInT
theorem YO : type_of% @v_nonI := @v_nonI
theorem YQ : type_of% @v_mulS1 := @v_mulS1
theorem YR : type_of% @v_mulS0 := @v_mulS0
theorem YS : type_of% @v_mkT0 := @v_mkT0
theorem YT : type_of% @v_mkL0 := @v_mkL0
theorem YU : type_of% @v_mkT1 := @v_mkT1
theorem YV : type_of% @v_mkL1 := @v_mkL1
theorem YW : type_of% @v_mkT2 := @v_mkT2
theorem YX : type_of% @v_mkL2 := @v_mkL2
theorem YY : type_of% @v_mkT3 := @v_mkT3
theorem YZ : type_of% @v_mkL3 := @v_mkL3
theorem J0 : type_of% @v_mkT4 := @v_mkT4
theorem J2 : type_of% @v_mkL4 := @v_mkL4
theorem J3 : type_of% @v_mkT5 := @v_mkT5
theorem J4 : type_of% @v_mkL5 := @v_mkL5
theorem J5 : type_of% @v_mkT6 := @v_mkT6
theorem J6 : type_of% @v_mkL6 := @v_mkL6
theorem J7 : type_of% @v_mkT7 := @v_mkT7
theorem J8 : type_of% @v_mkL7 := @v_mkL7
theorem J9 : type_of% @v_mkT8 := @v_mkT8
theorem Ja : type_of% @v_mkL8 := @v_mkL8
def Jb := @List.map_cons
def Jc := @List.map_nil
def Jd := @List.length_cons
def Je := @List.length_nil
def Jf := @List.replicate_zero
def Jg := @List.replicate_succ
def Jh := @List.cons_append
def Ji := @List.nil_append
def Jj := @List.append_nil
def Jk := @List.getElem?_cons_zero
def Jl := @List.getElem?_cons_succ
def Jm := @List.set_cons_zero
def Jn := @List.set_cons_succ
def Jo := @if_true
def Jp := @if_false
def Jq := @ite_true
def Jr := @ite_false
def Js := @Bool.false_eq_true
def Jt := @decide_eq_true_eq
def Ju := @List.cons.injEq
def Jv := @and_true
def Jw := @true_and
def Jx := @exists_eq_left
def Jy := @exists_eq_left'
def Jz := @exists_eq
def JA := @and_self
def JB := @atI_0
def JC := @atI_1
def JD := @atI_2
def JE := @atI_3
def JF := @decide_true
def JG := @decide_false
def JH := @Bool.not_true
def JI := @Bool.not_false
end Ab

namespace Ab
open PySem PySem.Spec PyProof.Rows L2
noncomputable def d__law_box : List D → M D := cDef 4 2 (
    (cSeq (cAsg (cOp opAdd (cOp opMul (cC (.int 6007)) (cVar 1)) (cC (.int 17))) (sName 2))
    (cSeq (cIfS (cTest (cOp opLt (cVar 1) (cAp lenD (cCons (cVar 0) cNil)))) (cAsg (cOp ixD (cVar 0) (cVar 1)) (sName 2)) (cIfS (cTest (cOp opGt (cAp lenD (cCons (cVar 0) cNil)) (cC (.int 0)))) (cAsg (cOp opAdd (cVar 2) (cOp opMul (cOp opMod (cOp ixD (cVar 0) (cOp opMod (cVar 1) (cAp lenD (cCons (cVar 0) cNil)))) (cC (.int 2147483629))) (cC (.int 69623)))) (sName 2)) cPass))
    (cSeq (cAsg (cOp opAdd (cOp opMod (cOp opAdd (cOp opMul (cOp opMod (cVar 2) (cC (.int 2147483629))) (cC (.int 48271))) (cOp opMul (cC (.int 40692)) (cVar 1))) (cC (.int 2147483629))) (cC (.int 1))) (sName 3))
    (cRet (cAp mkL (cCons (cOp ixD (cAp mkL (cCons (cC (.int 0)) (cCons (cVar 2) cNil))) (cAp intB (cCons (cOp opGe (cVar 2) (cOp opPow (cC (.int 10)) (cC (.int 18)))) cNil))) (cCons (cVar 3) cNil))))))))
noncomputable def d__law_take : List D → M D := cDef 4 2 (
    (cSeq (cIfS (cTest (cOp opGt (cOp ixD (cVar 0) (cC (.int 0))) (cC (.int 0)))) (cSeq (cAsg (cOp opMod (cOp ixD (cVar 0) (cC (.int 0))) (cVar 1)) (sName 2))
    (cSeq (cAsg (cOp opDiv (cOp ixD (cVar 0) (cC (.int 0))) (cVar 1)) (sSub (cVar 0) (cC (.int 0))))
    (cRet (cVar 2)))) cPass)
    (cSeq (cAsg (cOp opMod (cOp opMul (cOp ixD (cVar 0) (cC (.int 1))) (cC (.int 69623))) (cC (.int 2147483647))) (sName 3))
    (cSeq (cAsg (cOp opAdd (cOp opMod (cOp opAdd (cOp opMul (cVar 3) (cC (.int 48271))) (cC (.int 30103))) (cC (.int 2147483629))) (cC (.int 1))) (sSub (cVar 0) (cC (.int 1))))
    (cRet (cOp opMod (cOp opDiv (cOp opAdd (cOp opMul (cVar 3) (cC (.int 2147483647))) (cOp ixD (cVar 0) (cC (.int 1)))) (cC (.int 8191))) (cVar 1)))))))
noncomputable def d__law_number : List D → M D := cDef 2 1 (
    (cSeq (cAsg (cAp d__law_take (cCons (cVar 0) (cCons (cC (.int 4)) cNil))) (sName 1))
    (cSeq (cIfS (cTest (cOp opEq (cVar 1) (cC (.int 0)))) (cRet (cOp opSub (cOp opSub (cOp opPow (cC (.int 10)) (cC (.int 18))) (cC (.int 1))) (cAp d__law_take (cCons (cVar 0) (cCons (cC (.int 9)) cNil))))) cPass)
    (cRet (cAp d__law_take (cCons (cVar 0) (cCons (cOp ixD (cAp mkL (cCons (cOp opPow (cC (.int 10)) (cC (.int 18))) (cCons (cC (.int 9)) (cCons (cC (.int 3)) cNil)))) (cOp opSub (cVar 1) (cC (.int 1)))) cNil)))))))
noncomputable def d__law_entry : List D → M D := cDef 3 2 (
    (cSeq (cAsg (cAp d__law_take (cCons (cVar 0) (cCons (cC (.int 5)) cNil))) (sName 2))
    (cSeq (cIfS (cTest (cOp opEq (cVar 2) (cC (.int 0)))) (cRet (cAp mkT (cCons (cC (.str (Str.ofString "num"))) (cCons (cAp d__law_number (cCons (cVar 0) cNil)) cNil)))) cPass)
    (cSeq (cIfS (cOr (cTest (cOp opEq (cVar 2) (cC (.int 1)))) (cTest (cOp opEq (cVar 1) (cC (.int 0))))) (cRet (cAp mkT (cCons (cC (.str (Str.ofString "far"))) (cCons (cAp d__law_number (cCons (cVar 0) cNil)) cNil)))) cPass)
    (cRet (cAp mkT (cCons (cC (.str (Str.ofString "slip"))) (cCons (cAp d__law_take (cCons (cVar 0) (cCons (cVar 1) cNil))) cNil))))))))
noncomputable def d__law_slip : List D → M D := cDef 3 2 (
    (cRet (cAp mkT (cCons (cAp d__law_take (cCons (cVar 0) (cCons (cC (.int 60)) cNil))) (cCons (cAp tupleD (cCons (cLc (cItA rng1 (cCons (cAp d__law_take (cCons (cVar 0) (cCons (cC (.int 5)) cNil))) cNil)) (sName 2) cYes (cAp d__law_entry (cCons (cVar 0) (cCons (cVar 1) cNil))) [2]) cNil)) cNil)))))
noncomputable def d__law_near : List D → M D := cDef 6 2 (
    (cSeq (cAsg (cAp d__law_take (cCons (cVar 0) (cCons (cC (.int 6)) cNil))) (sName 2))
    (cSeq (cIfS (cOr (cTest (cOp opEq (cAp lenD (cCons (cVar 1) cNil)) (cC (.int 0)))) (cTest (cOp opEq (cVar 2) (cC (.int 0))))) (cRet (cAp d__law_slip (cCons (cVar 0) (cCons (cAp lenD (cCons (cVar 1) cNil)) cNil)))) cPass)
    (cSeq (cAsg (cOp ixD (cVar 1) (cAp d__law_take (cCons (cVar 0) (cCons (cAp lenD (cCons (cVar 1) cNil)) cNil)))) (sTup 2 (sCons (sName 3) (sCons (sName 4) sNil))))
    (cSeq (cIfS (cTest (cOp opLt (cVar 2) (cC (.int 3)))) (cRet (cAp mkT (cCons (cVar 3) (cCons (cVar 4) cNil)))) cPass)
    (cSeq (cIfS (cTest (cOp opEq (cVar 2) (cC (.int 3)))) (cRet (cAp mkT (cCons (cOp opMod (cOp opAdd (cOp opAdd (cVar 3) (cC (.int 1))) (cAp d__law_take (cCons (cVar 0) (cCons (cC (.int 58)) cNil)))) (cC (.int 60))) (cCons (cVar 4) cNil)))) cPass)
    (cSeq (cAsg (cAp d__law_take (cCons (cVar 0) (cCons (cOp opAdd (cAp lenD (cCons (cVar 4) cNil)) (cC (.int 1))) cNil))) (sName 5))
    (cSeq (cIfS (cTest (cOp opEq (cVar 2) (cC (.int 4)))) (cRet (cAp mkT (cCons (cVar 3) (cCons (cOp opAdd (cOp opAdd (cSl (cVar 4) cNoP (cP (cVar 5))) (cAp mkT (cCons (cAp d__law_entry (cCons (cVar 0) (cCons (cAp lenD (cCons (cVar 1) cNil)) cNil))) cNil))) (cSl (cVar 4) (cP (cOp opAdd (cVar 5) (cC (.int 1)))) cNoP)) cNil)))) cPass)
    (cSeq (cIfS (cTest (cOp opEq (cAp d__law_take (cCons (cVar 0) (cCons (cC (.int 2)) cNil))) (cC (.int 0)))) (cRet (cAp mkT (cCons (cVar 3) (cCons (cOp opAdd (cSl (cVar 4) cNoP (cP (cVar 5))) (cSl (cVar 4) (cP (cOp opAdd (cVar 5) (cC (.int 1)))) cNoP)) cNil)))) cPass)
    (cRet (cAp mkT (cCons (cVar 3) (cCons (cOp opAdd (cOp opAdd (cSl (cVar 4) cNoP (cP (cVar 5))) (cAp mkT (cCons (cAp d__law_entry (cCons (cVar 0) (cCons (cAp lenD (cCons (cVar 1) cNil)) cNil))) cNil))) (cSl (cVar 4) (cP (cVar 5)) cNoP)) cNil)))))))))))))
noncomputable def d_Book____init__ : List D → M D := cDef 2 2 (
    (cSeq (cSetF (Str.ofString "Book") (Str.ofString "rows") (cVar 0) (cAp listD (cCons (cVar 1) cNil)))
    (cSetF (Str.ofString "Book") (Str.ofString "numbers") (cVar 0) (cC .non))))
noncomputable def d_Book__number_for : List D → M D := cDef 4 2 (
    (cSeq (cIfS (cTest (cOp opIs (cUn (fldD (Str.ofString "Book") (Str.ofString "numbers")) (cVar 0)) (cC .non))) (cSeq (cSetF (Str.ofString "Book") (Str.ofString "numbers") (cVar 0) cDnewT)
    (cFor (cItA enu2 (cCons (cUn (fldD (Str.ofString "Book") (Str.ofString "rows")) (cVar 0)) cNil)) (sTup 2 (sCons (sName 2) (sCons (sName 3) sNil)))
    (cExpr (cSdef (cUn (fldD (Str.ofString "Book") (Str.ofString "numbers")) (cVar 0)) (cCons (cVar 3) (cCons (cVar 2) cNil)))))) cPass)
    (cSeq (cIfS (cTest (cOp opNotInT (cVar 1) (cUn (fldD (Str.ofString "Book") (Str.ofString "numbers")) (cVar 0)))) (cSeq (cAsg (cAp lenD (cCons (cUn (fldD (Str.ofString "Book") (Str.ofString "rows")) (cVar 0)) cNil)) (sSubT (cUn (fldD (Str.ofString "Book") (Str.ofString "numbers")) (cVar 0)) (cVar 1)))
    (cExpr (cMt appendD (cUn (fldD (Str.ofString "Book") (Str.ofString "rows")) (cVar 0)) (cCons (cVar 1) cNil)))) cPass)
    (cRet (cOp ixT (cUn (fldD (Str.ofString "Book") (Str.ofString "numbers")) (cVar 0)) (cVar 1))))))
noncomputable def d_Book__all_slips : List D → M D := cDef 1 1 (
    (cRet (cAp tupleD (cCons (cUn (fldD (Str.ofString "Book") (Str.ofString "rows")) (cVar 0)) cNil))))
noncomputable def d_slip_for : List D → M D := cDef 4 2 (
    (cSeq (cAsg (cMake (Str.ofString "Book") d_Book____init__ (cCons (cVar 0) cNil)) (sName 2))
    (cSeq (cAsg (cMeth (Str.ofString "Book") (Str.ofString "number_for") d_Book__number_for (cVar 2) (cCons (cVar 1) cNil)) (sName 3))
    (cRet (cAp mkT (cCons (cVar 3) (cCons (cMeth (Str.ofString "Book") (Str.ofString "all_slips") d_Book__all_slips (cVar 2) cNil) cNil)))))))
noncomputable def d_law : List D → M D := cDef 7 1 (
    (cSeq (cAsg (cAp d__law_box (cCons (cVar 0) (cCons (cC (.int 0)) cNil))) (sName 1))
    (cSeq (cAsg (cAp mkT cNil) (sName 2))
    (cSeq (cFor (cItA rng1 (cCons (cAp d__law_take (cCons (cVar 1) (cCons (cC (.int 31)) cNil))) cNil)) (sName 3)
    (cSeq (cAsg (cAp d__law_slip (cCons (cVar 1) (cCons (cAp lenD (cCons (cVar 2) cNil)) cNil))) (sName 4))
    (cIfS (cTest (cOp opNotIn2 (cVar 4) (cVar 2))) (cAsg (cOp opAdd (cVar 2) (cAp mkT (cCons (cVar 4) cNil))) (sName 2)) cPass)))
    (cSeq (cFor (cItA rng2 (cCons (cC (.int 1)) (cCons (cOp opAdd (cC (.int 2)) (cAp lenD (cCons (cSl (cVar 0) (cP (cC (.int 1))) (cP (cC (.int 9)))) cNil))) cNil))) (sName 3)
    (cSeq (cAsg (cAp d__law_near (cCons (cAp d__law_box (cCons (cVar 0) (cCons (cVar 3) cNil))) (cCons (cVar 2) cNil))) (sName 4))
    (cSeq (cAsg (cAp mkT (cCons (cAp lenD (cCons (cVar 2) cNil)) (cCons (cOp opAdd (cVar 2) (cAp mkT (cCons (cVar 4) cNil))) cNil))) (sName 5))
    (cSeq (cIfS (cTest (cOp opIn2 (cVar 4) (cVar 2))) (cAsg (cAp mkT (cCons (cIndexT (cVar 2) (cCons (cVar 4) cNil)) (cCons (cVar 2) cNil))) (sName 5)) cPass)
    (cSeq (cAsg (cAp d_slip_for (cCons (cVar 2) (cCons (cVar 4) cNil))) (sName 6))
    (cSeq (cIfS (cOr (cTest (cOp opNe (cAp reprD (cCons (cVar 6) cNil)) (cAp reprD (cCons (cVar 5) cNil)))) (cTest (cOp opNe (cAp reprD (cCons (cAp d_slip_for (cCons (cOp ixD (cVar 5) (cC (.int 1))) (cCons (cVar 4) cNil))) cNil)) (cAp reprD (cCons (cVar 5) cNil))))) (cRet (cC (.bl false))) cPass)
    (cAsg (cOp ixD (cVar 5) (cC (.int 1))) (sName 2))))))))
    (cRet (cC (.bl true))))))))
end Ab


namespace Ab
open PySem PySem.Spec PyProof.Rows L2 TL
inductive Ent where
  | on | num (n : Int) | far (n : Int) | slp (n : Int)
  deriving DecidableEq
structure Slp where
  gate : Int
  ents : List Ent
  deriving DecidableEq
def entE : Ent → D
  | .on => .tup [.str (Str.ofString "on")]
  | .num n => .tup [.str (Str.ofString "num"), .int n]
  | .far n => .tup [.str (Str.ofString "far"), .int n]
  | .slp n => .tup [.str (Str.ofString "slip"), .int n]
def slpE (s : Slp) : D := .tup [.int s.gate, .tup (s.ents.map entE)]
def entP : Ent → PyData
  | .on => .tuple [.str (Str.ofString "on")]
  | .num n => .tuple [.str (Str.ofString "num"), .int n]
  | .far n => .tuple [.str (Str.ofString "far"), .int n]
  | .slp n => .tuple [.str (Str.ofString "slip"), .int n]
def slpP (s : Slp) : PyData := .tuple [.int s.gate, .tuple (s.ents.map entP)]
theorem entE_inj : ∀ {a b : Ent}, entE a = entE b → a = b := by
  intro a b h
  cases a <;> cases b <;> simp [entE, str_lit] at h <;> first | rfl | (subst h; rfl)
theorem map_entE_inj : ∀ {a b : List Ent}, a.map entE = b.map entE → a = b
  | [], [], _ => rfl
  | [], _ :: _, h => by simp at h
  | _ :: _, [], h => by simp at h
  | x :: a, y :: b, h => by
    rw [List.map_cons, List.map_cons, List.cons.injEq] at h
    rw [entE_inj h.1, map_entE_inj h.2]
theorem slpE_inj {a b : Slp} (h : slpE a = slpE b) : a = b := by
  obtain ⟨g, e⟩ := a
  obtain ⟨g', e'⟩ := b
  simp only [slpE, D.tup.injEq, List.cons.injEq, D.int.injEq, and_true] at h
  rw [h.1, map_entE_inj h.2]
theorem pyP_ent (e : Ent) : pyP (entE e) = some (entP e) := by cases e <;> simp [entE, entP, pyP, pyPs]
theorem pyPs_ent : ∀ es : List Ent, pyPs (es.map entE) = some (es.map entP)
  | [] => rfl
  | e :: es => by simp [pyPs, pyP_ent, pyPs_ent es]
theorem pyP_slp (s : Slp) : pyP (slpE s) = some (slpP s) := by simp [slpE, slpP, pyP, pyPs, pyPs_ent]
theorem pyPs_slp : ∀ ss : List Slp, pyPs (ss.map slpE) = some (ss.map slpP)
  | [] => rfl
  | s :: ss => by simp [pyPs, pyP_slp, pyPs_slp ss]
theorem shp_ent (e : Ent) : Dk.shp (entP e) = true ∧ (entP e).depth = 1 := by
  cases e <;> refine ⟨?_, rfl⟩ <;> simp only [entP, Dk.shp, Dk.shps, Bool.and_true] <;> decide +kernel
theorem shps_ent : ∀ es : List Ent, Dk.shps (es.map entP) = true ∧ PyData.depthAll (es.map entP) ≤ 1
  | [] => ⟨rfl, Nat.zero_le _⟩
  | e :: es => by
    obtain ⟨h1, h2⟩ := shps_ent es
    obtain ⟨h3, h4⟩ := shp_ent e
    exact ⟨by rw [List.map_cons, Dk.shps, h3, h1]; rfl, by rw [List.map_cons]; simp only [PyData.depthAll]; omega⟩
theorem key_slp (s : Slp) : Dk.keyOk (slpP s) = true := by
  obtain ⟨h1, h2⟩ := shps_ent s.ents
  simp only [slpP, Dk.keyOk, Dk.shps, Dk.shp, PyData.depthAll, PyData.depth, h1, Bool.true_and, Bool.and_true, decide_eq_true_eq]
  have : max 0 (max (PyData.depthAll (s.ents.map entP) + 1) 0) ≤ 7 := by omega
  exact decide_eq_true this
theorem keyP_slp (s : Slp) : keyP (slpE s) = some (slpP s) := by
  unfold keyP
  rw [pyP_slp]
  simp only [key_slp, if_true]
theorem shps_slp : ∀ ss : List Slp, Dk.shps (ss.map slpP) = true
  | [] => rfl
  | s :: ss => by rw [List.map_cons, Dk.shps, (Dk.keyOk_shp (key_slp s)).1, shps_slp ss]; rfl
def nxS (ss : List Slp) (s : Slp) : List Slp := if s ∈ ss then ss else ss ++ [s]
def ixS (ss : List Slp) (s : Slp) : Nat := ss.idxOf s
theorem ixS_new {ss : List Slp} {s : Slp} (h : s ∉ ss) : ixS ss s = ss.length := List.idxOf_eq_length h
theorem idxDt_map {ss : List Slp} {s : Slp} : idxDt (slpE s) (ss.map slpE) = if s ∈ ss then some (ixS ss s) else none := by
  induction ss with
  | nil => rfl
  | cons t ss ih =>
    rw [List.map_cons, idxDt]
    by_cases e : t = s
    · subst e
      rw [if_pos rfl, if_pos List.mem_cons_self]
      simp [ixS]
    · rw [if_neg (fun z => e (slpE_inj z)), ih]
      have e' : ¬ s = t := fun z => e z.symm
      by_cases hm : s ∈ ss
      · rw [if_pos hm, if_pos (List.mem_cons_of_mem _ hm)]
        have : (t == s) = false := beq_eq_false_iff_ne.mpr e
        simp [ixS, List.idxOf_cons, this]
      · rw [if_neg hm, if_neg (by simp [e', hm])]; rfl
theorem nxS_mem {ss : List Slp} {s : Slp} : s ∈ nxS ss s := by
  unfold nxS; split
  · assumption
  · exact List.mem_append_right _ List.mem_cons_self
theorem ixS_nx {ss : List Slp} {s : Slp} : ixS (nxS ss s) s = ixS ss s := by
  unfold nxS
  split
  · rfl
  · rename_i h
    rw [ixS_new h, ixS, List.idxOf_append, if_neg h]; simp
noncomputable def numsT : List (D × D) → Nat → List D → List (D × D)
  | acc, _, [] => acc
  | acc, n, x :: xs => numsT (if (valT acc x).isSome then acc else acc ++ [(x, .int n)]) (n + 1) xs
theorem valT_app {a : List (D × D)} {x v d : D} : valT (a ++ [(x, v)]) d = match valT a d with
  | some w => some w
  | none => if x = d then some v else none := by
  induction a with
  | nil => simp only [List.nil_append, valT]
  | cons p a ih =>
    obtain ⟨k, w⟩ := p
    rw [List.cons_append, valT, valT]
    by_cases e : k = d
    · rw [if_pos e, if_pos e]
    · rw [if_neg e, if_neg e, ih]
theorem numsT_val {d : D} : ∀ (xs : List D) (acc : List (D × D)) (n : Nat), valT (numsT acc n xs) d = (match valT acc d with
  | some w => some w
  | none => (idxDt d xs).map fun j => .int (n + j : Nat))
  | [], acc, n => by
    unfold numsT idxDt
    cases valT acc d <;> rfl
  | x :: xs, acc, n => by
    rw [numsT, numsT_val xs, idxDt]
    have sh : ∀ o : Option Nat, Option.map (fun j => D.int ((n + 1 + j : Nat))) o = Option.map (fun j => D.int ((n + j : Nat))) (Option.map (· + 1) o) := by
      intro o
      cases o with
      | none => rfl
      | some j => simp only [Option.map_some]; rw [show n + 1 + j = n + (j + 1) by omega]
    by_cases h1 : (valT acc x).isSome = true
    · rw [if_pos h1]
      cases hd : valT acc d with
      | some w => rfl
      | none =>
        have e : ¬ x = d := fun z => by subst z; rw [hd] at h1; cases h1
        rw [if_neg e]
        exact sh _
    · rw [if_neg h1, valT_app]
      cases hd : valT acc d with
      | some w => rfl
      | none =>
        by_cases e : x = d
        · rw [if_pos e, if_pos e]; rfl
        · rw [if_neg e, if_neg e]; exact sh _
theorem cm_r {i j : Int} (h : (decide (-(2 ^ 64) < j) && decide (j < 2 ^ 64)) = true) : cmul i j = true := by unfold cmul; rw [h, Bool.or_true]
theorem cm_l {i j : Int} (h : (decide (-(2 ^ 64) < i) && decide (i < 2 ^ 64)) = true) : cmul i j = true := by unfold cmul; rw [h, Bool.true_or]
theorem cm1 {i : Int} : cmul i 69623 = true := cm_r (by decide)
theorem cm2 {i : Int} : cmul i 48271 = true := cm_r (by decide)
theorem cm3 {i : Int} : cmul i 2147483647 = true := cm_r (by decide)
theorem cm4 {i : Int} : cmul 6007 i = true := cm_l (by decide)
theorem cm5 {i : Int} : cmul 40692 i = true := cm_l (by decide)
theorem take_ok {S : Sto} {b : Nat} {n : Int} {P : D → Sto → Prop} (hb : BoxA S b) (h0 : 0 < n) (h1 : n < 2 ^ 100) (h : ∀ (i : Int) (S' : Sto), 0 ≤ i → i < n → BoxA S' b → OnlyB b S S' → P (.int i) S') : Ok (d__law_take [.ref b, .int n] S) P := by
  obtain ⟨x, y, hS⟩ := hb
  unfold d__law_take
  simp only [U0,U1,U2,U3,U4,U5,U6,U7,U8,U9,Ua,Ub,Uc,Ud,Ue,Uf,Ug,Uh,Ui,Uj,Uk,Ul,Um,Uo,Up,Uq,Ur,Us,Ut,Uu,Uv,Uw,Ux,Uy,Uz,UA,UB,UC,UD,UE,UF,UG,UH,UI,UJ,UK,UL,UM,UN,UO,UP,UQ,UR,US,UT,UU,UV,UW,UX,Y5,Y6,Y7,Y8,Y9,Ya,Yb,Yc,Yd,Ye,Yf,Yg,Yh,Yi,Yj,Yk,Yl,Ym,Yn,Yo,Yp,Yq,Yr,Ys,Yt,Yu,Yv,Yw,Yx,Yy,Yz,YA,YB,YC,YD,YE,YF,YG,YH,YI,YJ,YK,YL,YM,YN,YO,YQ,YR,YS,YT,YU,YV,YW,YX,YY,YZ,J0,J2,J3,J4,J5,J6,J7,J8,J9,Ja,startD,Jb,Jc,Jd,Je,Nat.reduceAdd,Nat.reduceSub,Jf,Jg,Jh,Ji,Jj,Jk,Jl,Jm,Jn,Jo,Jp,Jq,Jr,reduceIte,Js,Jt,Int.reduceLT,Int.reduceLE,Int.reduceAdd,Int.reduceSub,Int.reduceMul,Int.reduceNeg,Ju,Jv,Jw,Jx,Jy,Jz,JA,JB,JC,JD,JE,str_lit,String.reduceEq,JF,JG,JH,JI, v_ixL hS]
  split
  · refine nxt ?_
    simp only [U0,U1,U2,U3,U4,U5,U6,U7,U8,U9,Ua,Ub,Uc,Ud,Ue,Uf,Ug,Uh,Ui,Uj,Uk,Ul,Um,Uo,Up,Uq,Ur,Us,Ut,Uu,Uv,Uw,Ux,Uy,Uz,UA,UB,UC,UD,UE,UF,UG,UH,UI,UJ,UK,UL,UM,UN,UO,UP,UQ,UR,US,UT,UU,UV,UW,UX,Y5,Y6,Y7,Y8,Y9,Ya,Yb,Yc,Yd,Ye,Yf,Yg,Yh,Yi,Yj,Yk,Yl,Ym,Yn,Yo,Yp,Yq,Yr,Ys,Yt,Yu,Yv,Yw,Yx,Yy,Yz,YA,YB,YC,YD,YE,YF,YG,YH,YI,YJ,YK,YL,YM,YN,YO,YQ,YR,YS,YT,YU,YV,YW,YX,YY,YZ,J0,J2,J3,J4,J5,J6,J7,J8,J9,Ja,startD,Jb,Jc,Jd,Je,Nat.reduceAdd,Nat.reduceSub,Jf,Jg,Jh,Ji,Jj,Jk,Jl,Jm,Jn,Jo,Jp,Jq,Jr,reduceIte,Js,Jt,Int.reduceLT,Int.reduceLE,Int.reduceAdd,Int.reduceSub,Int.reduceMul,Int.reduceNeg,Ju,Jv,Jw,Jx,Jy,Jz,JA,JB,JC,JD,JE,str_lit,String.reduceEq,JF,JG,JH,JI, v_ixL hS, v_setL hS ixN_20]
    rw [if_pos ⟨h0, h1⟩]
    refine nxt ?_
    simp only [U0,U1,U2,U3,U4,U5,U6,U7,U8,U9,Ua,Ub,Uc,Ud,Ue,Uf,Ug,Uh,Ui,Uj,Uk,Ul,Um,Uo,Up,Uq,Ur,Us,Ut,Uu,Uv,Uw,Ux,Uy,Uz,UA,UB,UC,UD,UE,UF,UG,UH,UI,UJ,UK,UL,UM,UN,UO,UP,UQ,UR,US,UT,UU,UV,UW,UX,Y5,Y6,Y7,Y8,Y9,Ya,Yb,Yc,Yd,Ye,Yf,Yg,Yh,Yi,Yj,Yk,Yl,Ym,Yn,Yo,Yp,Yq,Yr,Ys,Yt,Yu,Yv,Yw,Yx,Yy,Yz,YA,YB,YC,YD,YE,YF,YG,YH,YI,YJ,YK,YL,YM,YN,YO,YQ,YR,YS,YT,YU,YV,YW,YX,YY,YZ,J0,J2,J3,J4,J5,J6,J7,J8,J9,Ja,startD,Jb,Jc,Jd,Je,Nat.reduceAdd,Nat.reduceSub,Jf,Jg,Jh,Ji,Jj,Jk,Jl,Jm,Jn,Jo,Jp,Jq,Jr,reduceIte,Js,Jt,Int.reduceLT,Int.reduceLE,Int.reduceAdd,Int.reduceSub,Int.reduceMul,Int.reduceNeg,Ju,Jv,Jw,Jx,Jy,Jz,JA,JB,JC,JD,JE,str_lit,String.reduceEq,JF,JG,JH,JI]
    exact h _ _ (Int.emod_nonneg x (by omega)) (Int.emod_lt_of_pos x h0) ⟨_, _, get_set hS⟩ (OnlyB.refl b S).put
  · refine nxt ?_
    simp only [U0,U1,U2,U3,U4,U5,U6,U7,U8,U9,Ua,Ub,Uc,Ud,Ue,Uf,Ug,Uh,Ui,Uj,Uk,Ul,Um,Uo,Up,Uq,Ur,Us,Ut,Uu,Uv,Uw,Ux,Uy,Uz,UA,UB,UC,UD,UE,UF,UG,UH,UI,UJ,UK,UL,UM,UN,UO,UP,UQ,UR,US,UT,UU,UV,UW,UX,Y5,Y6,Y7,Y8,Y9,Ya,Yb,Yc,Yd,Ye,Yf,Yg,Yh,Yi,Yj,Yk,Yl,Ym,Yn,Yo,Yp,Yq,Yr,Ys,Yt,Yu,Yv,Yw,Yx,Yy,Yz,YA,YB,YC,YD,YE,YF,YG,YH,YI,YJ,YK,YL,YM,YN,YO,YQ,YR,YS,YT,YU,YV,YW,YX,YY,YZ,J0,J2,J3,J4,J5,J6,J7,J8,J9,Ja,startD,Jb,Jc,Jd,Je,Nat.reduceAdd,Nat.reduceSub,Jf,Jg,Jh,Ji,Jj,Jk,Jl,Jm,Jn,Jo,Jp,Jq,Jr,reduceIte,Js,Jt,Int.reduceLT,Int.reduceLE,Int.reduceAdd,Int.reduceSub,Int.reduceMul,Int.reduceNeg,Ju,Jv,Jw,Jx,Jy,Jz,JA,JB,JC,JD,JE,str_lit,String.reduceEq,JF,JG,JH,JI, v_ixL hS, cm1]
    refine nxt ?_
    simp only [U0,U1,U2,U3,U4,U5,U6,U7,U8,U9,Ua,Ub,Uc,Ud,Ue,Uf,Ug,Uh,Ui,Uj,Uk,Ul,Um,Uo,Up,Uq,Ur,Us,Ut,Uu,Uv,Uw,Ux,Uy,Uz,UA,UB,UC,UD,UE,UF,UG,UH,UI,UJ,UK,UL,UM,UN,UO,UP,UQ,UR,US,UT,UU,UV,UW,UX,Y5,Y6,Y7,Y8,Y9,Ya,Yb,Yc,Yd,Ye,Yf,Yg,Yh,Yi,Yj,Yk,Yl,Ym,Yn,Yo,Yp,Yq,Yr,Ys,Yt,Yu,Yv,Yw,Yx,Yy,Yz,YA,YB,YC,YD,YE,YF,YG,YH,YI,YJ,YK,YL,YM,YN,YO,YQ,YR,YS,YT,YU,YV,YW,YX,YY,YZ,J0,J2,J3,J4,J5,J6,J7,J8,J9,Ja,startD,Jb,Jc,Jd,Je,Nat.reduceAdd,Nat.reduceSub,Jf,Jg,Jh,Ji,Jj,Jk,Jl,Jm,Jn,Jo,Jp,Jq,Jr,reduceIte,Js,Jt,Int.reduceLT,Int.reduceLE,Int.reduceAdd,Int.reduceSub,Int.reduceMul,Int.reduceNeg,Ju,Jv,Jw,Jx,Jy,Jz,JA,JB,JC,JD,JE,str_lit,String.reduceEq,JF,JG,JH,JI, cm2, v_setL hS ixN_21]
    refine nxt ?_
    simp only [U0,U1,U2,U3,U4,U5,U6,U7,U8,U9,Ua,Ub,Uc,Ud,Ue,Uf,Ug,Uh,Ui,Uj,Uk,Ul,Um,Uo,Up,Uq,Ur,Us,Ut,Uu,Uv,Uw,Ux,Uy,Uz,UA,UB,UC,UD,UE,UF,UG,UH,UI,UJ,UK,UL,UM,UN,UO,UP,UQ,UR,US,UT,UU,UV,UW,UX,Y5,Y6,Y7,Y8,Y9,Ya,Yb,Yc,Yd,Ye,Yf,Yg,Yh,Yi,Yj,Yk,Yl,Ym,Yn,Yo,Yp,Yq,Yr,Ys,Yt,Yu,Yv,Yw,Yx,Yy,Yz,YA,YB,YC,YD,YE,YF,YG,YH,YI,YJ,YK,YL,YM,YN,YO,YQ,YR,YS,YT,YU,YV,YW,YX,YY,YZ,J0,J2,J3,J4,J5,J6,J7,J8,J9,Ja,startD,Jb,Jc,Jd,Je,Nat.reduceAdd,Nat.reduceSub,Jf,Jg,Jh,Ji,Jj,Jk,Jl,Jm,Jn,Jo,Jp,Jq,Jr,reduceIte,Js,Jt,Int.reduceLT,Int.reduceLE,Int.reduceAdd,Int.reduceSub,Int.reduceMul,Int.reduceNeg,Ju,Jv,Jw,Jx,Jy,Jz,JA,JB,JC,JD,JE,str_lit,String.reduceEq,JF,JG,JH,JI, cm3, v_ixL (get_set hS), h0]
    rw [if_pos (by decide)]
    exact h _ _ (Int.emod_nonneg _ (by omega)) (Int.emod_lt_of_pos _ h0) ⟨_, _, get_set hS⟩ (OnlyB.refl b S).put
def isNum (i : Int) : Prop := 0 ≤ i ∧ i < 1000000000000000000
theorem number_ok {S : Sto} {b : Nat} {P : D → Sto → Prop} (hb : BoxA S b) (h : ∀ (i : Int) (S' : Sto), isNum i → BoxA S' b → OnlyB b S S' → P (.int i) S') : Ok (d__law_number [.ref b] S) P := by
  unfold d__law_number
  simp only [U0,U1,U2,U3,U4,U5,U6,U7,U8,U9,Ua,Ub,Uc,Ud,Ue,Uf,Ug,Uh,Ui,Uj,Uk,Ul,Um,Uo,Up,Uq,Ur,Us,Ut,Uu,Uv,Uw,Ux,Uy,Uz,UA,UB,UC,UD,UE,UF,UG,UH,UI,UJ,UK,UL,UM,UN,UO,UP,UQ,UR,US,UT,UU,UV,UW,UX,Y5,Y6,Y7,Y8,Y9,Ya,Yb,Yc,Yd,Ye,Yf,Yg,Yh,Yi,Yj,Yk,Yl,Ym,Yn,Yo,Yp,Yq,Yr,Ys,Yt,Yu,Yv,Yw,Yx,Yy,Yz,YA,YB,YC,YD,YE,YF,YG,YH,YI,YJ,YK,YL,YM,YN,YO,YQ,YR,YS,YT,YU,YV,YW,YX,YY,YZ,J0,J2,J3,J4,J5,J6,J7,J8,J9,Ja,startD,Jb,Jc,Jd,Je,Nat.reduceAdd,Nat.reduceSub,Jf,Jg,Jh,Ji,Jj,Jk,Jl,Jm,Jn,Jo,Jp,Jq,Jr,reduceIte,Js,Jt,Int.reduceLT,Int.reduceLE,Int.reduceAdd,Int.reduceSub,Int.reduceMul,Int.reduceNeg,Ju,Jv,Jw,Jx,Jy,Jz,JA,JB,JC,JD,JE,str_lit,String.reduceEq,JF,JG,JH,JI]
  refine take_ok hb (by decide) (by decide) fun i S1 h0 h1 b1 o1 => nxt ?_
  simp only [U0,U1,U2,U3,U4,U5,U6,U7,U8,U9,Ua,Ub,Uc,Ud,Ue,Uf,Ug,Uh,Ui,Uj,Uk,Ul,Um,Uo,Up,Uq,Ur,Us,Ut,Uu,Uv,Uw,Ux,Uy,Uz,UA,UB,UC,UD,UE,UF,UG,UH,UI,UJ,UK,UL,UM,UN,UO,UP,UQ,UR,US,UT,UU,UV,UW,UX,Y5,Y6,Y7,Y8,Y9,Ya,Yb,Yc,Yd,Ye,Yf,Yg,Yh,Yi,Yj,Yk,Yl,Ym,Yn,Yo,Yp,Yq,Yr,Ys,Yt,Yu,Yv,Yw,Yx,Yy,Yz,YA,YB,YC,YD,YE,YF,YG,YH,YI,YJ,YK,YL,YM,YN,YO,YQ,YR,YS,YT,YU,YV,YW,YX,YY,YZ,J0,J2,J3,J4,J5,J6,J7,J8,J9,Ja,startD,Jb,Jc,Jd,Je,Nat.reduceAdd,Nat.reduceSub,Jf,Jg,Jh,Ji,Jj,Jk,Jl,Jm,Jn,Jo,Jp,Jq,Jr,reduceIte,Js,Jt,Int.reduceLT,Int.reduceLE,Int.reduceAdd,Int.reduceSub,Int.reduceMul,Int.reduceNeg,Ju,Jv,Jw,Jx,Jy,Jz,JA,JB,JC,JD,JE,str_lit,String.reduceEq,JF,JG,JH,JI]
  split
  · refine take_ok b1 (by decide) (by decide) fun j S2 h2 h3 b2 o2 => ?_
    exact h _ _ ⟨by omega, by omega⟩ b2 (o1.trans o2)
  · refine nxt ?_
    simp only [U0,U1,U2,U3,U4,U5,U6,U7,U8,U9,Ua,Ub,Uc,Ud,Ue,Uf,Ug,Uh,Ui,Uj,Uk,Ul,Um,Uo,Up,Uq,Ur,Us,Ut,Uu,Uv,Uw,Ux,Uy,Uz,UA,UB,UC,UD,UE,UF,UG,UH,UI,UJ,UK,UL,UM,UN,UO,UP,UQ,UR,US,UT,UU,UV,UW,UX,Y5,Y6,Y7,Y8,Y9,Ya,Yb,Yc,Yd,Ye,Yf,Yg,Yh,Yi,Yj,Yk,Yl,Ym,Yn,Yo,Yp,Yq,Yr,Ys,Yt,Yu,Yv,Yw,Yx,Yy,Yz,YA,YB,YC,YD,YE,YF,YG,YH,YI,YJ,YK,YL,YM,YN,YO,YQ,YR,YS,YT,YU,YV,YW,YX,YY,YZ,J0,J2,J3,J4,J5,J6,J7,J8,J9,Ja,startD,Jb,Jc,Jd,Je,Nat.reduceAdd,Nat.reduceSub,Jf,Jg,Jh,Ji,Jj,Jk,Jl,Jm,Jn,Jo,Jp,Jq,Jr,reduceIte,Js,Jt,Int.reduceLT,Int.reduceLE,Int.reduceAdd,Int.reduceSub,Int.reduceMul,Int.reduceNeg,Ju,Jv,Jw,Jx,Jy,Jz,JA,JB,JC,JD,JE,str_lit,String.reduceEq,JF,JG,JH,JI, v_ixL get_last]
    have hi : i = 1 ∨ i = 2 ∨ i = 3 := by omega
    rcases hi with rfl | rfl | rfl
    · simp only [U0,U1,U2,U3,U4,U5,U6,U7,U8,U9,Ua,Ub,Uc,Ud,Ue,Uf,Ug,Uh,Ui,Uj,Uk,Ul,Um,Uo,Up,Uq,Ur,Us,Ut,Uu,Uv,Uw,Ux,Uy,Uz,UA,UB,UC,UD,UE,UF,UG,UH,UI,UJ,UK,UL,UM,UN,UO,UP,UQ,UR,US,UT,UU,UV,UW,UX,Y5,Y6,Y7,Y8,Y9,Ya,Yb,Yc,Yd,Ye,Yf,Yg,Yh,Yi,Yj,Yk,Yl,Ym,Yn,Yo,Yp,Yq,Yr,Ys,Yt,Yu,Yv,Yw,Yx,Yy,Yz,YA,YB,YC,YD,YE,YF,YG,YH,YI,YJ,YK,YL,YM,YN,YO,YQ,YR,YS,YT,YU,YV,YW,YX,YY,YZ,J0,J2,J3,J4,J5,J6,J7,J8,J9,Ja,startD,Jb,Jc,Jd,Je,Nat.reduceAdd,Nat.reduceSub,Jf,Jg,Jh,Ji,Jj,Jk,Jl,Jm,Jn,Jo,Jp,Jq,Jr,reduceIte,Js,Jt,Int.reduceLT,Int.reduceLE,Int.reduceAdd,Int.reduceSub,Int.reduceMul,Int.reduceNeg,Ju,Jv,Jw,Jx,Jy,Jz,JA,JB,JC,JD,JE,str_lit,String.reduceEq,JF,JG,JH,JI]
      exact take_ok b1.snoc (by decide) (by decide) fun j S2 h2 h3 b2 o2 => h _ _ ⟨h2, h3⟩ b2 (o1.trans ((OnlyB.refl b S1).snoc.trans o2))
    · simp only [U0,U1,U2,U3,U4,U5,U6,U7,U8,U9,Ua,Ub,Uc,Ud,Ue,Uf,Ug,Uh,Ui,Uj,Uk,Ul,Um,Uo,Up,Uq,Ur,Us,Ut,Uu,Uv,Uw,Ux,Uy,Uz,UA,UB,UC,UD,UE,UF,UG,UH,UI,UJ,UK,UL,UM,UN,UO,UP,UQ,UR,US,UT,UU,UV,UW,UX,Y5,Y6,Y7,Y8,Y9,Ya,Yb,Yc,Yd,Ye,Yf,Yg,Yh,Yi,Yj,Yk,Yl,Ym,Yn,Yo,Yp,Yq,Yr,Ys,Yt,Yu,Yv,Yw,Yx,Yy,Yz,YA,YB,YC,YD,YE,YF,YG,YH,YI,YJ,YK,YL,YM,YN,YO,YQ,YR,YS,YT,YU,YV,YW,YX,YY,YZ,J0,J2,J3,J4,J5,J6,J7,J8,J9,Ja,startD,Jb,Jc,Jd,Je,Nat.reduceAdd,Nat.reduceSub,Jf,Jg,Jh,Ji,Jj,Jk,Jl,Jm,Jn,Jo,Jp,Jq,Jr,reduceIte,Js,Jt,Int.reduceLT,Int.reduceLE,Int.reduceAdd,Int.reduceSub,Int.reduceMul,Int.reduceNeg,Ju,Jv,Jw,Jx,Jy,Jz,JA,JB,JC,JD,JE,str_lit,String.reduceEq,JF,JG,JH,JI]
      exact take_ok b1.snoc (by decide) (by decide) fun j S2 h2 h3 b2 o2 => h _ _ ⟨h2, by omega⟩ b2 (o1.trans ((OnlyB.refl b S1).snoc.trans o2))
    · simp only [U0,U1,U2,U3,U4,U5,U6,U7,U8,U9,Ua,Ub,Uc,Ud,Ue,Uf,Ug,Uh,Ui,Uj,Uk,Ul,Um,Uo,Up,Uq,Ur,Us,Ut,Uu,Uv,Uw,Ux,Uy,Uz,UA,UB,UC,UD,UE,UF,UG,UH,UI,UJ,UK,UL,UM,UN,UO,UP,UQ,UR,US,UT,UU,UV,UW,UX,Y5,Y6,Y7,Y8,Y9,Ya,Yb,Yc,Yd,Ye,Yf,Yg,Yh,Yi,Yj,Yk,Yl,Ym,Yn,Yo,Yp,Yq,Yr,Ys,Yt,Yu,Yv,Yw,Yx,Yy,Yz,YA,YB,YC,YD,YE,YF,YG,YH,YI,YJ,YK,YL,YM,YN,YO,YQ,YR,YS,YT,YU,YV,YW,YX,YY,YZ,J0,J2,J3,J4,J5,J6,J7,J8,J9,Ja,startD,Jb,Jc,Jd,Je,Nat.reduceAdd,Nat.reduceSub,Jf,Jg,Jh,Ji,Jj,Jk,Jl,Jm,Jn,Jo,Jp,Jq,Jr,reduceIte,Js,Jt,Int.reduceLT,Int.reduceLE,Int.reduceAdd,Int.reduceSub,Int.reduceMul,Int.reduceNeg,Ju,Jv,Jw,Jx,Jy,Jz,JA,JB,JC,JD,JE,str_lit,String.reduceEq,JF,JG,JH,JI]
      exact take_ok b1.snoc (by decide) (by decide) fun j S2 h2 h3 b2 o2 => h _ _ ⟨h2, by omega⟩ b2 (o1.trans ((OnlyB.refl b S1).snoc.trans o2))
theorem atI_ints {ns : List Int} {k : Int} (h0 : 0 ≤ k) (h1 : k < ns.length) : ∃ i : Int, L2.atI (ns.map D.int) k = some (.int i) := by
  obtain ⟨j, rfl⟩ := Int.eq_ofNat_of_zero_le h0
  have hj : j < ns.length := by omega
  refine ⟨ns[j], ?_⟩
  exact atI_nat (by rw [List.getElem?_map, List.getElem?_eq_getElem hj]; rfl)
theorem box_ok {S : Sto} {ns : List Int} {k : Int} {P : D → Sto → Prop} (hk : 0 ≤ k) (h : ∀ (b : Nat) (S' : Sto), BoxA S' b → Grow S S' → S.length ≤ b → P (.ref b) S') : Ok (d__law_box [.lro (ns.map .int), .int k] S) P := by
  unfold d__law_box
  simp only [U0,U1,U2,U3,U4,U5,U6,U7,U8,U9,Ua,Ub,Uc,Ud,Ue,Uf,Ug,Uh,Ui,Uj,Uk,Ul,Um,Uo,Up,Uq,Ur,Us,Ut,Uu,Uv,Uw,Ux,Uy,Uz,UA,UB,UC,UD,UE,UF,UG,UH,UI,UJ,UK,UL,UM,UN,UO,UP,UQ,UR,US,UT,UU,UV,UW,UX,Y5,Y6,Y7,Y8,Y9,Ya,Yb,Yc,Yd,Ye,Yf,Yg,Yh,Yi,Yj,Yk,Yl,Ym,Yn,Yo,Yp,Yq,Yr,Ys,Yt,Yu,Yv,Yw,Yx,Yy,Yz,YA,YB,YC,YD,YE,YF,YG,YH,YI,YJ,YK,YL,YM,YN,YO,YQ,YR,YS,YT,YU,YV,YW,YX,YY,YZ,J0,J2,J3,J4,J5,J6,J7,J8,J9,Ja,startD,Jb,Jc,Jd,Je,Nat.reduceAdd,Nat.reduceSub,Jf,Jg,Jh,Ji,Jj,Jk,Jl,Jm,Jn,Jo,Jp,Jq,Jr,reduceIte,Js,Jt,Int.reduceLT,Int.reduceLE,Int.reduceAdd,Int.reduceSub,Int.reduceMul,Int.reduceNeg,Ju,Jv,Jw,Jx,Jy,Jz,JA,JB,JC,JD,JE,str_lit,String.reduceEq,JF,JG,JH,JI, cm4, List.length_map]
  refine nxt ?_
  simp only [U0,U1,U2,U3,U4,U5,U6,U7,U8,U9,Ua,Ub,Uc,Ud,Ue,Uf,Ug,Uh,Ui,Uj,Uk,Ul,Um,Uo,Up,Uq,Ur,Us,Ut,Uu,Uv,Uw,Ux,Uy,Uz,UA,UB,UC,UD,UE,UF,UG,UH,UI,UJ,UK,UL,UM,UN,UO,UP,UQ,UR,US,UT,UU,UV,UW,UX,Y5,Y6,Y7,Y8,Y9,Ya,Yb,Yc,Yd,Ye,Yf,Yg,Yh,Yi,Yj,Yk,Yl,Ym,Yn,Yo,Yp,Yq,Yr,Ys,Yt,Yu,Yv,Yw,Yx,Yy,Yz,YA,YB,YC,YD,YE,YF,YG,YH,YI,YJ,YK,YL,YM,YN,YO,YQ,YR,YS,YT,YU,YV,YW,YX,YY,YZ,J0,J2,J3,J4,J5,J6,J7,J8,J9,Ja,startD,Jb,Jc,Jd,Je,Nat.reduceAdd,Nat.reduceSub,Jf,Jg,Jh,Ji,Jj,Jk,Jl,Jm,Jn,Jo,Jp,Jq,Jr,reduceIte,Js,Jt,Int.reduceLT,Int.reduceLE,Int.reduceAdd,Int.reduceSub,Int.reduceMul,Int.reduceNeg,Ju,Jv,Jw,Jx,Jy,Jz,JA,JB,JC,JD,JE,str_lit,String.reduceEq,JF,JG,JH,JI, List.length_map]
  have fin : ∀ (c : Int), Nxt (cSeq (cAsg (cOp opAdd (cOp opMod (cOp opAdd (cOp opMul (cOp opMod (cVar 2) (cC (.int 2147483629))) (cC (.int 48271))) (cOp opMul (cC (.int 40692)) (cVar 1))) (cC (.int 2147483629))) (cC (.int 1))) (sName 3))
      (cRet (cAp mkL (cCons (cOp ixD (cAp mkL (cCons (cC (.int 0)) (cCons (cVar 2) cNil))) (cAp intB (cCons (cOp opGe (cVar 2) (cOp opPow (cC (.int 10)) (cC (.int 18)))) cNil))) (cCons (cVar 3) cNil))))) (End P) [some (.lro (ns.map .int)), some (.int k), some (.int c), none] S := by
    intro c
    refine nxt ?_
    simp only [U0,U1,U2,U3,U4,U5,U6,U7,U8,U9,Ua,Ub,Uc,Ud,Ue,Uf,Ug,Uh,Ui,Uj,Uk,Ul,Um,Uo,Up,Uq,Ur,Us,Ut,Uu,Uv,Uw,Ux,Uy,Uz,UA,UB,UC,UD,UE,UF,UG,UH,UI,UJ,UK,UL,UM,UN,UO,UP,UQ,UR,US,UT,UU,UV,UW,UX,Y5,Y6,Y7,Y8,Y9,Ya,Yb,Yc,Yd,Ye,Yf,Yg,Yh,Yi,Yj,Yk,Yl,Ym,Yn,Yo,Yp,Yq,Yr,Ys,Yt,Yu,Yv,Yw,Yx,Yy,Yz,YA,YB,YC,YD,YE,YF,YG,YH,YI,YJ,YK,YL,YM,YN,YO,YQ,YR,YS,YT,YU,YV,YW,YX,YY,YZ,J0,J2,J3,J4,J5,J6,J7,J8,J9,Ja,startD,Jb,Jc,Jd,Je,Nat.reduceAdd,Nat.reduceSub,Jf,Jg,Jh,Ji,Jj,Jk,Jl,Jm,Jn,Jo,Jp,Jq,Jr,reduceIte,Js,Jt,Int.reduceLT,Int.reduceLE,Int.reduceAdd,Int.reduceSub,Int.reduceMul,Int.reduceNeg,Ju,Jv,Jw,Jx,Jy,Jz,JA,JB,JC,JD,JE,str_lit,String.reduceEq,JF,JG,JH,JI, cm2, cm5]
    refine nxt ?_
    simp only [U0,U1,U2,U3,U4,U5,U6,U7,U8,U9,Ua,Ub,Uc,Ud,Ue,Uf,Ug,Uh,Ui,Uj,Uk,Ul,Um,Uo,Up,Uq,Ur,Us,Ut,Uu,Uv,Uw,Ux,Uy,Uz,UA,UB,UC,UD,UE,UF,UG,UH,UI,UJ,UK,UL,UM,UN,UO,UP,UQ,UR,US,UT,UU,UV,UW,UX,Y5,Y6,Y7,Y8,Y9,Ya,Yb,Yc,Yd,Ye,Yf,Yg,Yh,Yi,Yj,Yk,Yl,Ym,Yn,Yo,Yp,Yq,Yr,Ys,Yt,Yu,Yv,Yw,Yx,Yy,Yz,YA,YB,YC,YD,YE,YF,YG,YH,YI,YJ,YK,YL,YM,YN,YO,YQ,YR,YS,YT,YU,YV,YW,YX,YY,YZ,J0,J2,J3,J4,J5,J6,J7,J8,J9,Ja,startD,Jb,Jc,Jd,Je,Nat.reduceAdd,Nat.reduceSub,Jf,Jg,Jh,Ji,Jj,Jk,Jl,Jm,Jn,Jo,Jp,Jq,Jr,reduceIte,Js,Jt,Int.reduceLT,Int.reduceLE,Int.reduceAdd,Int.reduceSub,Int.reduceMul,Int.reduceNeg,Ju,Jv,Jw,Jx,Jy,Jz,JA,JB,JC,JD,JE,str_lit,String.reduceEq,JF,JG,JH,JI, v_ixL get_last]
    have one : ∀ x y : Int, Ok (mkL [.int x, .int y] (S ++ [.lst [.int 0, .int c]])) P := fun x y => by
      simp only [U0,U1,U2,U3,U4,U5,U6,U7,U8,U9,Ua,Ub,Uc,Ud,Ue,Uf,Ug,Uh,Ui,Uj,Uk,Ul,Um,Uo,Up,Uq,Ur,Us,Ut,Uu,Uv,Uw,Ux,Uy,Uz,UA,UB,UC,UD,UE,UF,UG,UH,UI,UJ,UK,UL,UM,UN,UO,UP,UQ,UR,US,UT,UU,UV,UW,UX,Y5,Y6,Y7,Y8,Y9,Ya,Yb,Yc,Yd,Ye,Yf,Yg,Yh,Yi,Yj,Yk,Yl,Ym,Yn,Yo,Yp,Yq,Yr,Ys,Yt,Yu,Yv,Yw,Yx,Yy,Yz,YA,YB,YC,YD,YE,YF,YG,YH,YI,YJ,YK,YL,YM,YN,YO,YQ,YR,YS,YT,YU,YV,YW,YX,YY,YZ,J0,J2,J3,J4,J5,J6,J7,J8,J9,Ja,startD,Jb,Jc,Jd,Je,Nat.reduceAdd,Nat.reduceSub,Jf,Jg,Jh,Ji,Jj,Jk,Jl,Jm,Jn,Jo,Jp,Jq,Jr,reduceIte,Js,Jt,Int.reduceLT,Int.reduceLE,Int.reduceAdd,Int.reduceSub,Int.reduceMul,Int.reduceNeg,Ju,Jv,Jw,Jx,Jy,Jz,JA,JB,JC,JD,JE,str_lit,String.reduceEq,JF,JG,JH,JI]
      exact h _ _ ⟨x, y, get_last⟩ (Grow.refl S).snoc.snoc (by simp)
    by_cases hc : (1000000000000000000 : Int) ≤ c
    · simp only [U0,U1,U2,U3,U4,U5,U6,U7,U8,U9,Ua,Ub,Uc,Ud,Ue,Uf,Ug,Uh,Ui,Uj,Uk,Ul,Um,Uo,Up,Uq,Ur,Us,Ut,Uu,Uv,Uw,Ux,Uy,Uz,UA,UB,UC,UD,UE,UF,UG,UH,UI,UJ,UK,UL,UM,UN,UO,UP,UQ,UR,US,UT,UU,UV,UW,UX,Y5,Y6,Y7,Y8,Y9,Ya,Yb,Yc,Yd,Ye,Yf,Yg,Yh,Yi,Yj,Yk,Yl,Ym,Yn,Yo,Yp,Yq,Yr,Ys,Yt,Yu,Yv,Yw,Yx,Yy,Yz,YA,YB,YC,YD,YE,YF,YG,YH,YI,YJ,YK,YL,YM,YN,YO,YQ,YR,YS,YT,YU,YV,YW,YX,YY,YZ,J0,J2,J3,J4,J5,J6,J7,J8,J9,Ja,startD,Jb,Jc,Jd,Je,Nat.reduceAdd,Nat.reduceSub,Jf,Jg,Jh,Ji,Jj,Jk,Jl,Jm,Jn,Jo,Jp,Jq,Jr,reduceIte,Js,Jt,Int.reduceLT,Int.reduceLE,Int.reduceAdd,Int.reduceSub,Int.reduceMul,Int.reduceNeg,Ju,Jv,Jw,Jx,Jy,Jz,JA,JB,JC,JD,JE,str_lit,String.reduceEq,JF,JG,JH,JI, hc, decide_true]
      exact one _ _
    · simp only [U0,U1,U2,U3,U4,U5,U6,U7,U8,U9,Ua,Ub,Uc,Ud,Ue,Uf,Ug,Uh,Ui,Uj,Uk,Ul,Um,Uo,Up,Uq,Ur,Us,Ut,Uu,Uv,Uw,Ux,Uy,Uz,UA,UB,UC,UD,UE,UF,UG,UH,UI,UJ,UK,UL,UM,UN,UO,UP,UQ,UR,US,UT,UU,UV,UW,UX,Y5,Y6,Y7,Y8,Y9,Ya,Yb,Yc,Yd,Ye,Yf,Yg,Yh,Yi,Yj,Yk,Yl,Ym,Yn,Yo,Yp,Yq,Yr,Ys,Yt,Yu,Yv,Yw,Yx,Yy,Yz,YA,YB,YC,YD,YE,YF,YG,YH,YI,YJ,YK,YL,YM,YN,YO,YQ,YR,YS,YT,YU,YV,YW,YX,YY,YZ,J0,J2,J3,J4,J5,J6,J7,J8,J9,Ja,startD,Jb,Jc,Jd,Je,Nat.reduceAdd,Nat.reduceSub,Jf,Jg,Jh,Ji,Jj,Jk,Jl,Jm,Jn,Jo,Jp,Jq,Jr,reduceIte,Js,Jt,Int.reduceLT,Int.reduceLE,Int.reduceAdd,Int.reduceSub,Int.reduceMul,Int.reduceNeg,Ju,Jv,Jw,Jx,Jy,Jz,JA,JB,JC,JD,JE,str_lit,String.reduceEq,JF,JG,JH,JI, hc, decide_false]
      exact one _ _
  split
  · rename_i hlt
    obtain ⟨c, hc⟩ := atI_ints hk hlt
    simp only [U0,U1,U2,U3,U4,U5,U6,U7,U8,U9,Ua,Ub,Uc,Ud,Ue,Uf,Ug,Uh,Ui,Uj,Uk,Ul,Um,Uo,Up,Uq,Ur,Us,Ut,Uu,Uv,Uw,Ux,Uy,Uz,UA,UB,UC,UD,UE,UF,UG,UH,UI,UJ,UK,UL,UM,UN,UO,UP,UQ,UR,US,UT,UU,UV,UW,UX,Y5,Y6,Y7,Y8,Y9,Ya,Yb,Yc,Yd,Ye,Yf,Yg,Yh,Yi,Yj,Yk,Yl,Ym,Yn,Yo,Yp,Yq,Yr,Ys,Yt,Yu,Yv,Yw,Yx,Yy,Yz,YA,YB,YC,YD,YE,YF,YG,YH,YI,YJ,YK,YL,YM,YN,YO,YQ,YR,YS,YT,YU,YV,YW,YX,YY,YZ,J0,J2,J3,J4,J5,J6,J7,J8,J9,Ja,startD,Jb,Jc,Jd,Je,Nat.reduceAdd,Nat.reduceSub,Jf,Jg,Jh,Ji,Jj,Jk,Jl,Jm,Jn,Jo,Jp,Jq,Jr,reduceIte,Js,Jt,Int.reduceLT,Int.reduceLE,Int.reduceAdd,Int.reduceSub,Int.reduceMul,Int.reduceNeg,Ju,Jv,Jw,Jx,Jy,Jz,JA,JB,JC,JD,JE,str_lit,String.reduceEq,JF,JG,JH,JI, hc]
    exact fin c
  · split
    · rename_i hlen
      have hm := Int.emod_nonneg k (show ((ns.length : Nat) : Int) ≠ 0 by omega)
      have hm2 := Int.emod_lt_of_pos k (show (0 : Int) < (ns.length : Nat) by omega)
      obtain ⟨c, hc⟩ := atI_ints hm hm2
      simp only [U0,U1,U2,U3,U4,U5,U6,U7,U8,U9,Ua,Ub,Uc,Ud,Ue,Uf,Ug,Uh,Ui,Uj,Uk,Ul,Um,Uo,Up,Uq,Ur,Us,Ut,Uu,Uv,Uw,Ux,Uy,Uz,UA,UB,UC,UD,UE,UF,UG,UH,UI,UJ,UK,UL,UM,UN,UO,UP,UQ,UR,US,UT,UU,UV,UW,UX,Y5,Y6,Y7,Y8,Y9,Ya,Yb,Yc,Yd,Ye,Yf,Yg,Yh,Yi,Yj,Yk,Yl,Ym,Yn,Yo,Yp,Yq,Yr,Ys,Yt,Yu,Yv,Yw,Yx,Yy,Yz,YA,YB,YC,YD,YE,YF,YG,YH,YI,YJ,YK,YL,YM,YN,YO,YQ,YR,YS,YT,YU,YV,YW,YX,YY,YZ,J0,J2,J3,J4,J5,J6,J7,J8,J9,Ja,startD,Jb,Jc,Jd,Je,Nat.reduceAdd,Nat.reduceSub,Jf,Jg,Jh,Ji,Jj,Jk,Jl,Jm,Jn,Jo,Jp,Jq,Jr,reduceIte,Js,Jt,Int.reduceLT,Int.reduceLE,Int.reduceAdd,Int.reduceSub,Int.reduceMul,Int.reduceNeg,Ju,Jv,Jw,Jx,Jy,Jz,JA,JB,JC,JD,JE,str_lit,String.reduceEq,JF,JG,JH,JI, hlen, hc, cm1]
      exact fin _
    · exact fin _
def nbD : Option Nat → D
  | none => .non
  | some q => .ref q
structure BookAt (S : Sto) (k r : Nat) (nb : Option Nat) (xs : List D) : Prop where
  ins : S[k]? = some (.ins (Str.ofString "Book") [(Str.ofString "rows", .ref r), (Str.ofString "numbers", nbD nb)])
  rows : S[r]? = some (.lst xs)
  nums : ∀ q, nb = some q → ∃ kvs, S[q]? = some (.dcd kvs) ∧ (∀ d, valT kvs d = (idxDt d xs).map fun j => .int (j : Nat)) ∧ kvs.length ≤ xs.length
theorem lk_rows {a b : D} : List.lookup (Str.ofString "rows") [(Str.ofString "rows", a), (Str.ofString "numbers", b)] = some a := by
  simp only [List.lookup, beq_self_eq_true]
theorem lk_nums {a b : D} : List.lookup (Str.ofString "numbers") [(Str.ofString "rows", a), (Str.ofString "numbers", b)] = some b := by
  have e : ((Str.ofString "numbers" : Str) == Str.ofString "rows") = false := by decide +kernel
  simp only [List.lookup, e, beq_self_eq_true]
theorem lk_no {a b : D} {x : Str} (h1 : (x == Str.ofString "rows") = false) (h2 : (x == Str.ofString "numbers") = false) : List.lookup x [(Str.ofString "rows", a), (Str.ofString "numbers", b)] = none := by
  simp only [List.lookup, h1, h2]
theorem put_nums {a b c : D} : putA (Str.ofString "numbers") c [(Str.ofString "rows", a), (Str.ofString "numbers", b)] = [(Str.ofString "rows", a), (Str.ofString "numbers", c)] := by
  have e : ¬ (Str.ofString "rows" : Str) = Str.ofString "numbers" := by rw [str_lit]; decide
  simp only [putA]
  rw [if_neg e, if_true]
theorem v_isNb {S : Sto} {PD : D → Sto → Prop} {nb : Option Nat} : Ok (opIs (nbD nb) .non S) PD = PD (.bl nb.isNone) S := by cases nb <;> rfl
def Rest (k r : Nat) (nb : Option Nat) (S S' : Sto) : Prop := S.length ≤ S'.length ∧ ∀ i o, i ≠ k → i ≠ r → nb ≠ some i → S[i]? = some o → S'[i]? = some o
theorem numfor_ok {S : Sto} {k r : Nat} {nb : Option Nat} {ss : List Slp} {s : Slp} {P : D → Sto → Prop} (B : BookAt S k r nb (ss.map slpE)) (hl : ss.length < 90000)
    (h : ∀ S' q, BookAt S' k r (some q) ((nxS ss s).map slpE) → Rest k r nb S S' → (nb = some q ∨ nb = none ∧ S.length ≤ q) → P (.int (ixS ss s : Nat)) S') : Ok (d_Book__number_for [.ref k, slpE s] S) P := by
  unfold d_Book__number_for
  simp only [U0,U1,U2,U3,U4,U5,U6,U7,U8,U9,Ua,Ub,Uc,Ud,Ue,Uf,Ug,Uh,Ui,Uj,Uk,Ul,Um,Uo,Up,Uq,Ur,Us,Ut,Uu,Uv,Uw,Ux,Uy,Uz,UA,UB,UC,UD,UE,UF,UG,UH,UI,UJ,UK,UL,UM,UN,UO,UP,UQ,UR,US,UT,UU,UV,UW,UX,UY,UZ,Y0,Y1,Y2,Y3,Y4,Y5,Y6,Y7,Y8,Y9,Ya,Yb,Yc,Yd,Ye,Yf,Yg,Yh,Yi,Yj,Yk,Yl,Ym,Yn,Yo,Yp,Yq,Yr,Ys,Yt,Yu,Yv,Yw,Yx,Yy,Yz,YA,YB,YC,YD,YE,YF,YG,YH,YI,YJ,YK,YL,YM,YN,YO,YQ,YR,YS,YT,YU,YV,YW,YX,YY,YZ,J0,J2,J3,J4,J5,J6,J7,J8,J9,Ja,startD,Jb,Jc,Jd,Je,Nat.reduceAdd,Nat.reduceSub,Jf,Jg,Jh,Ji,Jj,Jk,Jl,Jm,Jn,Jo,Jp,Jq,Jr,reduceIte,Js,Jt,Int.reduceLT,Int.reduceLE,Int.reduceAdd,Int.reduceSub,Int.reduceMul,Int.reduceNeg,Ju,Jv,Jw,Jx,Jy,Jz,JA,JB,JC,JD,JE,str_lit,String.reduceEq,JF,JG,JH,JI, v_fld B.ins lk_nums, v_isNb]
  -- behind the first if: the dict is there
  have go : ∀ S1 q x2 x3, BookAt S1 k r (some q) (ss.map slpE) → Rest k r nb S S1 → (nb = some q ∨ nb = none ∧ S.length ≤ q) → Nxt ((cSeq (cIfS (cTest (cOp opNotInT (cVar 1) (cUn (fldD (Str.ofString "Book") (Str.ofString "numbers")) (cVar 0)))) (cSeq (cAsg (cAp lenD (cCons (cUn (fldD (Str.ofString "Book") (Str.ofString "rows")) (cVar 0)) cNil)) (sSubT (cUn (fldD (Str.ofString "Book") (Str.ofString "numbers")) (cVar 0)) (cVar 1)))
    (cExpr (cMt appendD (cUn (fldD (Str.ofString "Book") (Str.ofString "rows")) (cVar 0)) (cCons (cVar 1) cNil)))) cPass)
    (cRet (cOp ixT (cUn (fldD (Str.ofString "Book") (Str.ofString "numbers")) (cVar 0)) (cVar 1))))) (End P) [some (.ref k), some (slpE s), x2, x3] S1 := by
    intro S1 q x2 x3 B1 R1 hq
    obtain ⟨kvs, g1, g2, g3⟩ := B1.nums q rfl
    have hk := keyP_slp s
    refine nxt ?_
    simp only [U0,U1,U2,U3,U4,U5,U6,U7,U8,U9,Ua,Ub,Uc,Ud,Ue,Uf,Ug,Uh,Ui,Uj,Uk,Ul,Um,Uo,Up,Uq,Ur,Us,Ut,Uu,Uv,Uw,Ux,Uy,Uz,UA,UB,UC,UD,UE,UF,UG,UH,UI,UJ,UK,UL,UM,UN,UO,UP,UQ,UR,US,UT,UU,UV,UW,UX,UY,UZ,Y0,Y1,Y2,Y3,Y4,Y5,Y6,Y7,Y8,Y9,Ya,Yb,Yc,Yd,Ye,Yf,Yg,Yh,Yi,Yj,Yk,Yl,Ym,Yn,Yo,Yp,Yq,Yr,Ys,Yt,Yu,Yv,Yw,Yx,Yy,Yz,YA,YB,YC,YD,YE,YF,YG,YH,YI,YJ,YK,YL,YM,YN,YO,YQ,YR,YS,YT,YU,YV,YW,YX,YY,YZ,J0,J2,J3,J4,J5,J6,J7,J8,J9,Ja,startD,Jb,Jc,Jd,Je,Nat.reduceAdd,Nat.reduceSub,Jf,Jg,Jh,Ji,Jj,Jk,Jl,Jm,Jn,Jo,Jp,Jq,Jr,reduceIte,Js,Jt,Int.reduceLT,Int.reduceLE,Int.reduceAdd,Int.reduceSub,Int.reduceMul,Int.reduceNeg,Ju,Jv,Jw,Jx,Jy,Jz,JA,JB,JC,JD,JE,str_lit,String.reduceEq,JF,JG,JH,JI, v_fld B1.ins lk_nums, nbD, v_notInTk g1 hk, g2, idxDt_map]
    by_cases hm : s ∈ ss
    · simp only [U0,U1,U2,U3,U4,U5,U6,U7,U8,U9,Ua,Ub,Uc,Ud,Ue,Uf,Ug,Uh,Ui,Uj,Uk,Ul,Um,Uo,Up,Uq,Ur,Us,Ut,Uu,Uv,Uw,Ux,Uy,Uz,UA,UB,UC,UD,UE,UF,UG,UH,UI,UJ,UK,UL,UM,UN,UO,UP,UQ,UR,US,UT,UU,UV,UW,UX,UY,UZ,Y0,Y1,Y2,Y3,Y4,Y5,Y6,Y7,Y8,Y9,Ya,Yb,Yc,Yd,Ye,Yf,Yg,Yh,Yi,Yj,Yk,Yl,Ym,Yn,Yo,Yp,Yq,Yr,Ys,Yt,Yu,Yv,Yw,Yx,Yy,Yz,YA,YB,YC,YD,YE,YF,YG,YH,YI,YJ,YK,YL,YM,YN,YO,YQ,YR,YS,YT,YU,YV,YW,YX,YY,YZ,J0,J2,J3,J4,J5,J6,J7,J8,J9,Ja,startD,Jb,Jc,Jd,Je,Nat.reduceAdd,Nat.reduceSub,Jf,Jg,Jh,Ji,Jj,Jk,Jl,Jm,Jn,Jo,Jp,Jq,Jr,reduceIte,Js,Jt,Int.reduceLT,Int.reduceLE,Int.reduceAdd,Int.reduceSub,Int.reduceMul,Int.reduceNeg,Ju,Jv,Jw,Jx,Jy,Jz,JA,JB,JC,JD,JE,str_lit,String.reduceEq,JF,JG,JH,JI, if_pos hm, Option.map_some, Option.isSome_some]
      refine nxt ?_
      simp only [U0,U1,U2,U3,U4,U5,U6,U7,U8,U9,Ua,Ub,Uc,Ud,Ue,Uf,Ug,Uh,Ui,Uj,Uk,Ul,Um,Uo,Up,Uq,Ur,Us,Ut,Uu,Uv,Uw,Ux,Uy,Uz,UA,UB,UC,UD,UE,UF,UG,UH,UI,UJ,UK,UL,UM,UN,UO,UP,UQ,UR,US,UT,UU,UV,UW,UX,UY,UZ,Y0,Y1,Y2,Y3,Y4,Y5,Y6,Y7,Y8,Y9,Ya,Yb,Yc,Yd,Ye,Yf,Yg,Yh,Yi,Yj,Yk,Yl,Ym,Yn,Yo,Yp,Yq,Yr,Ys,Yt,Yu,Yv,Yw,Yx,Yy,Yz,YA,YB,YC,YD,YE,YF,YG,YH,YI,YJ,YK,YL,YM,YN,YO,YQ,YR,YS,YT,YU,YV,YW,YX,YY,YZ,J0,J2,J3,J4,J5,J6,J7,J8,J9,Ja,startD,Jb,Jc,Jd,Je,Nat.reduceAdd,Nat.reduceSub,Jf,Jg,Jh,Ji,Jj,Jk,Jl,Jm,Jn,Jo,Jp,Jq,Jr,reduceIte,Js,Jt,Int.reduceLT,Int.reduceLE,Int.reduceAdd,Int.reduceSub,Int.reduceMul,Int.reduceNeg,Ju,Jv,Jw,Jx,Jy,Jz,JA,JB,JC,JD,JE,str_lit,String.reduceEq,JF,JG,JH,JI, v_fld B1.ins lk_nums, nbD, v_ixTk g1 hk, g2, idxDt_map, if_pos hm, Option.map_some]
      have e : nxS ss s = ss := by unfold nxS; rw [if_pos hm]
      exact h S1 q (by rw [e]; exact B1) R1 hq
    · have hqk : q ≠ k := fun z => by rw [z, B1.ins] at g1; cases g1
      have hqr : q ≠ r := fun z => by rw [z, B1.rows] at g1; cases g1
      have hrk : r ≠ k := fun z => by have := B1.rows; rw [z, B1.ins] at this; cases this
      have hv : valT kvs (slpE s) = none := by rw [g2, idxDt_map, if_neg hm]; rfl
      simp only [U0,U1,U2,U3,U4,U5,U6,U7,U8,U9,Ua,Ub,Uc,Ud,Ue,Uf,Ug,Uh,Ui,Uj,Uk,Ul,Um,Uo,Up,Uq,Ur,Us,Ut,Uu,Uv,Uw,Ux,Uy,Uz,UA,UB,UC,UD,UE,UF,UG,UH,UI,UJ,UK,UL,UM,UN,UO,UP,UQ,UR,US,UT,UU,UV,UW,UX,UY,UZ,Y0,Y1,Y2,Y3,Y4,Y5,Y6,Y7,Y8,Y9,Ya,Yb,Yc,Yd,Ye,Yf,Yg,Yh,Yi,Yj,Yk,Yl,Ym,Yn,Yo,Yp,Yq,Yr,Ys,Yt,Yu,Yv,Yw,Yx,Yy,Yz,YA,YB,YC,YD,YE,YF,YG,YH,YI,YJ,YK,YL,YM,YN,YO,YQ,YR,YS,YT,YU,YV,YW,YX,YY,YZ,J0,J2,J3,J4,J5,J6,J7,J8,J9,Ja,startD,Jb,Jc,Jd,Je,Nat.reduceAdd,Nat.reduceSub,Jf,Jg,Jh,Ji,Jj,Jk,Jl,Jm,Jn,Jo,Jp,Jq,Jr,reduceIte,Js,Jt,Int.reduceLT,Int.reduceLE,Int.reduceAdd,Int.reduceSub,Int.reduceMul,Int.reduceNeg,Ju,Jv,Jw,Jx,Jy,Jz,JA,JB,JC,JD,JE,str_lit,String.reduceEq,JF,JG,JH,JI, if_neg hm, Option.map_none, Option.isSome_none, v_fld B1.ins lk_rows, v_lenL B1.rows, v_fld B1.ins lk_nums, nbD, v_setTk g1 hk hv (Nat.lt_of_le_of_lt g3 (by rw [List.length_map]; omega))]
      have c1 : (S1.set q (.dcd (kvs ++ [(slpE s, .int ((ss.map slpE).length : Nat))])))[k]? = some (.ins (Str.ofString "Book") [(Str.ofString "rows", .ref r), (Str.ofString "numbers", .ref q)]) := by rw [get_set_ne hqk]; exact B1.ins
      have c2 : (S1.set q (.dcd (kvs ++ [(slpE s, .int ((ss.map slpE).length : Nat))])))[r]? = some (.lst (ss.map slpE)) := by rw [get_set_ne hqr]; exact B1.rows
      refine nxt ?_
      simp only [U0,U1,U2,U3,U4,U5,U6,U7,U8,U9,Ua,Ub,Uc,Ud,Ue,Uf,Ug,Uh,Ui,Uj,Uk,Ul,Um,Uo,Up,Uq,Ur,Us,Ut,Uu,Uv,Uw,Ux,Uy,Uz,UA,UB,UC,UD,UE,UF,UG,UH,UI,UJ,UK,UL,UM,UN,UO,UP,UQ,UR,US,UT,UU,UV,UW,UX,UY,UZ,Y0,Y1,Y2,Y3,Y4,Y5,Y6,Y7,Y8,Y9,Ya,Yb,Yc,Yd,Ye,Yf,Yg,Yh,Yi,Yj,Yk,Yl,Ym,Yn,Yo,Yp,Yq,Yr,Ys,Yt,Yu,Yv,Yw,Yx,Yy,Yz,YA,YB,YC,YD,YE,YF,YG,YH,YI,YJ,YK,YL,YM,YN,YO,YQ,YR,YS,YT,YU,YV,YW,YX,YY,YZ,J0,J2,J3,J4,J5,J6,J7,J8,J9,Ja,startD,Jb,Jc,Jd,Je,Nat.reduceAdd,Nat.reduceSub,Jf,Jg,Jh,Ji,Jj,Jk,Jl,Jm,Jn,Jo,Jp,Jq,Jr,reduceIte,Js,Jt,Int.reduceLT,Int.reduceLE,Int.reduceAdd,Int.reduceSub,Int.reduceMul,Int.reduceNeg,Ju,Jv,Jw,Jx,Jy,Jz,JA,JB,JC,JD,JE,str_lit,String.reduceEq,JF,JG,JH,JI, v_fld c1 lk_rows, v_isL c2, v_app c2 (show (ss.map slpE).length < 1000000 by rw [List.length_map]; omega)]
      have e : nxS ss s = ss ++ [s] := by unfold nxS; rw [if_neg hm]
      have B2 : BookAt ((S1.set q (.dcd (kvs ++ [(slpE s, .int ((ss.map slpE).length : Nat))]))).set r (.lst (ss.map slpE ++ [slpE s]))) k r (some q) ((nxS ss s).map slpE) := by
        refine ⟨by rw [get_set_ne hrk]; exact c1, by rw [get_set c2, e, List.map_append]; rfl, fun q' hq' => ?_⟩
        cases hq'
        refine ⟨_, by rw [get_set_ne (Ne.symm hqr)]; exact get_set g1, fun d => ?_, by rw [e]; simp only [List.length_append, List.length_map, List.length_singleton] at g3 ⊢; omega⟩
        have ap : ∀ xs : List D, idxDt d (xs ++ [slpE s]) = match idxDt d xs with
            | some j => some j
            | none => if slpE s = d then some xs.length else none := by
          intro xs
          induction xs with
          | nil => simp only [List.nil_append, idxDt]; split <;> rfl
          | cons x xs ih =>
            rw [List.cons_append, idxDt, idxDt, ih]
            by_cases ex : x = d
            · rw [if_pos ex, if_pos ex]
            · rw [if_neg ex, if_neg ex]
              cases idxDt d xs with
              | some j => rfl
              | none => dsimp only; split <;> rfl
        rw [valT_app, g2, e, List.map_append, List.map_singleton, ap]
        cases idxDt d (ss.map slpE) with
        | some j => rfl
        | none => dsimp only [Option.map_none]; split <;> rfl
      obtain ⟨kvs2, f1, f2, f3⟩ := B2.nums q rfl
      refine nxt ?_
      simp only [U0,U1,U2,U3,U4,U5,U6,U7,U8,U9,Ua,Ub,Uc,Ud,Ue,Uf,Ug,Uh,Ui,Uj,Uk,Ul,Um,Uo,Up,Uq,Ur,Us,Ut,Uu,Uv,Uw,Ux,Uy,Uz,UA,UB,UC,UD,UE,UF,UG,UH,UI,UJ,UK,UL,UM,UN,UO,UP,UQ,UR,US,UT,UU,UV,UW,UX,UY,UZ,Y0,Y1,Y2,Y3,Y4,Y5,Y6,Y7,Y8,Y9,Ya,Yb,Yc,Yd,Ye,Yf,Yg,Yh,Yi,Yj,Yk,Yl,Ym,Yn,Yo,Yp,Yq,Yr,Ys,Yt,Yu,Yv,Yw,Yx,Yy,Yz,YA,YB,YC,YD,YE,YF,YG,YH,YI,YJ,YK,YL,YM,YN,YO,YQ,YR,YS,YT,YU,YV,YW,YX,YY,YZ,J0,J2,J3,J4,J5,J6,J7,J8,J9,Ja,startD,Jb,Jc,Jd,Je,Nat.reduceAdd,Nat.reduceSub,Jf,Jg,Jh,Ji,Jj,Jk,Jl,Jm,Jn,Jo,Jp,Jq,Jr,reduceIte,Js,Jt,Int.reduceLT,Int.reduceLE,Int.reduceAdd,Int.reduceSub,Int.reduceMul,Int.reduceNeg,Ju,Jv,Jw,Jx,Jy,Jz,JA,JB,JC,JD,JE,str_lit,String.reduceEq,JF,JG,JH,JI, v_fld B2.ins lk_nums, nbD, v_ixTk f1 hk, f2, idxDt_map, if_pos (nxS_mem (ss := ss) (s := s)), Option.map_some, ixS_nx]
      refine h _ q B2 ⟨by rw [List.length_set, List.length_set]; exact R1.1, fun i o n1 n2 n3 ho => ?_⟩ hq
      have n4 : q ≠ i := fun z => by
        subst z
        rcases hq with z | ⟨z, z2⟩
        · exact n3 z
        · have := (List.getElem?_eq_some_iff.mp ho).1; omega
      rw [get_set_ne (Ne.symm n2), get_set_ne n4]
      exact R1.2 i o n1 n2 n3 ho
  cases nb with
  | some q =>
    rw [show isNon (nbD (some q)) = false from rfl, if_neg Bool.false_ne_true]
    exact go S q none none B ⟨Nat.le_refl _, fun _ _ _ _ _ e => e⟩ (.inl rfl)
  | none =>
    rw [show isNon (nbD none) = true from rfl, if_pos rfl]
    have hk0 : (S ++ [O.dcd []])[k]? = some (.ins (Str.ofString "Book") [(Str.ofString "rows", .ref r), (Str.ofString "numbers", .non)]) := get_snoc B.ins
    refine ⟨k, _, rfl, hk0, by simp, ?_⟩
    rw [put_nums]
    have hrk : r ≠ k := fun z => by have := B.rows; rw [z, B.ins] at this; cases this
    have hkl : k < S.length := (List.getElem?_eq_some_iff.mp B.ins).1
    have hrl : r < S.length := (List.getElem?_eq_some_iff.mp B.rows).1
    generalize hS1 : (S ++ [O.dcd []]).set k (.ins (Str.ofString "Book") [(Str.ofString "rows", .ref r), (Str.ofString "numbers", .ref S.length)]) = S1
    have i1 : S1[k]? = some (.ins (Str.ofString "Book") [(Str.ofString "rows", .ref r), (Str.ofString "numbers", .ref S.length)]) := by rw [← hS1]; exact get_set hk0
    have i2 : S1[r]? = some (.lst (ss.map slpE)) := by rw [← hS1, get_set_ne (Ne.symm hrk)]; exact get_snoc B.rows
    have i3 : S1[S.length]? = some (.dcd []) := by rw [← hS1, get_set_ne (by omega)]; exact get_last
    have i4 : Rest k r none S S1 := ⟨by rw [← hS1, List.length_set]; simp, fun i o n1 _ _ ho => by rw [← hS1, get_set_ne (Ne.symm n1)]; exact get_snoc ho⟩
    refine nxt ?_
    simp only [U0,U1,U2,U3,U4,U5,U6,U7,U8,U9,Ua,Ub,Uc,Ud,Ue,Uf,Ug,Uh,Ui,Uj,Uk,Ul,Um,Uo,Up,Uq,Ur,Us,Ut,Uu,Uv,Uw,Ux,Uy,Uz,UA,UB,UC,UD,UE,UF,UG,UH,UI,UJ,UK,UL,UM,UN,UO,UP,UQ,UR,US,UT,UU,UV,UW,UX,UY,UZ,Y0,Y1,Y2,Y3,Y4,Y5,Y6,Y7,Y8,Y9,Ya,Yb,Yc,Yd,Ye,Yf,Yg,Yh,Yi,Yj,Yk,Yl,Ym,Yn,Yo,Yp,Yq,Yr,Ys,Yt,Yu,Yv,Yw,Yx,Yy,Yz,YA,YB,YC,YD,YE,YF,YG,YH,YI,YJ,YK,YL,YM,YN,YO,YQ,YR,YS,YT,YU,YV,YW,YX,YY,YZ,J0,J2,J3,J4,J5,J6,J7,J8,J9,Ja,startD,Jb,Jc,Jd,Je,Nat.reduceAdd,Nat.reduceSub,Jf,Jg,Jh,Ji,Jj,Jk,Jl,Jm,Jn,Jo,Jp,Jq,Jr,reduceIte,Js,Jt,Int.reduceLT,Int.reduceLE,Int.reduceAdd,Int.reduceSub,Int.reduceMul,Int.reduceNeg,Ju,Jv,Jw,Jx,Jy,Jz,JA,JB,JC,JD,JE,str_lit,String.reduceEq,JF,JG,JH,JI, v_fld i1 lk_rows, v_enuL2 i2]
    refine for_ok (fun i env S' => ∃ x2 x3 acc, env = [some (.ref k), some (slpE s), x2, x3] ∧ S' = S1.set S.length (.dcd acc) ∧ i ≤ ss.length ∧ acc.length ≤ i ∧ numsT acc i ((ss.map slpE).drop i) = numsT [] 0 (ss.map slpE)) ⟨_, _, [], rfl, ?_, Nat.zero_le _, Nat.le_refl _, rfl⟩ ?_ ?_ ?_
    · rw [← List.set_getElem_self (as := S1) (i := S.length) (h := (List.getElem?_eq_some_iff.mp i3).1)]
      rw [(List.getElem?_eq_some_iff.mp i3).2]
      simp
    · rintro i env S' ⟨x2, x3, acc, rfl, rfl, _, _, _⟩ p hp
      rw [List.mem_singleton.mp hp, get_set_ne (by omega)]
      exact i2
    · rintro i x env S' hx ⟨x2, x3, acc, rfl, rfl, h1, h2, h3⟩
      obtain ⟨e, he, rfl⟩ := enumD_get hx
      have hil : i < ss.length := by
        have := (List.getElem?_eq_some_iff.mp he).1
        rwa [List.length_map] at this
      have he2 : e = slpE ss[i] := by
        rw [List.getElem?_map, List.getElem?_eq_getElem hil] at he
        exact (Option.some.inj he).symm
      subst he2
      have c1 : (S1.set S.length (.dcd acc))[k]? = some (.ins (Str.ofString "Book") [(Str.ofString "rows", .ref r), (Str.ofString "numbers", .ref S.length)]) := by rw [get_set_ne (by omega)]; exact i1
      have c3 : (S1.set S.length (.dcd acc))[S.length]? = some (.dcd acc) := get_set i3
      have dr : (ss.map slpE).drop i = slpE ss[i] :: (ss.map slpE).drop (i + 1) := by
        rw [List.drop_eq_getElem_cons (by rw [List.length_map]; exact hil), List.getElem_map]
      simp only [U0,U1,U2,U3,U4,U5,U6,U7,U8,U9,Ua,Ub,Uc,Ud,Ue,Uf,Ug,Uh,Ui,Uj,Uk,Ul,Um,Uo,Up,Uq,Ur,Us,Ut,Uu,Uv,Uw,Ux,Uy,Uz,UA,UB,UC,UD,UE,UF,UG,UH,UI,UJ,UK,UL,UM,UN,UO,UP,UQ,UR,US,UT,UU,UV,UW,UX,UY,UZ,Y0,Y1,Y2,Y3,Y4,Y5,Y6,Y7,Y8,Y9,Ya,Yb,Yc,Yd,Ye,Yf,Yg,Yh,Yi,Yj,Yk,Yl,Ym,Yn,Yo,Yp,Yq,Yr,Ys,Yt,Yu,Yv,Yw,Yx,Yy,Yz,YA,YB,YC,YD,YE,YF,YG,YH,YI,YJ,YK,YL,YM,YN,YO,YQ,YR,YS,YT,YU,YV,YW,YX,YY,YZ,J0,J2,J3,J4,J5,J6,J7,J8,J9,Ja,startD,Jb,Jc,Jd,Je,Nat.reduceAdd,Nat.reduceSub,Jf,Jg,Jh,Ji,Jj,Jk,Jl,Jm,Jn,Jo,Jp,Jq,Jr,reduceIte,Js,Jt,Int.reduceLT,Int.reduceLE,Int.reduceAdd,Int.reduceSub,Int.reduceMul,Int.reduceNeg,Ju,Jv,Jw,Jx,Jy,Jz,JA,JB,JC,JD,JE,str_lit,String.reduceEq,JF,JG,JH,JI, v_fld c1 lk_nums]
      refine ⟨S.length, acc, rfl, c3, ?_⟩
      have hk := keyP_slp ss[i]
      rw [dr, numsT] at h3
      cases hv : valT acc (slpE ss[i]) with
      | none =>
        rw [hv] at h3
        rw [v_sdefN c3 hk hv (by omega)]
        exact ⟨_, _, acc ++ [(slpE ss[i], .int (0 + i : Nat))], ⟨rfl, rfl⟩, by rw [List.set_set], hil, by simp; omega, by rw [Nat.zero_add]; exact h3⟩
      | some w =>
        rw [hv] at h3
        rw [v_sdefS c3 hk hv]
        exact ⟨_, _, acc, ⟨rfl, rfl⟩, rfl, hil, by omega, h3⟩
    · rintro env S' ⟨x2, x3, acc, rfl, rfl, h1, h2, h3⟩
      have hq1 : S1.length = S.length + 1 := by rw [← hS1, List.length_set]; simp
      rw [enumD_length, List.length_map] at h2 h3
      have hd : (ss.map slpE).drop ss.length = [] := by rw [← List.length_map (f := slpE) (as := ss), List.drop_length]
      rw [hd, numsT] at h3
      have c3 : (S1.set S.length (.dcd acc))[S.length]? = some (.dcd acc) := get_set i3
      refine nxt (go _ S.length _ _ ⟨by rw [get_set_ne (by omega)]; exact i1, by rw [get_set_ne (by omega)]; exact i2, fun q hq => ?_⟩ ⟨by rw [List.length_set]; omega, fun i o n1 n2 n3 ho => ?_⟩ (.inr ⟨rfl, Nat.le_refl _⟩))
      · cases hq
        refine ⟨acc, c3, fun d => ?_, by rw [List.length_map]; exact h2⟩
        rw [h3, numsT_val]
        simp only [valT, Nat.zero_add]
      · have := (List.getElem?_eq_some_iff.mp ho).1
        rw [get_set_ne (by omega)]
        exact i4.2 i o n1 n2 n3 ho
end Ab


namespace Ab
open PySem PySem.Spec PyProof.Rows L2 TL
theorem putA_0 {f : Str} {d : D} : putA f d [] = [(f, d)] := rfl
theorem put_rn {a b : D} : putA (Str.ofString "numbers") b [(Str.ofString "rows", a)] = [(Str.ofString "rows", a), (Str.ofString "numbers", b)] := by
  have e : ¬ (Str.ofString "rows" : Str) = Str.ofString "numbers" := by rw [str_lit]; decide
  simp only [putA]
  rw [if_neg e]
theorem book_ok {S : Sto} {xs : List D} {P : D → Sto → Prop} (h : ∀ S', BookAt S' S.length (S.length + 1) none xs → S'.length = S.length + 2 → (∀ (i : Nat) (o : O), S[i]? = some o → S'[i]? = some o) → P .non S') :
    Ok (d_Book____init__ [.ref S.length, .tup xs] (S ++ [.ins (Str.ofString "Book") []])) P := by
  unfold d_Book____init__
  have e0 : ((S ++ [O.ins (Str.ofString "Book") []]) ++ [O.lst xs])[S.length]? = some (.ins (Str.ofString "Book") []) := get_snoc get_last
  simp only [U0,U1,U2,U3,U4,U5,U6,U7,U8,U9,Ua,Ub,Uc,Ud,Ue,Uf,Ug,Uh,Ui,Uj,Uk,Ul,Um,Uo,Up,Uq,Ur,Us,Ut,Uu,Uv,Uw,Ux,Uy,Uz,UA,UB,UC,UD,UE,UF,UG,UH,UI,UJ,UK,UL,UM,UN,UO,UP,UQ,UR,US,UT,UU,UV,UW,UX,UY,UZ,Y0,Y1,Y2,Y3,Y4,Y5,Y6,Y7,Y8,Y9,Ya,Yb,Yc,Yd,Ye,Yf,Yg,Yh,Yi,Yj,Yk,Yl,Ym,Yn,Yo,Yp,Yq,Yr,Ys,Yt,Yu,Yv,Yw,Yx,Yy,Yz,YA,YB,YC,YD,YE,YF,YG,YH,YI,YJ,YK,YL,YM,YN,YO,YQ,YR,YS,YT,YU,YV,YW,YX,YY,YZ,J0,J2,J3,J4,J5,J6,J7,J8,J9,Ja,startD,Jb,Jc,Jd,Je,Nat.reduceAdd,Nat.reduceSub,Jf,Jg,Jh,Ji,Jj,Jk,Jl,Jm,Jn,Jo,Jp,Jq,Jr,reduceIte,Js,Jt,Int.reduceLT,Int.reduceLE,Int.reduceAdd,Int.reduceSub,Int.reduceMul,Int.reduceNeg,Ju,Jv,Jw,Jx,Jy,Jz,JA,JB,JC,JD,JE,str_lit,String.reduceEq,JF,JG,JH,JI, List.length_append]
  refine ⟨S.length, _, rfl, e0, by simp, ?_⟩
  rw [putA_0]
  have e1 := get_set (u := .ins (Str.ofString "Book") [(Str.ofString "rows", .ref (S.length + 1))]) e0
  refine nxt ?_
  simp only [U0,U1,U2,U3,U4,U5,U6,U7,U8,U9,Ua,Ub,Uc,Ud,Ue,Uf,Ug,Uh,Ui,Uj,Uk,Ul,Um,Uo,Up,Uq,Ur,Us,Ut,Uu,Uv,Uw,Ux,Uy,Uz,UA,UB,UC,UD,UE,UF,UG,UH,UI,UJ,UK,UL,UM,UN,UO,UP,UQ,UR,US,UT,UU,UV,UW,UX,UY,UZ,Y0,Y1,Y2,Y3,Y4,Y5,Y6,Y7,Y8,Y9,Ya,Yb,Yc,Yd,Ye,Yf,Yg,Yh,Yi,Yj,Yk,Yl,Ym,Yn,Yo,Yp,Yq,Yr,Ys,Yt,Yu,Yv,Yw,Yx,Yy,Yz,YA,YB,YC,YD,YE,YF,YG,YH,YI,YJ,YK,YL,YM,YN,YO,YQ,YR,YS,YT,YU,YV,YW,YX,YY,YZ,J0,J2,J3,J4,J5,J6,J7,J8,J9,Ja,startD,Jb,Jc,Jd,Je,Nat.reduceAdd,Nat.reduceSub,Jf,Jg,Jh,Ji,Jj,Jk,Jl,Jm,Jn,Jo,Jp,Jq,Jr,reduceIte,Js,Jt,Int.reduceLT,Int.reduceLE,Int.reduceAdd,Int.reduceSub,Int.reduceMul,Int.reduceNeg,Ju,Jv,Jw,Jx,Jy,Jz,JA,JB,JC,JD,JE,str_lit,String.reduceEq,JF,JG,JH,JI]
  refine ⟨S.length, _, rfl, e1, by simp, ?_⟩
  rw [put_rn]
  refine h _ ⟨get_set e1, ?_, fun q hq => by cases hq⟩ (by simp) fun i o ho => ?_
  · rw [get_set_ne (by omega), get_set_ne (by omega)]
    rw [List.getElem?_append_right (by simp)]
    simp
  · have := (List.getElem?_eq_some_iff.mp ho).1
    rw [get_set_ne (by omega), get_set_ne (by omega)]
    exact get_snoc (get_snoc ho)
theorem allS_ok {S : Sto} {k r : Nat} {nb : Option Nat} {xs : List D} {P : D → Sto → Prop} (B : BookAt S k r nb xs) (h : P (.tup xs) S) : Ok (d_Book__all_slips [.ref k] S) P := by
  unfold d_Book__all_slips
  simp only [U0,U1,U2,U3,U4,U5,U6,U7,U8,U9,Ua,Ub,Uc,Ud,Ue,Uf,Ug,Uh,Ui,Uj,Uk,Ul,Um,Uo,Up,Uq,Ur,Us,Ut,Uu,Uv,Uw,Ux,Uy,Uz,UA,UB,UC,UD,UE,UF,UG,UH,UI,UJ,UK,UL,UM,UN,UO,UP,UQ,UR,US,UT,UU,UV,UW,UX,UY,UZ,Y0,Y1,Y2,Y3,Y4,Y5,Y6,Y7,Y8,Y9,Ya,Yb,Yc,Yd,Ye,Yf,Yg,Yh,Yi,Yj,Yk,Yl,Ym,Yn,Yo,Yp,Yq,Yr,Ys,Yt,Yu,Yv,Yw,Yx,Yy,Yz,YA,YB,YC,YD,YE,YF,YG,YH,YI,YJ,YK,YL,YM,YN,YO,YQ,YR,YS,YT,YU,YV,YW,YX,YY,YZ,J0,J2,J3,J4,J5,J6,J7,J8,J9,Ja,startD,Jb,Jc,Jd,Je,Nat.reduceAdd,Nat.reduceSub,Jf,Jg,Jh,Ji,Jj,Jk,Jl,Jm,Jn,Jo,Jp,Jq,Jr,reduceIte,Js,Jt,Int.reduceLT,Int.reduceLE,Int.reduceAdd,Int.reduceSub,Int.reduceMul,Int.reduceNeg,Ju,Jv,Jw,Jx,Jy,Jz,JA,JB,JC,JD,JE,str_lit,String.reduceEq,JF,JG,JH,JI, v_fld B.ins lk_rows, v_tupL B.rows]
  exact h
theorem slipfor_ok {S : Sto} {ss : List Slp} {s : Slp} {P : D → Sto → Prop} (hl : ss.length < 90000) (h : ∀ S', Grow S S' → P (.tup [.int (ixS ss s : Nat), .tup ((nxS ss s).map slpE)]) S') : Ok (d_slip_for [.tup (ss.map slpE), slpE s] S) P := by
  unfold d_slip_for
  simp only [U0,U1,U2,U3,U4,U5,U6,U7,U8,U9,Ua,Ub,Uc,Ud,Ue,Uf,Ug,Uh,Ui,Uj,Uk,Ul,Um,Uo,Up,Uq,Ur,Us,Ut,Uu,Uv,Uw,Ux,Uy,Uz,UA,UB,UC,UD,UE,UF,UG,UH,UI,UJ,UK,UL,UM,UN,UO,UP,UQ,UR,US,UT,UU,UV,UW,UX,UY,UZ,Y0,Y1,Y2,Y3,Y4,Y5,Y6,Y7,Y8,Y9,Ya,Yb,Yc,Yd,Ye,Yf,Yg,Yh,Yi,Yj,Yk,Yl,Ym,Yn,Yo,Yp,Yq,Yr,Ys,Yt,Yu,Yv,Yw,Yx,Yy,Yz,YA,YB,YC,YD,YE,YF,YG,YH,YI,YJ,YK,YL,YM,YN,YO,YQ,YR,YS,YT,YU,YV,YW,YX,YY,YZ,J0,J2,J3,J4,J5,J6,J7,J8,J9,Ja,startD,Jb,Jc,Jd,Je,Nat.reduceAdd,Nat.reduceSub,Jf,Jg,Jh,Ji,Jj,Jk,Jl,Jm,Jn,Jo,Jp,Jq,Jr,reduceIte,Js,Jt,Int.reduceLT,Int.reduceLE,Int.reduceAdd,Int.reduceSub,Int.reduceMul,Int.reduceNeg,Ju,Jv,Jw,Jx,Jy,Jz,JA,JB,JC,JD,JE,str_lit,String.reduceEq,JF,JG,JH,JI]
  refine book_ok fun S1 B1 l1 g1 => ⟨rfl, nxt ?_⟩
  simp only [U0,U1,U2,U3,U4,U5,U6,U7,U8,U9,Ua,Ub,Uc,Ud,Ue,Uf,Ug,Uh,Ui,Uj,Uk,Ul,Um,Uo,Up,Uq,Ur,Us,Ut,Uu,Uv,Uw,Ux,Uy,Uz,UA,UB,UC,UD,UE,UF,UG,UH,UI,UJ,UK,UL,UM,UN,UO,UP,UQ,UR,US,UT,UU,UV,UW,UX,UY,UZ,Y0,Y1,Y2,Y3,Y4,Y5,Y6,Y7,Y8,Y9,Ya,Yb,Yc,Yd,Ye,Yf,Yg,Yh,Yi,Yj,Yk,Yl,Ym,Yn,Yo,Yp,Yq,Yr,Ys,Yt,Yu,Yv,Yw,Yx,Yy,Yz,YA,YB,YC,YD,YE,YF,YG,YH,YI,YJ,YK,YL,YM,YN,YO,YQ,YR,YS,YT,YU,YV,YW,YX,YY,YZ,J0,J2,J3,J4,J5,J6,J7,J8,J9,Ja,startD,Jb,Jc,Jd,Je,Nat.reduceAdd,Nat.reduceSub,Jf,Jg,Jh,Ji,Jj,Jk,Jl,Jm,Jn,Jo,Jp,Jq,Jr,reduceIte,Js,Jt,Int.reduceLT,Int.reduceLE,Int.reduceAdd,Int.reduceSub,Int.reduceMul,Int.reduceNeg,Ju,Jv,Jw,Jx,Jy,Jz,JA,JB,JC,JD,JE,str_lit,String.reduceEq,JF,JG,JH,JI]
  refine ⟨_, _, rfl, B1.ins, lk_no (by decide +kernel) (by decide +kernel), ?_⟩
  refine numfor_ok B1 hl fun S2 q B2 R2 hq => nxt ?_
  simp only [U0,U1,U2,U3,U4,U5,U6,U7,U8,U9,Ua,Ub,Uc,Ud,Ue,Uf,Ug,Uh,Ui,Uj,Uk,Ul,Um,Uo,Up,Uq,Ur,Us,Ut,Uu,Uv,Uw,Ux,Uy,Uz,UA,UB,UC,UD,UE,UF,UG,UH,UI,UJ,UK,UL,UM,UN,UO,UP,UQ,UR,US,UT,UU,UV,UW,UX,UY,UZ,Y0,Y1,Y2,Y3,Y4,Y5,Y6,Y7,Y8,Y9,Ya,Yb,Yc,Yd,Ye,Yf,Yg,Yh,Yi,Yj,Yk,Yl,Ym,Yn,Yo,Yp,Yq,Yr,Ys,Yt,Yu,Yv,Yw,Yx,Yy,Yz,YA,YB,YC,YD,YE,YF,YG,YH,YI,YJ,YK,YL,YM,YN,YO,YQ,YR,YS,YT,YU,YV,YW,YX,YY,YZ,J0,J2,J3,J4,J5,J6,J7,J8,J9,Ja,startD,Jb,Jc,Jd,Je,Nat.reduceAdd,Nat.reduceSub,Jf,Jg,Jh,Ji,Jj,Jk,Jl,Jm,Jn,Jo,Jp,Jq,Jr,reduceIte,Js,Jt,Int.reduceLT,Int.reduceLE,Int.reduceAdd,Int.reduceSub,Int.reduceMul,Int.reduceNeg,Ju,Jv,Jw,Jx,Jy,Jz,JA,JB,JC,JD,JE,str_lit,String.reduceEq,JF,JG,JH,JI]
  refine ⟨_, _, rfl, B2.ins, lk_no (by decide +kernel) (by decide +kernel), ?_⟩
  refine allS_ok B2 ?_
  refine h S2 ⟨by have := R2.1; omega, fun i o ho => ?_⟩
  have := (List.getElem?_eq_some_iff.mp ho).1
  exact R2.2 i o (by omega) (by omega) (fun z => nomatch z) (g1 i o ho)
end Ab


namespace Ab
open PySem PySem.Spec PyProof.Rows L2 TL
def EntOk (m : Int) : Ent → Prop
  | .on => False
  | .num n => isNum n
  | .far n => isNum n
  | .slp n => 0 ≤ n ∧ n < m
theorem entry_ok {S : Sto} {b : Nat} {m : Int} {P : D → Sto → Prop} (hb : BoxA S b) (h0 : 0 ≤ m) (h1 : m < 2 ^ 100) (h : ∀ (e : Ent) (S' : Sto), EntOk m e → BoxA S' b → OnlyB b S S' → P (entE e) S') : Ok (d__law_entry [.ref b, .int m] S) P := by
  unfold d__law_entry
  simp only [U0,U1,U2,U3,U4,U5,U6,U7,U8,U9,Ua,Ub,Uc,Ud,Ue,Uf,Ug,Uh,Ui,Uj,Uk,Ul,Um,Uo,Up,Uq,Ur,Us,Ut,Uu,Uv,Uw,Ux,Uy,Uz,UA,UB,UC,UD,UE,UF,UG,UH,UI,UJ,UK,UL,UM,UN,UO,UP,UQ,UR,US,UT,UU,UV,UW,UX,Y5,Y6,Y7,Y8,Y9,Ya,Yb,Yc,Yd,Ye,Yf,Yg,Yh,Yi,Yj,Yk,Yl,Ym,Yn,Yo,Yp,Yq,Yr,Ys,Yt,Yu,Yv,Yw,Yx,Yy,Yz,YA,YB,YC,YD,YE,YF,YG,YH,YI,YJ,YK,YL,YM,YN,YO,YQ,YR,YS,YT,YU,YV,YW,YX,YY,YZ,J0,J2,J3,J4,J5,J6,J7,J8,J9,Ja,startD,Jb,Jc,Jd,Je,Nat.reduceAdd,Nat.reduceSub,Jf,Jg,Jh,Ji,Jj,Jk,Jl,Jm,Jn,Jo,Jp,Jq,Jr,reduceIte,Js,Jt,Int.reduceLT,Int.reduceLE,Int.reduceAdd,Int.reduceSub,Int.reduceMul,Int.reduceNeg,Ju,Jv,Jw,Jx,Jy,Jz,JA,JB,JC,JD,JE,str_lit,String.reduceEq,JF,JG,JH,JI]
  refine take_ok hb (by decide) (by decide) fun i S1 i0 i1 b1 o1 => nxt ?_
  simp only [U0,U1,U2,U3,U4,U5,U6,U7,U8,U9,Ua,Ub,Uc,Ud,Ue,Uf,Ug,Uh,Ui,Uj,Uk,Ul,Um,Uo,Up,Uq,Ur,Us,Ut,Uu,Uv,Uw,Ux,Uy,Uz,UA,UB,UC,UD,UE,UF,UG,UH,UI,UJ,UK,UL,UM,UN,UO,UP,UQ,UR,US,UT,UU,UV,UW,UX,Y5,Y6,Y7,Y8,Y9,Ya,Yb,Yc,Yd,Ye,Yf,Yg,Yh,Yi,Yj,Yk,Yl,Ym,Yn,Yo,Yp,Yq,Yr,Ys,Yt,Yu,Yv,Yw,Yx,Yy,Yz,YA,YB,YC,YD,YE,YF,YG,YH,YI,YJ,YK,YL,YM,YN,YO,YQ,YR,YS,YT,YU,YV,YW,YX,YY,YZ,J0,J2,J3,J4,J5,J6,J7,J8,J9,Ja,startD,Jb,Jc,Jd,Je,Nat.reduceAdd,Nat.reduceSub,Jf,Jg,Jh,Ji,Jj,Jk,Jl,Jm,Jn,Jo,Jp,Jq,Jr,reduceIte,Js,Jt,Int.reduceLT,Int.reduceLE,Int.reduceAdd,Int.reduceSub,Int.reduceMul,Int.reduceNeg,Ju,Jv,Jw,Jx,Jy,Jz,JA,JB,JC,JD,JE,str_lit,String.reduceEq,JF,JG,JH,JI]
  split
  · refine number_ok b1 fun n S2 hn b2 o2 => ?_
    exact h (.num n) S2 hn b2 (o1.trans o2)
  · refine nxt ?_
    simp only [U0,U1,U2,U3,U4,U5,U6,U7,U8,U9,Ua,Ub,Uc,Ud,Ue,Uf,Ug,Uh,Ui,Uj,Uk,Ul,Um,Uo,Up,Uq,Ur,Us,Ut,Uu,Uv,Uw,Ux,Uy,Uz,UA,UB,UC,UD,UE,UF,UG,UH,UI,UJ,UK,UL,UM,UN,UO,UP,UQ,UR,US,UT,UU,UV,UW,UX,Y5,Y6,Y7,Y8,Y9,Ya,Yb,Yc,Yd,Ye,Yf,Yg,Yh,Yi,Yj,Yk,Yl,Ym,Yn,Yo,Yp,Yq,Yr,Ys,Yt,Yu,Yv,Yw,Yx,Yy,Yz,YA,YB,YC,YD,YE,YF,YG,YH,YI,YJ,YK,YL,YM,YN,YO,YQ,YR,YS,YT,YU,YV,YW,YX,YY,YZ,J0,J2,J3,J4,J5,J6,J7,J8,J9,Ja,startD,Jb,Jc,Jd,Je,Nat.reduceAdd,Nat.reduceSub,Jf,Jg,Jh,Ji,Jj,Jk,Jl,Jm,Jn,Jo,Jp,Jq,Jr,reduceIte,Js,Jt,Int.reduceLT,Int.reduceLE,Int.reduceAdd,Int.reduceSub,Int.reduceMul,Int.reduceNeg,Ju,Jv,Jw,Jx,Jy,Jz,JA,JB,JC,JD,JE,str_lit,String.reduceEq,JF,JG,JH,JI]
    by_cases hi : i = 1
    · simp only [U0,U1,U2,U3,U4,U5,U6,U7,U8,U9,Ua,Ub,Uc,Ud,Ue,Uf,Ug,Uh,Ui,Uj,Uk,Ul,Um,Uo,Up,Uq,Ur,Us,Ut,Uu,Uv,Uw,Ux,Uy,Uz,UA,UB,UC,UD,UE,UF,UG,UH,UI,UJ,UK,UL,UM,UN,UO,UP,UQ,UR,US,UT,UU,UV,UW,UX,Y5,Y6,Y7,Y8,Y9,Ya,Yb,Yc,Yd,Ye,Yf,Yg,Yh,Yi,Yj,Yk,Yl,Ym,Yn,Yo,Yp,Yq,Yr,Ys,Yt,Yu,Yv,Yw,Yx,Yy,Yz,YA,YB,YC,YD,YE,YF,YG,YH,YI,YJ,YK,YL,YM,YN,YO,YQ,YR,YS,YT,YU,YV,YW,YX,YY,YZ,J0,J2,J3,J4,J5,J6,J7,J8,J9,Ja,startD,Jb,Jc,Jd,Je,Nat.reduceAdd,Nat.reduceSub,Jf,Jg,Jh,Ji,Jj,Jk,Jl,Jm,Jn,Jo,Jp,Jq,Jr,reduceIte,Js,Jt,Int.reduceLT,Int.reduceLE,Int.reduceAdd,Int.reduceSub,Int.reduceMul,Int.reduceNeg,Ju,Jv,Jw,Jx,Jy,Jz,JA,JB,JC,JD,JE,str_lit,String.reduceEq,JF,JG,JH,JI, hi]
      refine number_ok b1 fun n S2 hn b2 o2 => ?_
      exact h (.far n) S2 hn b2 (o1.trans o2)
    · simp only [U0,U1,U2,U3,U4,U5,U6,U7,U8,U9,Ua,Ub,Uc,Ud,Ue,Uf,Ug,Uh,Ui,Uj,Uk,Ul,Um,Uo,Up,Uq,Ur,Us,Ut,Uu,Uv,Uw,Ux,Uy,Uz,UA,UB,UC,UD,UE,UF,UG,UH,UI,UJ,UK,UL,UM,UN,UO,UP,UQ,UR,US,UT,UU,UV,UW,UX,Y5,Y6,Y7,Y8,Y9,Ya,Yb,Yc,Yd,Ye,Yf,Yg,Yh,Yi,Yj,Yk,Yl,Ym,Yn,Yo,Yp,Yq,Yr,Ys,Yt,Yu,Yv,Yw,Yx,Yy,Yz,YA,YB,YC,YD,YE,YF,YG,YH,YI,YJ,YK,YL,YM,YN,YO,YQ,YR,YS,YT,YU,YV,YW,YX,YY,YZ,J0,J2,J3,J4,J5,J6,J7,J8,J9,Ja,startD,Jb,Jc,Jd,Je,Nat.reduceAdd,Nat.reduceSub,Jf,Jg,Jh,Ji,Jj,Jk,Jl,Jm,Jn,Jo,Jp,Jq,Jr,reduceIte,Js,Jt,Int.reduceLT,Int.reduceLE,Int.reduceAdd,Int.reduceSub,Int.reduceMul,Int.reduceNeg,Ju,Jv,Jw,Jx,Jy,Jz,JA,JB,JC,JD,JE,str_lit,String.reduceEq,JF,JG,JH,JI, hi]
      by_cases hm : m = 0
      · simp only [U0,U1,U2,U3,U4,U5,U6,U7,U8,U9,Ua,Ub,Uc,Ud,Ue,Uf,Ug,Uh,Ui,Uj,Uk,Ul,Um,Uo,Up,Uq,Ur,Us,Ut,Uu,Uv,Uw,Ux,Uy,Uz,UA,UB,UC,UD,UE,UF,UG,UH,UI,UJ,UK,UL,UM,UN,UO,UP,UQ,UR,US,UT,UU,UV,UW,UX,Y5,Y6,Y7,Y8,Y9,Ya,Yb,Yc,Yd,Ye,Yf,Yg,Yh,Yi,Yj,Yk,Yl,Ym,Yn,Yo,Yp,Yq,Yr,Ys,Yt,Yu,Yv,Yw,Yx,Yy,Yz,YA,YB,YC,YD,YE,YF,YG,YH,YI,YJ,YK,YL,YM,YN,YO,YQ,YR,YS,YT,YU,YV,YW,YX,YY,YZ,J0,J2,J3,J4,J5,J6,J7,J8,J9,Ja,startD,Jb,Jc,Jd,Je,Nat.reduceAdd,Nat.reduceSub,Jf,Jg,Jh,Ji,Jj,Jk,Jl,Jm,Jn,Jo,Jp,Jq,Jr,reduceIte,Js,Jt,Int.reduceLT,Int.reduceLE,Int.reduceAdd,Int.reduceSub,Int.reduceMul,Int.reduceNeg,Ju,Jv,Jw,Jx,Jy,Jz,JA,JB,JC,JD,JE,str_lit,String.reduceEq,JF,JG,JH,JI, hm]
        refine number_ok b1 fun n S2 hn b2 o2 => ?_
        exact h (.far n) S2 hn b2 (o1.trans o2)
      · simp only [U0,U1,U2,U3,U4,U5,U6,U7,U8,U9,Ua,Ub,Uc,Ud,Ue,Uf,Ug,Uh,Ui,Uj,Uk,Ul,Um,Uo,Up,Uq,Ur,Us,Ut,Uu,Uv,Uw,Ux,Uy,Uz,UA,UB,UC,UD,UE,UF,UG,UH,UI,UJ,UK,UL,UM,UN,UO,UP,UQ,UR,US,UT,UU,UV,UW,UX,Y5,Y6,Y7,Y8,Y9,Ya,Yb,Yc,Yd,Ye,Yf,Yg,Yh,Yi,Yj,Yk,Yl,Ym,Yn,Yo,Yp,Yq,Yr,Ys,Yt,Yu,Yv,Yw,Yx,Yy,Yz,YA,YB,YC,YD,YE,YF,YG,YH,YI,YJ,YK,YL,YM,YN,YO,YQ,YR,YS,YT,YU,YV,YW,YX,YY,YZ,J0,J2,J3,J4,J5,J6,J7,J8,J9,Ja,startD,Jb,Jc,Jd,Je,Nat.reduceAdd,Nat.reduceSub,Jf,Jg,Jh,Ji,Jj,Jk,Jl,Jm,Jn,Jo,Jp,Jq,Jr,reduceIte,Js,Jt,Int.reduceLT,Int.reduceLE,Int.reduceAdd,Int.reduceSub,Int.reduceMul,Int.reduceNeg,Ju,Jv,Jw,Jx,Jy,Jz,JA,JB,JC,JD,JE,str_lit,String.reduceEq,JF,JG,JH,JI, hm]
        refine nxt ?_
        simp only [U0,U1,U2,U3,U4,U5,U6,U7,U8,U9,Ua,Ub,Uc,Ud,Ue,Uf,Ug,Uh,Ui,Uj,Uk,Ul,Um,Uo,Up,Uq,Ur,Us,Ut,Uu,Uv,Uw,Ux,Uy,Uz,UA,UB,UC,UD,UE,UF,UG,UH,UI,UJ,UK,UL,UM,UN,UO,UP,UQ,UR,US,UT,UU,UV,UW,UX,Y5,Y6,Y7,Y8,Y9,Ya,Yb,Yc,Yd,Ye,Yf,Yg,Yh,Yi,Yj,Yk,Yl,Ym,Yn,Yo,Yp,Yq,Yr,Ys,Yt,Yu,Yv,Yw,Yx,Yy,Yz,YA,YB,YC,YD,YE,YF,YG,YH,YI,YJ,YK,YL,YM,YN,YO,YQ,YR,YS,YT,YU,YV,YW,YX,YY,YZ,J0,J2,J3,J4,J5,J6,J7,J8,J9,Ja,startD,Jb,Jc,Jd,Je,Nat.reduceAdd,Nat.reduceSub,Jf,Jg,Jh,Ji,Jj,Jk,Jl,Jm,Jn,Jo,Jp,Jq,Jr,reduceIte,Js,Jt,Int.reduceLT,Int.reduceLE,Int.reduceAdd,Int.reduceSub,Int.reduceMul,Int.reduceNeg,Ju,Jv,Jw,Jx,Jy,Jz,JA,JB,JC,JD,JE,str_lit,String.reduceEq,JF,JG,JH,JI]
        refine take_ok b1 (by omega) h1 fun n S2 hn hn2 b2 o2 => ?_
        exact h (.slp n) S2 ⟨hn, hn2⟩ b2 (o1.trans o2)
theorem EntOk.mono {m m' : Int} (h : m ≤ m') : ∀ {e : Ent}, EntOk m e → EntOk m' e
  | .num _, a => a
  | .far _, a => a
  | .slp _, a => ⟨a.1, by have := a.2; omega⟩
theorem shw_ent {m : Int} (hm : m ≤ 1000000000000000000) {e : Ent} (h : EntOk m e) : Shw (entE e) 43 1 := by
  have go : ∀ (x : String) (n : Int), PyData.strOk (Str.ofString x) = true → (reprText (Str.ofString x)).length ≤ 18 → 0 ≤ n → n < 1000000000000000000 → Shw (.tup [.str (Str.ofString x), .int n]) 43 1 := by
    intro x n h1 h2 h3 h4
    refine shw_tup (n := 18) (k := 0) (xs := [.str (Str.ofString x), .int n]) fun d hd => ?_
    simp only [List.mem_cons, List.not_mem_nil, or_false] at hd
    rcases hd with rfl | rfl
    · exact shw_str h1 h2
    · exact shw_int h3 h4
  cases e with
  | on => exact h.elim
  | num n => exact go "num" n (by decide +kernel) (by decide +kernel) h.1 h.2
  | far n => exact go "far" n (by decide +kernel) (by decide +kernel) h.1 h.2
  | slp n => exact go "slip" n (by decide +kernel) (by decide +kernel) h.1 (by have := h.2; omega)
end Ab


namespace Ab
open PySem PySem.Spec PyProof.Rows L2 TL
structure SlpOk (B : Nat) (m : Int) (s : Slp) : Prop where
  g0 : 0 ≤ s.gate
  g1 : s.gate < 60
  len : s.ents.length ≤ B
  ents : ∀ e ∈ s.ents, EntOk m e
theorem SlpOk.mono {B B' : Nat} {m m' : Int} {s : Slp} (h : SlpOk B m s) (hB : B ≤ B') (hm : m ≤ m') : SlpOk B' m' s := ⟨h.g0, h.g1, Nat.le_trans h.len hB, fun e he => (h.ents e he).mono hm⟩
theorem slip33_ok {S : Sto} {b : Nat} {m : Int} {P : D → Sto → Prop} (hb : BoxA S b) (h0 : 0 ≤ m) (h1 : m < 2 ^ 100) (h : ∀ (s : Slp) (S' : Sto), SlpOk 4 m s → BoxA S' b → OnlyB b S S' → P (slpE s) S') : Ok (d__law_slip [.ref b, .int m] S) P := by
  unfold d__law_slip
  simp only [U0,U1,U2,U3,U4,U5,U6,U7,U8,U9,Ua,Ub,Uc,Ud,Ue,Uf,Ug,Uh,Ui,Uj,Uk,Ul,Um,Uo,Up,Uq,Ur,Us,Ut,Uu,Uv,Uw,Ux,Uy,Uz,UA,UB,UC,UD,UE,UF,UG,UH,UI,UJ,UK,UL,UM,UN,UO,UP,UQ,UR,US,UT,UU,UV,UW,UX,Y5,Y6,Y7,Y8,Y9,Ya,Yb,Yc,Yd,Ye,Yf,Yg,Yh,Yi,Yj,Yk,Yl,Ym,Yn,Yo,Yp,Yq,Yr,Ys,Yt,Yu,Yv,Yw,Yx,Yy,Yz,YA,YB,YC,YD,YE,YF,YG,YH,YI,YJ,YK,YL,YM,YN,YO,YQ,YR,YS,YT,YU,YV,YW,YX,YY,YZ,J0,J2,J3,J4,J5,J6,J7,J8,J9,Ja,startD,Jb,Jc,Jd,Je,Nat.reduceAdd,Nat.reduceSub,Jf,Jg,Jh,Ji,Jj,Jk,Jl,Jm,Jn,Jo,Jp,Jq,Jr,reduceIte,Js,Jt,Int.reduceLT,Int.reduceLE,Int.reduceAdd,Int.reduceSub,Int.reduceMul,Int.reduceNeg,Ju,Jv,Jw,Jx,Jy,Jz,JA,JB,JC,JD,JE,str_lit,String.reduceEq,JF,JG,JH,JI]
  refine take_ok hb (by decide) (by decide) fun g S1 g0 g1 b1 o1 => ?_
  refine take_ok b1 (by decide) (by decide) fun n S2 n0 n1 b2 o2 => ?_
  have hin : in62 n = true := in62_iff.mpr ⟨by omega, by omega⟩
  simp only [U0,U1,U2,U3,U4,U5,U6,U7,U8,U9,Ua,Ub,Uc,Ud,Ue,Uf,Ug,Uh,Ui,Uj,Uk,Ul,Um,Uo,Up,Uq,Ur,Us,Ut,Uu,Uv,Uw,Ux,Uy,Uz,UA,UB,UC,UD,UE,UF,UG,UH,UI,UJ,UK,UL,UM,UN,UO,UP,UQ,UR,US,UT,UU,UV,UW,UX,Y5,Y6,Y7,Y8,Y9,Ya,Yb,Yc,Yd,Ye,Yf,Yg,Yh,Yi,Yj,Yk,Yl,Ym,Yn,Yo,Yp,Yq,Yr,Ys,Yt,Yu,Yv,Yw,Yx,Yy,Yz,YA,YB,YC,YD,YE,YF,YG,YH,YI,YJ,YK,YL,YM,YN,YO,YQ,YR,YS,YT,YU,YV,YW,YX,YY,YZ,J0,J2,J3,J4,J5,J6,J7,J8,J9,Ja,startD,Jb,Jc,Jd,Je,Nat.reduceAdd,Nat.reduceSub,Jf,Jg,Jh,Ji,Jj,Jk,Jl,Jm,Jn,Jo,Jp,Jq,Jr,reduceIte,Js,Jt,Int.reduceLT,Int.reduceLE,Int.reduceAdd,Int.reduceSub,Int.reduceMul,Int.reduceNeg,Ju,Jv,Jw,Jx,Jy,Jz,JA,JB,JC,JD,JE,str_lit,String.reduceEq,JF,JG,JH,JI, hin, wipeD]
  refine lc_ok (fun i S' => BoxA S' b ∧ OnlyB b S2 S' ∧ ∃ es : List Ent, es.length = i ∧ (∀ e ∈ es, EntOk m e) ∧ S'[S2.length]? = some (.lst (es.map entE))) ⟨b2.snoc, (OnlyB.refl b S2).snoc, [], rfl, by simp, get_last⟩ (fun _ _ _ => nokeep) ?_ ?_
  · rintro i x S3 hx ⟨b3, o3, es, e1, e2, e3⟩
    obtain ⟨rfl, hi⟩ := intsD_get hx
    simp only [U0,U1,U2,U3,U4,U5,U6,U7,U8,U9,Ua,Ub,Uc,Ud,Ue,Uf,Ug,Uh,Ui,Uj,Uk,Ul,Um,Uo,Up,Uq,Ur,Us,Ut,Uu,Uv,Uw,Ux,Uy,Uz,UA,UB,UC,UD,UE,UF,UG,UH,UI,UJ,UK,UL,UM,UN,UO,UP,UQ,UR,US,UT,UU,UV,UW,UX,Y5,Y6,Y7,Y8,Y9,Ya,Yb,Yc,Yd,Ye,Yf,Yg,Yh,Yi,Yj,Yk,Yl,Ym,Yn,Yo,Yp,Yq,Yr,Ys,Yt,Yu,Yv,Yw,Yx,Yy,Yz,YA,YB,YC,YD,YE,YF,YG,YH,YI,YJ,YK,YL,YM,YN,YO,YQ,YR,YS,YT,YU,YV,YW,YX,YY,YZ,J0,J2,J3,J4,J5,J6,J7,J8,J9,Ja,startD,Jb,Jc,Jd,Je,Nat.reduceAdd,Nat.reduceSub,Jf,Jg,Jh,Ji,Jj,Jk,Jl,Jm,Jn,Jo,Jp,Jq,Jr,reduceIte,Js,Jt,Int.reduceLT,Int.reduceLE,Int.reduceAdd,Int.reduceSub,Int.reduceMul,Int.reduceNeg,Ju,Jv,Jw,Jx,Jy,Jz,JA,JB,JC,JD,JE,str_lit,String.reduceEq,JF,JG,JH,JI]
    refine entry_ok b3 h0 h1 fun e S4 he b4 o4 => ?_
    have hne : S2.length ≠ b := by have := b2.lt; omega
    rw [v_appAt (o4.eq _ _ hne e3) (by rw [List.length_map]; omega)]
    refine ⟨b4.putNe hne, (o3.trans o4).putN (Nat.le_refl _), es ++ [e], by simp [e1], ?_, by rw [get_set (o4.eq _ _ hne e3), List.map_append]; rfl⟩
    intro e' he'
    rcases List.mem_append.mp he' with q | q
    · exact e2 e' q
    · rw [List.mem_singleton] at q; subst q; exact he
  · rintro S3 ⟨b3, o3, es, e1, e2, e3⟩
    rw [intsD_len] at e1
    simp only [U0,U1,U2,U3,U4,U5,U6,U7,U8,U9,Ua,Ub,Uc,Ud,Ue,Uf,Ug,Uh,Ui,Uj,Uk,Ul,Um,Uo,Up,Uq,Ur,Us,Ut,Uu,Uv,Uw,Ux,Uy,Uz,UA,UB,UC,UD,UE,UF,UG,UH,UI,UJ,UK,UL,UM,UN,UO,UP,UQ,UR,US,UT,UU,UV,UW,UX,Y5,Y6,Y7,Y8,Y9,Ya,Yb,Yc,Yd,Ye,Yf,Yg,Yh,Yi,Yj,Yk,Yl,Ym,Yn,Yo,Yp,Yq,Yr,Ys,Yt,Yu,Yv,Yw,Yx,Yy,Yz,YA,YB,YC,YD,YE,YF,YG,YH,YI,YJ,YK,YL,YM,YN,YO,YQ,YR,YS,YT,YU,YV,YW,YX,YY,YZ,J0,J2,J3,J4,J5,J6,J7,J8,J9,Ja,startD,Jb,Jc,Jd,Je,Nat.reduceAdd,Nat.reduceSub,Jf,Jg,Jh,Ji,Jj,Jk,Jl,Jm,Jn,Jo,Jp,Jq,Jr,reduceIte,Js,Jt,Int.reduceLT,Int.reduceLE,Int.reduceAdd,Int.reduceSub,Int.reduceMul,Int.reduceNeg,Ju,Jv,Jw,Jx,Jy,Jz,JA,JB,JC,JD,JE,str_lit,String.reduceEq,JF,JG,JH,JI, v_tupL e3]
    exact h ⟨g, es⟩ S3 ⟨g0, g1, by show es.length ≤ 4; omega, e2⟩ b3 (o1.trans (o2.trans o3))
theorem cut_drop {xs : List D} {k : Nat} (h : k ≤ xs.length) : cutD xs (some (k : Int)) none = xs.drop k := by
  unfold cutD
  rw [show HT.sIx xs.length xs.length none = xs.length from rfl, HT.sIx_nat, Nat.min_eq_left h]
  rw [List.take_of_length_le]
  rw [List.length_drop]; omega
theorem cut_take' {xs : List D} {k : Nat} (h : k ≤ xs.length) : cutD xs none (some (k : Int)) = xs.take k := by
  unfold cutD
  rw [show HT.sIx xs.length 0 none = 0 from rfl, HT.sIx_nat]
  simp [Nat.min_eq_left h]
theorem cut_drop' {xs : List D} {k : Nat} (h : xs.length ≤ k) : cutD xs (some (k : Int)) none = xs.drop k := by
  unfold cutD
  rw [show HT.sIx xs.length xs.length none = xs.length from rfl, HT.sIx_nat, Nat.min_eq_right h, Nat.sub_self, List.take_zero, List.drop_of_length_le h]
theorem cut_dropA {xs : List D} {k : Nat} : cutD xs (some (k : Int)) none = xs.drop k := by
  by_cases h : k ≤ xs.length
  · exact cut_drop h
  · exact cut_drop' (by omega)
theorem near33_ok {S : Sto} {b B : Nat} {ss : List Slp} {m : Int} {P : D → Sto → Prop} (hb : BoxA S b) (hl : ss.length < 1000) (hm : (ss.length : Int) ≤ m) (hB : 4 ≤ B) (hB2 : B ≤ 100) (hs : ∀ s ∈ ss, SlpOk B m s) (h : ∀ (s : Slp) (S' : Sto), SlpOk (B + 1) m s → Grow S S' ∨ OnlyB b S S' → P (slpE s) S') : Ok (d__law_near [.ref b, .tup (ss.map slpE)] S) P := by
  unfold d__law_near
  simp only [U0,U1,U2,U3,U4,U5,U6,U7,U8,U9,Ua,Ub,Uc,Ud,Ue,Uf,Ug,Uh,Ui,Uj,Uk,Ul,Um,Uo,Up,Uq,Ur,Us,Ut,Uu,Uv,Uw,Ux,Uy,Uz,UA,UB,UC,UD,UE,UF,UG,UH,UI,UJ,UK,UL,UM,UN,UO,UP,UQ,UR,US,UT,UU,UV,UW,UX,Y5,Y6,Y7,Y8,Y9,Ya,Yb,Yc,Yd,Ye,Yf,Yg,Yh,Yi,Yj,Yk,Yl,Ym,Yn,Yo,Yp,Yq,Yr,Ys,Yt,Yu,Yv,Yw,Yx,Yy,Yz,YA,YB,YC,YD,YE,YF,YG,YH,YI,YJ,YK,YL,YM,YN,YO,YQ,YR,YS,YT,YU,YV,YW,YX,YY,YZ,J0,J2,J3,J4,J5,J6,J7,J8,J9,Ja,startD,Jb,Jc,Jd,Je,Nat.reduceAdd,Nat.reduceSub,Jf,Jg,Jh,Ji,Jj,Jk,Jl,Jm,Jn,Jo,Jp,Jq,Jr,reduceIte,Js,Jt,Int.reduceLT,Int.reduceLE,Int.reduceAdd,Int.reduceSub,Int.reduceMul,Int.reduceNeg,Ju,Jv,Jw,Jx,Jy,Jz,JA,JB,JC,JD,JE,str_lit,String.reduceEq,JF,JG,JH,JI]
  refine take_ok hb (by decide) (by decide) fun f S1 f0 f1 b1 o1 => nxt ?_
  simp only [U0,U1,U2,U3,U4,U5,U6,U7,U8,U9,Ua,Ub,Uc,Ud,Ue,Uf,Ug,Uh,Ui,Uj,Uk,Ul,Um,Uo,Up,Uq,Ur,Us,Ut,Uu,Uv,Uw,Ux,Uy,Uz,UA,UB,UC,UD,UE,UF,UG,UH,UI,UJ,UK,UL,UM,UN,UO,UP,UQ,UR,US,UT,UU,UV,UW,UX,Y5,Y6,Y7,Y8,Y9,Ya,Yb,Yc,Yd,Ye,Yf,Yg,Yh,Yi,Yj,Yk,Yl,Ym,Yn,Yo,Yp,Yq,Yr,Ys,Yt,Yu,Yv,Yw,Yx,Yy,Yz,YA,YB,YC,YD,YE,YF,YG,YH,YI,YJ,YK,YL,YM,YN,YO,YQ,YR,YS,YT,YU,YV,YW,YX,YY,YZ,J0,J2,J3,J4,J5,J6,J7,J8,J9,Ja,startD,Jb,Jc,Jd,Je,Nat.reduceAdd,Nat.reduceSub,Jf,Jg,Jh,Ji,Jj,Jk,Jl,Jm,Jn,Jo,Jp,Jq,Jr,reduceIte,Js,Jt,Int.reduceLT,Int.reduceLE,Int.reduceAdd,Int.reduceSub,Int.reduceMul,Int.reduceNeg,Ju,Jv,Jw,Jx,Jy,Jz,JA,JB,JC,JD,JE,str_lit,String.reduceEq,JF,JG,JH,JI, List.length_map]
  have new : ∀ S2, BoxA S2 b → OnlyB b S S2 → Ok (d__law_slip [.ref b, .int (ss.length : Nat)] S2) fun d S => P d S := fun S2 b2 o2 => slip33_ok b2 (by omega) (by omega) fun s S3 hs3 b3 o3 => h s S3 (hs3.mono (by omega) hm) (.inr (o2.trans o3))
  by_cases hz : ((ss.length : Nat) : Int) = 0
  · simp only [U0,U1,U2,U3,U4,U5,U6,U7,U8,U9,Ua,Ub,Uc,Ud,Ue,Uf,Ug,Uh,Ui,Uj,Uk,Ul,Um,Uo,Up,Uq,Ur,Us,Ut,Uu,Uv,Uw,Ux,Uy,Uz,UA,UB,UC,UD,UE,UF,UG,UH,UI,UJ,UK,UL,UM,UN,UO,UP,UQ,UR,US,UT,UU,UV,UW,UX,Y5,Y6,Y7,Y8,Y9,Ya,Yb,Yc,Yd,Ye,Yf,Yg,Yh,Yi,Yj,Yk,Yl,Ym,Yn,Yo,Yp,Yq,Yr,Ys,Yt,Yu,Yv,Yw,Yx,Yy,Yz,YA,YB,YC,YD,YE,YF,YG,YH,YI,YJ,YK,YL,YM,YN,YO,YQ,YR,YS,YT,YU,YV,YW,YX,YY,YZ,J0,J2,J3,J4,J5,J6,J7,J8,J9,Ja,startD,Jb,Jc,Jd,Je,Nat.reduceAdd,Nat.reduceSub,Jf,Jg,Jh,Ji,Jj,Jk,Jl,Jm,Jn,Jo,Jp,Jq,Jr,reduceIte,Js,Jt,Int.reduceLT,Int.reduceLE,Int.reduceAdd,Int.reduceSub,Int.reduceMul,Int.reduceNeg,Ju,Jv,Jw,Jx,Jy,Jz,JA,JB,JC,JD,JE,str_lit,String.reduceEq,JF,JG,JH,JI, hz]
    have := new S1 b1 o1
    rw [hz] at this
    exact this
  · simp only [U0,U1,U2,U3,U4,U5,U6,U7,U8,U9,Ua,Ub,Uc,Ud,Ue,Uf,Ug,Uh,Ui,Uj,Uk,Ul,Um,Uo,Up,Uq,Ur,Us,Ut,Uu,Uv,Uw,Ux,Uy,Uz,UA,UB,UC,UD,UE,UF,UG,UH,UI,UJ,UK,UL,UM,UN,UO,UP,UQ,UR,US,UT,UU,UV,UW,UX,Y5,Y6,Y7,Y8,Y9,Ya,Yb,Yc,Yd,Ye,Yf,Yg,Yh,Yi,Yj,Yk,Yl,Ym,Yn,Yo,Yp,Yq,Yr,Ys,Yt,Yu,Yv,Yw,Yx,Yy,Yz,YA,YB,YC,YD,YE,YF,YG,YH,YI,YJ,YK,YL,YM,YN,YO,YQ,YR,YS,YT,YU,YV,YW,YX,YY,YZ,J0,J2,J3,J4,J5,J6,J7,J8,J9,Ja,startD,Jb,Jc,Jd,Je,Nat.reduceAdd,Nat.reduceSub,Jf,Jg,Jh,Ji,Jj,Jk,Jl,Jm,Jn,Jo,Jp,Jq,Jr,reduceIte,Js,Jt,Int.reduceLT,Int.reduceLE,Int.reduceAdd,Int.reduceSub,Int.reduceMul,Int.reduceNeg,Ju,Jv,Jw,Jx,Jy,Jz,JA,JB,JC,JD,JE,str_lit,String.reduceEq,JF,JG,JH,JI, hz]
    by_cases hf : f = 0
    · simp only [U0,U1,U2,U3,U4,U5,U6,U7,U8,U9,Ua,Ub,Uc,Ud,Ue,Uf,Ug,Uh,Ui,Uj,Uk,Ul,Um,Uo,Up,Uq,Ur,Us,Ut,Uu,Uv,Uw,Ux,Uy,Uz,UA,UB,UC,UD,UE,UF,UG,UH,UI,UJ,UK,UL,UM,UN,UO,UP,UQ,UR,US,UT,UU,UV,UW,UX,Y5,Y6,Y7,Y8,Y9,Ya,Yb,Yc,Yd,Ye,Yf,Yg,Yh,Yi,Yj,Yk,Yl,Ym,Yn,Yo,Yp,Yq,Yr,Ys,Yt,Yu,Yv,Yw,Yx,Yy,Yz,YA,YB,YC,YD,YE,YF,YG,YH,YI,YJ,YK,YL,YM,YN,YO,YQ,YR,YS,YT,YU,YV,YW,YX,YY,YZ,J0,J2,J3,J4,J5,J6,J7,J8,J9,Ja,startD,Jb,Jc,Jd,Je,Nat.reduceAdd,Nat.reduceSub,Jf,Jg,Jh,Ji,Jj,Jk,Jl,Jm,Jn,Jo,Jp,Jq,Jr,reduceIte,Js,Jt,Int.reduceLT,Int.reduceLE,Int.reduceAdd,Int.reduceSub,Int.reduceMul,Int.reduceNeg,Ju,Jv,Jw,Jx,Jy,Jz,JA,JB,JC,JD,JE,str_lit,String.reduceEq,JF,JG,JH,JI, hf]
      exact new S1 b1 o1
    · simp only [U0,U1,U2,U3,U4,U5,U6,U7,U8,U9,Ua,Ub,Uc,Ud,Ue,Uf,Ug,Uh,Ui,Uj,Uk,Ul,Um,Uo,Up,Uq,Ur,Us,Ut,Uu,Uv,Uw,Ux,Uy,Uz,UA,UB,UC,UD,UE,UF,UG,UH,UI,UJ,UK,UL,UM,UN,UO,UP,UQ,UR,US,UT,UU,UV,UW,UX,Y5,Y6,Y7,Y8,Y9,Ya,Yb,Yc,Yd,Ye,Yf,Yg,Yh,Yi,Yj,Yk,Yl,Ym,Yn,Yo,Yp,Yq,Yr,Ys,Yt,Yu,Yv,Yw,Yx,Yy,Yz,YA,YB,YC,YD,YE,YF,YG,YH,YI,YJ,YK,YL,YM,YN,YO,YQ,YR,YS,YT,YU,YV,YW,YX,YY,YZ,J0,J2,J3,J4,J5,J6,J7,J8,J9,Ja,startD,Jb,Jc,Jd,Je,Nat.reduceAdd,Nat.reduceSub,Jf,Jg,Jh,Ji,Jj,Jk,Jl,Jm,Jn,Jo,Jp,Jq,Jr,reduceIte,Js,Jt,Int.reduceLT,Int.reduceLE,Int.reduceAdd,Int.reduceSub,Int.reduceMul,Int.reduceNeg,Ju,Jv,Jw,Jx,Jy,Jz,JA,JB,JC,JD,JE,str_lit,String.reduceEq,JF,JG,JH,JI, hf]
      refine nxt ?_
      simp only [U0,U1,U2,U3,U4,U5,U6,U7,U8,U9,Ua,Ub,Uc,Ud,Ue,Uf,Ug,Uh,Ui,Uj,Uk,Ul,Um,Uo,Up,Uq,Ur,Us,Ut,Uu,Uv,Uw,Ux,Uy,Uz,UA,UB,UC,UD,UE,UF,UG,UH,UI,UJ,UK,UL,UM,UN,UO,UP,UQ,UR,US,UT,UU,UV,UW,UX,Y5,Y6,Y7,Y8,Y9,Ya,Yb,Yc,Yd,Ye,Yf,Yg,Yh,Yi,Yj,Yk,Yl,Ym,Yn,Yo,Yp,Yq,Yr,Ys,Yt,Yu,Yv,Yw,Yx,Yy,Yz,YA,YB,YC,YD,YE,YF,YG,YH,YI,YJ,YK,YL,YM,YN,YO,YQ,YR,YS,YT,YU,YV,YW,YX,YY,YZ,J0,J2,J3,J4,J5,J6,J7,J8,J9,Ja,startD,Jb,Jc,Jd,Je,Nat.reduceAdd,Nat.reduceSub,Jf,Jg,Jh,Ji,Jj,Jk,Jl,Jm,Jn,Jo,Jp,Jq,Jr,reduceIte,Js,Jt,Int.reduceLT,Int.reduceLE,Int.reduceAdd,Int.reduceSub,Int.reduceMul,Int.reduceNeg,Ju,Jv,Jw,Jx,Jy,Jz,JA,JB,JC,JD,JE,str_lit,String.reduceEq,JF,JG,JH,JI, List.length_map]
      refine take_ok b1 (by omega) (by omega) fun j S2 j0 j1 b2 o2 => ?_
      obtain ⟨jn, rfl⟩ := Int.eq_ofNat_of_zero_le j0
      have hj : jn < ss.length := by omega
      have hat : L2.atI (ss.map slpE) (jn : Int) = some (slpE ss[jn]) := atI_nat (by rw [List.getElem?_map, List.getElem?_eq_getElem hj]; rfl)
      have sj := hs _ (List.getElem_mem hj)
      generalize hsj : ss[jn] = sl at hat sj
      obtain ⟨g, es⟩ := sl
      simp only [U0,U1,U2,U3,U4,U5,U6,U7,U8,U9,Ua,Ub,Uc,Ud,Ue,Uf,Ug,Uh,Ui,Uj,Uk,Ul,Um,Uo,Up,Uq,Ur,Us,Ut,Uu,Uv,Uw,Ux,Uy,Uz,UA,UB,UC,UD,UE,UF,UG,UH,UI,UJ,UK,UL,UM,UN,UO,UP,UQ,UR,US,UT,UU,UV,UW,UX,Y5,Y6,Y7,Y8,Y9,Ya,Yb,Yc,Yd,Ye,Yf,Yg,Yh,Yi,Yj,Yk,Yl,Ym,Yn,Yo,Yp,Yq,Yr,Ys,Yt,Yu,Yv,Yw,Yx,Yy,Yz,YA,YB,YC,YD,YE,YF,YG,YH,YI,YJ,YK,YL,YM,YN,YO,YQ,YR,YS,YT,YU,YV,YW,YX,YY,YZ,J0,J2,J3,J4,J5,J6,J7,J8,J9,Ja,startD,Jb,Jc,Jd,Je,Nat.reduceAdd,Nat.reduceSub,Jf,Jg,Jh,Ji,Jj,Jk,Jl,Jm,Jn,Jo,Jp,Jq,Jr,reduceIte,Js,Jt,Int.reduceLT,Int.reduceLE,Int.reduceAdd,Int.reduceSub,Int.reduceMul,Int.reduceNeg,Ju,Jv,Jw,Jx,Jy,Jz,JA,JB,JC,JD,JE,str_lit,String.reduceEq,JF,JG,JH,JI, hat, slpE]
      refine nxt ?_
      simp only [U0,U1,U2,U3,U4,U5,U6,U7,U8,U9,Ua,Ub,Uc,Ud,Ue,Uf,Ug,Uh,Ui,Uj,Uk,Ul,Um,Uo,Up,Uq,Ur,Us,Ut,Uu,Uv,Uw,Ux,Uy,Uz,UA,UB,UC,UD,UE,UF,UG,UH,UI,UJ,UK,UL,UM,UN,UO,UP,UQ,UR,US,UT,UU,UV,UW,UX,Y5,Y6,Y7,Y8,Y9,Ya,Yb,Yc,Yd,Ye,Yf,Yg,Yh,Yi,Yj,Yk,Yl,Ym,Yn,Yo,Yp,Yq,Yr,Ys,Yt,Yu,Yv,Yw,Yx,Yy,Yz,YA,YB,YC,YD,YE,YF,YG,YH,YI,YJ,YK,YL,YM,YN,YO,YQ,YR,YS,YT,YU,YV,YW,YX,YY,YZ,J0,J2,J3,J4,J5,J6,J7,J8,J9,Ja,startD,Jb,Jc,Jd,Je,Nat.reduceAdd,Nat.reduceSub,Jf,Jg,Jh,Ji,Jj,Jk,Jl,Jm,Jn,Jo,Jp,Jq,Jr,reduceIte,Js,Jt,Int.reduceLT,Int.reduceLE,Int.reduceAdd,Int.reduceSub,Int.reduceMul,Int.reduceNeg,Ju,Jv,Jw,Jx,Jy,Jz,JA,JB,JC,JD,JE,str_lit,String.reduceEq,JF,JG,JH,JI]
      split
      · exact h ⟨g, es⟩ S2 (sj.mono (by omega) (Int.le_refl _)) (.inr (o1.trans o2))
      · refine nxt ?_
        simp only [U0,U1,U2,U3,U4,U5,U6,U7,U8,U9,Ua,Ub,Uc,Ud,Ue,Uf,Ug,Uh,Ui,Uj,Uk,Ul,Um,Uo,Up,Uq,Ur,Us,Ut,Uu,Uv,Uw,Ux,Uy,Uz,UA,UB,UC,UD,UE,UF,UG,UH,UI,UJ,UK,UL,UM,UN,UO,UP,UQ,UR,US,UT,UU,UV,UW,UX,Y5,Y6,Y7,Y8,Y9,Ya,Yb,Yc,Yd,Ye,Yf,Yg,Yh,Yi,Yj,Yk,Yl,Ym,Yn,Yo,Yp,Yq,Yr,Ys,Yt,Yu,Yv,Yw,Yx,Yy,Yz,YA,YB,YC,YD,YE,YF,YG,YH,YI,YJ,YK,YL,YM,YN,YO,YQ,YR,YS,YT,YU,YV,YW,YX,YY,YZ,J0,J2,J3,J4,J5,J6,J7,J8,J9,Ja,startD,Jb,Jc,Jd,Je,Nat.reduceAdd,Nat.reduceSub,Jf,Jg,Jh,Ji,Jj,Jk,Jl,Jm,Jn,Jo,Jp,Jq,Jr,reduceIte,Js,Jt,Int.reduceLT,Int.reduceLE,Int.reduceAdd,Int.reduceSub,Int.reduceMul,Int.reduceNeg,Ju,Jv,Jw,Jx,Jy,Jz,JA,JB,JC,JD,JE,str_lit,String.reduceEq,JF,JG,JH,JI]
        split
        · refine take_ok b2 (by decide) (by decide) fun t S3 t0 t1 b3 o3 => ?_
          simp only [U0,U1,U2,U3,U4,U5,U6,U7,U8,U9,Ua,Ub,Uc,Ud,Ue,Uf,Ug,Uh,Ui,Uj,Uk,Ul,Um,Uo,Up,Uq,Ur,Us,Ut,Uu,Uv,Uw,Ux,Uy,Uz,UA,UB,UC,UD,UE,UF,UG,UH,UI,UJ,UK,UL,UM,UN,UO,UP,UQ,UR,US,UT,UU,UV,UW,UX,Y5,Y6,Y7,Y8,Y9,Ya,Yb,Yc,Yd,Ye,Yf,Yg,Yh,Yi,Yj,Yk,Yl,Ym,Yn,Yo,Yp,Yq,Yr,Ys,Yt,Yu,Yv,Yw,Yx,Yy,Yz,YA,YB,YC,YD,YE,YF,YG,YH,YI,YJ,YK,YL,YM,YN,YO,YQ,YR,YS,YT,YU,YV,YW,YX,YY,YZ,J0,J2,J3,J4,J5,J6,J7,J8,J9,Ja,startD,Jb,Jc,Jd,Je,Nat.reduceAdd,Nat.reduceSub,Jf,Jg,Jh,Ji,Jj,Jk,Jl,Jm,Jn,Jo,Jp,Jq,Jr,reduceIte,Js,Jt,Int.reduceLT,Int.reduceLE,Int.reduceAdd,Int.reduceSub,Int.reduceMul,Int.reduceNeg,Ju,Jv,Jw,Jx,Jy,Jz,JA,JB,JC,JD,JE,str_lit,String.reduceEq,JF,JG,JH,JI]
          refine h ⟨(g + 1 + t) % 60, es⟩ S3 ⟨Int.emod_nonneg _ (by decide), Int.emod_lt_of_pos _ (by decide), Nat.le_succ_of_le sj.len, sj.ents⟩ (.inr (o1.trans (o2.trans o3)))
        · have l1 : es.length ≤ B := sj.len
          refine nxt ?_
          simp only [U0,U1,U2,U3,U4,U5,U6,U7,U8,U9,Ua,Ub,Uc,Ud,Ue,Uf,Ug,Uh,Ui,Uj,Uk,Ul,Um,Uo,Up,Uq,Ur,Us,Ut,Uu,Uv,Uw,Ux,Uy,Uz,UA,UB,UC,UD,UE,UF,UG,UH,UI,UJ,UK,UL,UM,UN,UO,UP,UQ,UR,US,UT,UU,UV,UW,UX,Y5,Y6,Y7,Y8,Y9,Ya,Yb,Yc,Yd,Ye,Yf,Yg,Yh,Yi,Yj,Yk,Yl,Ym,Yn,Yo,Yp,Yq,Yr,Ys,Yt,Yu,Yv,Yw,Yx,Yy,Yz,YA,YB,YC,YD,YE,YF,YG,YH,YI,YJ,YK,YL,YM,YN,YO,YQ,YR,YS,YT,YU,YV,YW,YX,YY,YZ,J0,J2,J3,J4,J5,J6,J7,J8,J9,Ja,startD,Jb,Jc,Jd,Je,Nat.reduceAdd,Nat.reduceSub,Jf,Jg,Jh,Ji,Jj,Jk,Jl,Jm,Jn,Jo,Jp,Jq,Jr,reduceIte,Js,Jt,Int.reduceLT,Int.reduceLE,Int.reduceAdd,Int.reduceSub,Int.reduceMul,Int.reduceNeg,Ju,Jv,Jw,Jx,Jy,Jz,JA,JB,JC,JD,JE,str_lit,String.reduceEq,JF,JG,JH,JI, List.length_map]
          refine take_ok b2 (by omega) (by omega) fun t S3 t0 t1 b3 o3 => ?_
          obtain ⟨tn, rfl⟩ := Int.eq_ofNat_of_zero_le t0
          have ht : tn ≤ es.length := by omega
          have tk : cutD (es.map entE) none (some (tn : Int)) = (es.take tn).map entE := by rw [cut_take' (by rw [List.length_map]; exact ht), List.map_take]
          have dr : ∀ k : Nat, cutD (es.map entE) (some (k : Int)) none = (es.drop k).map entE := fun k => by rw [cut_dropA, List.map_drop]
          have dr1 : cutD (es.map entE) (some ((tn : Int) + 1)) none = (es.drop (tn + 1)).map entE := dr (tn + 1)
          have mt : ∀ e ∈ es.take tn, EntOk m e := fun e he => sj.ents e (List.mem_of_mem_take he)
          have md : ∀ k, ∀ e ∈ es.drop k, EntOk m e := fun k e he => sj.ents e (List.mem_of_mem_drop he)
          have lt : (es.take tn).length = tn := by rw [List.length_take]; omega
          have ld : ∀ k, (es.drop k).length = es.length - k := fun k => List.length_drop
          refine nxt ?_
          simp only [U0,U1,U2,U3,U4,U5,U6,U7,U8,U9,Ua,Ub,Uc,Ud,Ue,Uf,Ug,Uh,Ui,Uj,Uk,Ul,Um,Uo,Up,Uq,Ur,Us,Ut,Uu,Uv,Uw,Ux,Uy,Uz,UA,UB,UC,UD,UE,UF,UG,UH,UI,UJ,UK,UL,UM,UN,UO,UP,UQ,UR,US,UT,UU,UV,UW,UX,Y5,Y6,Y7,Y8,Y9,Ya,Yb,Yc,Yd,Ye,Yf,Yg,Yh,Yi,Yj,Yk,Yl,Ym,Yn,Yo,Yp,Yq,Yr,Ys,Yt,Yu,Yv,Yw,Yx,Yy,Yz,YA,YB,YC,YD,YE,YF,YG,YH,YI,YJ,YK,YL,YM,YN,YO,YQ,YR,YS,YT,YU,YV,YW,YX,YY,YZ,J0,J2,J3,J4,J5,J6,J7,J8,J9,Ja,startD,Jb,Jc,Jd,Je,Nat.reduceAdd,Nat.reduceSub,Jf,Jg,Jh,Ji,Jj,Jk,Jl,Jm,Jn,Jo,Jp,Jq,Jr,reduceIte,Js,Jt,Int.reduceLT,Int.reduceLE,Int.reduceAdd,Int.reduceSub,Int.reduceMul,Int.reduceNeg,Ju,Jv,Jw,Jx,Jy,Jz,JA,JB,JC,JD,JE,str_lit,String.reduceEq,JF,JG,JH,JI]
          split
          · simp only [U0,U1,U2,U3,U4,U5,U6,U7,U8,U9,Ua,Ub,Uc,Ud,Ue,Uf,Ug,Uh,Ui,Uj,Uk,Ul,Um,Uo,Up,Uq,Ur,Us,Ut,Uu,Uv,Uw,Ux,Uy,Uz,UA,UB,UC,UD,UE,UF,UG,UH,UI,UJ,UK,UL,UM,UN,UO,UP,UQ,UR,US,UT,UU,UV,UW,UX,Y5,Y6,Y7,Y8,Y9,Ya,Yb,Yc,Yd,Ye,Yf,Yg,Yh,Yi,Yj,Yk,Yl,Ym,Yn,Yo,Yp,Yq,Yr,Ys,Yt,Yu,Yv,Yw,Yx,Yy,Yz,YA,YB,YC,YD,YE,YF,YG,YH,YI,YJ,YK,YL,YM,YN,YO,YQ,YR,YS,YT,YU,YV,YW,YX,YY,YZ,J0,J2,J3,J4,J5,J6,J7,J8,J9,Ja,startD,Jb,Jc,Jd,Je,Nat.reduceAdd,Nat.reduceSub,Jf,Jg,Jh,Ji,Jj,Jk,Jl,Jm,Jn,Jo,Jp,Jq,Jr,reduceIte,Js,Jt,Int.reduceLT,Int.reduceLE,Int.reduceAdd,Int.reduceSub,Int.reduceMul,Int.reduceNeg,Ju,Jv,Jw,Jx,Jy,Jz,JA,JB,JC,JD,JE,str_lit,String.reduceEq,JF,JG,JH,JI, tk, List.length_map]
            refine entry_ok b3 (by omega) (by omega) fun e S4 he b4 o4 => ?_
            simp only [U0,U1,U2,U3,U4,U5,U6,U7,U8,U9,Ua,Ub,Uc,Ud,Ue,Uf,Ug,Uh,Ui,Uj,Uk,Ul,Um,Uo,Up,Uq,Ur,Us,Ut,Uu,Uv,Uw,Ux,Uy,Uz,UA,UB,UC,UD,UE,UF,UG,UH,UI,UJ,UK,UL,UM,UN,UO,UP,UQ,UR,US,UT,UU,UV,UW,UX,Y5,Y6,Y7,Y8,Y9,Ya,Yb,Yc,Yd,Ye,Yf,Yg,Yh,Yi,Yj,Yk,Yl,Ym,Yn,Yo,Yp,Yq,Yr,Ys,Yt,Yu,Yv,Yw,Yx,Yy,Yz,YA,YB,YC,YD,YE,YF,YG,YH,YI,YJ,YK,YL,YM,YN,YO,YQ,YR,YS,YT,YU,YV,YW,YX,YY,YZ,J0,J2,J3,J4,J5,J6,J7,J8,J9,Ja,startD,Jb,Jc,Jd,Je,Nat.reduceAdd,Nat.reduceSub,Jf,Jg,Jh,Ji,Jj,Jk,Jl,Jm,Jn,Jo,Jp,Jq,Jr,reduceIte,Js,Jt,Int.reduceLT,Int.reduceLE,Int.reduceAdd,Int.reduceSub,Int.reduceMul,Int.reduceNeg,Ju,Jv,Jw,Jx,Jy,Jz,JA,JB,JC,JD,JE,str_lit,String.reduceEq,JF,JG,JH,JI, v_addT (x := (es.take tn).map entE) (y := [entE e]) (S := S4) (by rw [List.length_map]; simp; omega), dr1, v_addT (x := (es.take tn).map entE ++ [entE e]) (y := (es.drop (tn + 1)).map entE) (S := S4) (by simp; omega)]
            have := h ⟨g, es.take tn ++ [e] ++ es.drop (tn + 1)⟩ S4 ⟨sj.g0, sj.g1, by show (es.take tn ++ [e] ++ es.drop (tn + 1)).length ≤ B + 1; rw [List.length_append, List.length_append, lt, ld]; simp; omega, fun e' he' => ?_⟩ (.inr (o1.trans (o2.trans (o3.trans o4))))
            · simpa [slpE, List.map_append] using this
            · rcases List.mem_append.mp he' with q | q
              · rcases List.mem_append.mp q with q | q
                · exact mt e' q
                · rw [List.mem_singleton] at q; subst q; exact he.mono hm
              · exact md _ e' q
          · refine nxt ?_
            simp only [U0,U1,U2,U3,U4,U5,U6,U7,U8,U9,Ua,Ub,Uc,Ud,Ue,Uf,Ug,Uh,Ui,Uj,Uk,Ul,Um,Uo,Up,Uq,Ur,Us,Ut,Uu,Uv,Uw,Ux,Uy,Uz,UA,UB,UC,UD,UE,UF,UG,UH,UI,UJ,UK,UL,UM,UN,UO,UP,UQ,UR,US,UT,UU,UV,UW,UX,Y5,Y6,Y7,Y8,Y9,Ya,Yb,Yc,Yd,Ye,Yf,Yg,Yh,Yi,Yj,Yk,Yl,Ym,Yn,Yo,Yp,Yq,Yr,Ys,Yt,Yu,Yv,Yw,Yx,Yy,Yz,YA,YB,YC,YD,YE,YF,YG,YH,YI,YJ,YK,YL,YM,YN,YO,YQ,YR,YS,YT,YU,YV,YW,YX,YY,YZ,J0,J2,J3,J4,J5,J6,J7,J8,J9,Ja,startD,Jb,Jc,Jd,Je,Nat.reduceAdd,Nat.reduceSub,Jf,Jg,Jh,Ji,Jj,Jk,Jl,Jm,Jn,Jo,Jp,Jq,Jr,reduceIte,Js,Jt,Int.reduceLT,Int.reduceLE,Int.reduceAdd,Int.reduceSub,Int.reduceMul,Int.reduceNeg,Ju,Jv,Jw,Jx,Jy,Jz,JA,JB,JC,JD,JE,str_lit,String.reduceEq,JF,JG,JH,JI]
            refine take_ok b3 (by decide) (by decide) fun u S4 u0 u1 b4 o4 => ?_
            simp only [U0,U1,U2,U3,U4,U5,U6,U7,U8,U9,Ua,Ub,Uc,Ud,Ue,Uf,Ug,Uh,Ui,Uj,Uk,Ul,Um,Uo,Up,Uq,Ur,Us,Ut,Uu,Uv,Uw,Ux,Uy,Uz,UA,UB,UC,UD,UE,UF,UG,UH,UI,UJ,UK,UL,UM,UN,UO,UP,UQ,UR,US,UT,UU,UV,UW,UX,Y5,Y6,Y7,Y8,Y9,Ya,Yb,Yc,Yd,Ye,Yf,Yg,Yh,Yi,Yj,Yk,Yl,Ym,Yn,Yo,Yp,Yq,Yr,Ys,Yt,Yu,Yv,Yw,Yx,Yy,Yz,YA,YB,YC,YD,YE,YF,YG,YH,YI,YJ,YK,YL,YM,YN,YO,YQ,YR,YS,YT,YU,YV,YW,YX,YY,YZ,J0,J2,J3,J4,J5,J6,J7,J8,J9,Ja,startD,Jb,Jc,Jd,Je,Nat.reduceAdd,Nat.reduceSub,Jf,Jg,Jh,Ji,Jj,Jk,Jl,Jm,Jn,Jo,Jp,Jq,Jr,reduceIte,Js,Jt,Int.reduceLT,Int.reduceLE,Int.reduceAdd,Int.reduceSub,Int.reduceMul,Int.reduceNeg,Ju,Jv,Jw,Jx,Jy,Jz,JA,JB,JC,JD,JE,str_lit,String.reduceEq,JF,JG,JH,JI]
            split
            · simp only [U0,U1,U2,U3,U4,U5,U6,U7,U8,U9,Ua,Ub,Uc,Ud,Ue,Uf,Ug,Uh,Ui,Uj,Uk,Ul,Um,Uo,Up,Uq,Ur,Us,Ut,Uu,Uv,Uw,Ux,Uy,Uz,UA,UB,UC,UD,UE,UF,UG,UH,UI,UJ,UK,UL,UM,UN,UO,UP,UQ,UR,US,UT,UU,UV,UW,UX,Y5,Y6,Y7,Y8,Y9,Ya,Yb,Yc,Yd,Ye,Yf,Yg,Yh,Yi,Yj,Yk,Yl,Ym,Yn,Yo,Yp,Yq,Yr,Ys,Yt,Yu,Yv,Yw,Yx,Yy,Yz,YA,YB,YC,YD,YE,YF,YG,YH,YI,YJ,YK,YL,YM,YN,YO,YQ,YR,YS,YT,YU,YV,YW,YX,YY,YZ,J0,J2,J3,J4,J5,J6,J7,J8,J9,Ja,startD,Jb,Jc,Jd,Je,Nat.reduceAdd,Nat.reduceSub,Jf,Jg,Jh,Ji,Jj,Jk,Jl,Jm,Jn,Jo,Jp,Jq,Jr,reduceIte,Js,Jt,Int.reduceLT,Int.reduceLE,Int.reduceAdd,Int.reduceSub,Int.reduceMul,Int.reduceNeg,Ju,Jv,Jw,Jx,Jy,Jz,JA,JB,JC,JD,JE,str_lit,String.reduceEq,JF,JG,JH,JI, tk, dr1, v_addT (x := (es.take tn).map entE) (y := (es.drop (tn + 1)).map entE) (S := S4) (by simp; omega)]
              have := h ⟨g, es.take tn ++ es.drop (tn + 1)⟩ S4 ⟨sj.g0, sj.g1, by show (es.take tn ++ es.drop (tn + 1)).length ≤ B + 1; rw [List.length_append, lt, ld]; omega, fun e' he' => ?_⟩ (.inr (o1.trans (o2.trans (o3.trans o4))))
              · simpa [slpE, List.map_append] using this
              · rcases List.mem_append.mp he' with q | q
                · exact mt e' q
                · exact md _ e' q
            · refine nxt ?_
              simp only [U0,U1,U2,U3,U4,U5,U6,U7,U8,U9,Ua,Ub,Uc,Ud,Ue,Uf,Ug,Uh,Ui,Uj,Uk,Ul,Um,Uo,Up,Uq,Ur,Us,Ut,Uu,Uv,Uw,Ux,Uy,Uz,UA,UB,UC,UD,UE,UF,UG,UH,UI,UJ,UK,UL,UM,UN,UO,UP,UQ,UR,US,UT,UU,UV,UW,UX,Y5,Y6,Y7,Y8,Y9,Ya,Yb,Yc,Yd,Ye,Yf,Yg,Yh,Yi,Yj,Yk,Yl,Ym,Yn,Yo,Yp,Yq,Yr,Ys,Yt,Yu,Yv,Yw,Yx,Yy,Yz,YA,YB,YC,YD,YE,YF,YG,YH,YI,YJ,YK,YL,YM,YN,YO,YQ,YR,YS,YT,YU,YV,YW,YX,YY,YZ,J0,J2,J3,J4,J5,J6,J7,J8,J9,Ja,startD,Jb,Jc,Jd,Je,Nat.reduceAdd,Nat.reduceSub,Jf,Jg,Jh,Ji,Jj,Jk,Jl,Jm,Jn,Jo,Jp,Jq,Jr,reduceIte,Js,Jt,Int.reduceLT,Int.reduceLE,Int.reduceAdd,Int.reduceSub,Int.reduceMul,Int.reduceNeg,Ju,Jv,Jw,Jx,Jy,Jz,JA,JB,JC,JD,JE,str_lit,String.reduceEq,JF,JG,JH,JI, tk, List.length_map]
              refine entry_ok b4 (by omega) (by omega) fun e S5 he b5 o5 => ?_
              simp only [U0,U1,U2,U3,U4,U5,U6,U7,U8,U9,Ua,Ub,Uc,Ud,Ue,Uf,Ug,Uh,Ui,Uj,Uk,Ul,Um,Uo,Up,Uq,Ur,Us,Ut,Uu,Uv,Uw,Ux,Uy,Uz,UA,UB,UC,UD,UE,UF,UG,UH,UI,UJ,UK,UL,UM,UN,UO,UP,UQ,UR,US,UT,UU,UV,UW,UX,Y5,Y6,Y7,Y8,Y9,Ya,Yb,Yc,Yd,Ye,Yf,Yg,Yh,Yi,Yj,Yk,Yl,Ym,Yn,Yo,Yp,Yq,Yr,Ys,Yt,Yu,Yv,Yw,Yx,Yy,Yz,YA,YB,YC,YD,YE,YF,YG,YH,YI,YJ,YK,YL,YM,YN,YO,YQ,YR,YS,YT,YU,YV,YW,YX,YY,YZ,J0,J2,J3,J4,J5,J6,J7,J8,J9,Ja,startD,Jb,Jc,Jd,Je,Nat.reduceAdd,Nat.reduceSub,Jf,Jg,Jh,Ji,Jj,Jk,Jl,Jm,Jn,Jo,Jp,Jq,Jr,reduceIte,Js,Jt,Int.reduceLT,Int.reduceLE,Int.reduceAdd,Int.reduceSub,Int.reduceMul,Int.reduceNeg,Ju,Jv,Jw,Jx,Jy,Jz,JA,JB,JC,JD,JE,str_lit,String.reduceEq,JF,JG,JH,JI, v_addT (x := (es.take tn).map entE) (y := [entE e]) (S := S5) (by rw [List.length_map]; simp; omega), dr tn, v_addT (x := (es.take tn).map entE ++ [entE e]) (y := (es.drop tn).map entE) (S := S5) (by simp; omega)]
              have := h ⟨g, es.take tn ++ [e] ++ es.drop tn⟩ S5 ⟨sj.g0, sj.g1, by show (es.take tn ++ [e] ++ es.drop tn).length ≤ B + 1; rw [List.length_append, List.length_append, lt, ld]; simp; omega, fun e' he' => ?_⟩ (.inr (o1.trans (o2.trans (o3.trans (o4.trans o5)))))
              · simpa [slpE, List.map_append] using this
              · rcases List.mem_append.mp he' with q | q
                · rcases List.mem_append.mp q with q | q
                  · exact mt e' q
                  · rw [List.mem_singleton] at q; subst q; exact he.mono hm
                · exact md _ e' q
end Ab

namespace Ab.K33
open PySem PySem.Spec PyProof.Rows L2 Ab
def top (i : Nat) : Stmt := PySem.Challenge.pw_stillweb_k33_slips_found.main.body.getD i (.Pass ⟨0, 0, 0, 0⟩)
def mth (i j : Nat) : Stmt := match top i with
  | .ClassDef _ _ _ b _ _ _ _ _ _ _ => b.getD j (.Pass ⟨0, 0, 0, 0⟩)
  | x => x
variable {g : Gd} {mg : Str → Option Value} {base : Heap}
theorem sc__law_box : FnScope ["_law_script", "_law_k", "_law_cell", "_law_seed"] ["_law_script", "_law_k"] (defScope (top 5)) := ⟨rfl, rfl, rfl, by decide +kernel, rfl, by decide +kernel, by decide +kernel⟩
theorem sc__law_take : FnScope ["_law_box_here", "_law_wide", "_law_digit", "_law_one"] ["_law_box_here", "_law_wide"] (defScope (top 6)) := ⟨rfl, rfl, rfl, by decide +kernel, rfl, by decide +kernel, by decide +kernel⟩
theorem sc__law_number : FnScope ["_law_box_here", "_law_form"] ["_law_box_here"] (defScope (top 7)) := ⟨rfl, rfl, rfl, by decide +kernel, rfl, by decide +kernel, by decide +kernel⟩
theorem sc__law_entry : FnScope ["_law_box_here", "_law_many", "_law_form"] ["_law_box_here", "_law_many"] (defScope (top 8)) := ⟨rfl, rfl, rfl, by decide +kernel, rfl, by decide +kernel, by decide +kernel⟩
theorem sc__law_slip : FnScope ["_law_box_here", "_law_many", "_law_k"] ["_law_box_here", "_law_many"] (defScope (top 9)) := ⟨rfl, rfl, rfl, by decide +kernel, rfl, by decide +kernel, by decide +kernel⟩
theorem sc__law_near : FnScope ["_law_box_here", "_law_slips", "_law_form", "_law_gate", "_law_entries", "_law_at"] ["_law_box_here", "_law_slips"] (defScope (top 10)) := ⟨rfl, rfl, rfl, by decide +kernel, rfl, by decide +kernel, by decide +kernel⟩
theorem sc_Book____init__ : FnScope ["self", "slips"] ["self", "slips"] (defScope (mth 2 0)) := ⟨rfl, rfl, rfl, by decide +kernel, rfl, by decide +kernel, by decide +kernel⟩
theorem sc_Book__number_for : FnScope ["self", "slip", "k", "there"] ["self", "slip"] (defScope (mth 2 1)) := ⟨rfl, rfl, rfl, by decide +kernel, rfl, by decide +kernel, by decide +kernel⟩
theorem sc_Book__all_slips : FnScope ["self"] ["self"] (defScope (mth 2 3)) := ⟨rfl, rfl, rfl, by decide +kernel, rfl, by decide +kernel, by decide +kernel⟩
theorem sc_slip_for : FnScope ["slips", "slip", "book", "k"] ["slips", "slip"] (defScope (top 3)) := ⟨rfl, rfl, rfl, by decide +kernel, rfl, by decide +kernel, by decide +kernel⟩
theorem sc_law : FnScope ["_law_script", "_law_box_here", "_law_slips", "_law_k", "_law_slip_here", "_law_due", "_law_found"] ["_law_script"] (defScope (top 11)) := ⟨rfl, rfl, rfl, by decide +kernel, rfl, by decide +kernel, by decide +kernel⟩
theorem j__law_box (S__law_box : Std g.K mg "_law_box" (top 5) ["_law_script", "_law_k"]) (B : BI mg) : DJ g mg base 1 "_law_box" ["_law_script", "_law_k"] d__law_box := by
  unfold d__law_box
  exact (dj_def (k := 0) S__law_box sc__law_box (hb := fun f cdv A outer s0 H E hr =>
    have nd := sc__law_box.nd
    (b_cons (s_l 2 nd (e_op (o_add) (e_op o_mul e_int (e_l 1)) e_int))
    (b_cons (s_if (t_cmp o_lt (e_l 1) (e_cb b_len B.len (a_cons (e_l 0) a_nil))) (b_one (s_l 2 nd (e_sub (hu_of hr) (e_l 0) (e_l 1)))) (b_one (s_if (t_cmp o_gt (e_cb b_len B.len (a_cons (e_l 0) a_nil)) e_int) (b_one (s_l 2 nd (e_op (o_add) (e_l 2) (e_op o_mul (e_op o_mod (e_sub (hu_of hr) (e_l 0) (e_op o_mod (e_l 1) (e_cb b_len B.len (a_cons (e_l 0) a_nil)))) e_int) e_int)))) b_nil)))
    (b_cons (s_l 3 nd (e_op (o_add) (e_op o_mod (e_op (o_add) (e_op o_mul (e_op o_mod (e_l 2) e_int) e_int) (e_op o_mul e_int (e_l 1))) e_int) e_int))
    (b_one (s_ret (e_lst (a_cons (e_sub (hu_of hr) (e_lst (a_cons e_int (a_cons (e_l 2) a_nil))) (e_ct b_int B.int_ (a_cons (e_cmp o_ge (e_l 2) (e_op o_pow e_int e_int)) a_nil))) (a_cons (e_l 3) a_nil))))))))))
theorem j__law_take (S__law_take : Std g.K mg "_law_take" (top 6) ["_law_box_here", "_law_wide"]) (B : BI mg) : DJ g mg base 1 "_law_take" ["_law_box_here", "_law_wide"] d__law_take := by
  unfold d__law_take
  exact (dj_def (k := 0) S__law_take sc__law_take (hb := fun f cdv A outer s0 H E hr =>
    have nd := sc__law_take.nd
    (b_cons (s_if (t_cmp o_gt (e_sub (hu_of hr) (e_l 0) e_int) e_int) (b_cons (s_l 2 nd (e_op o_mod (e_sub (hu_of hr) (e_l 0) e_int) (e_l 1)))
    (b_cons (s_asg (e_op o_fdiv (e_sub (hu_of hr) (e_l 0) e_int) (e_l 1)) (g_sub (hu_of hr) (e_l 0) e_int))
    (b_one (s_ret (e_l 2))))) b_nil)
    (b_cons (s_l 3 nd (e_op o_mod (e_op o_mul (e_sub (hu_of hr) (e_l 0) e_int) e_int) e_int))
    (b_cons (s_asg (e_op (o_add) (e_op o_mod (e_op (o_add) (e_op o_mul (e_l 3) e_int) e_int) e_int) e_int) (g_sub (hu_of hr) (e_l 0) e_int))
    (b_one (s_ret (e_op o_mod (e_op o_fdiv (e_op (o_add) (e_op o_mul (e_l 3) e_int) (e_sub (hu_of hr) (e_l 0) e_int)) e_int) (e_l 1)))))))))
theorem j__law_number (S__law_number : Std g.K mg "_law_number" (top 7) ["_law_box_here"]) (B : BI mg) (D__law_take : DJ g mg base 1 "_law_take" ["_law_box_here", "_law_wide"] d__law_take) : DJ g mg base 2 "_law_number" ["_law_box_here"] d__law_number := by
  unfold d__law_number
  exact (dj_def (k := 1) S__law_number sc__law_number (hb := fun f cdv A outer s0 H E hr =>
    have nd := sc__law_number.nd
    (b_cons (s_l 1 nd (e_call D__law_take hr (by omega) (a_cons (e_l 0) (a_cons e_int a_nil))))
    (b_cons (s_if (t_cmp (o_eq hr) (e_l 1) e_int) (b_one (s_ret (e_op o_sub (e_op o_sub (e_op o_pow e_int e_int) e_int) (e_call D__law_take hr (by omega) (a_cons (e_l 0) (a_cons e_int a_nil)))))) b_nil)
    (b_one (s_ret (e_call D__law_take hr (by omega) (a_cons (e_l 0) (a_cons (e_sub (hu_of hr) (e_lst (a_cons (e_op o_pow e_int e_int) (a_cons e_int (a_cons e_int a_nil)))) (e_op o_sub (e_l 1) e_int)) a_nil)))))))))
theorem j__law_entry (S__law_entry : Std g.K mg "_law_entry" (top 8) ["_law_box_here", "_law_many"]) (B : BI mg) (D__law_take : DJ g mg base 1 "_law_take" ["_law_box_here", "_law_wide"] d__law_take) (D__law_number : DJ g mg base 2 "_law_number" ["_law_box_here"] d__law_number) : DJ g mg base 3 "_law_entry" ["_law_box_here", "_law_many"] d__law_entry := by
  unfold d__law_entry
  exact (dj_def (k := 2) S__law_entry sc__law_entry (hb := fun f cdv A outer s0 H E hr =>
    have nd := sc__law_entry.nd
    (b_cons (s_l 2 nd (e_call D__law_take hr (by omega) (a_cons (e_l 0) (a_cons e_int a_nil))))
    (b_cons (s_if (t_cmp (o_eq hr) (e_l 2) e_int) (b_one (s_ret (e_tup (a_cons e_str (a_cons (e_call D__law_number hr (by omega) (a_cons (e_l 0) a_nil)) a_nil))))) b_nil)
    (b_cons (s_if (t_bop (w_or (t_cmp (o_eq hr) (e_l 2) e_int) (w_or1 (t_cmp (o_eq hr) (e_l 1) e_int)))) (b_one (s_ret (e_tup (a_cons e_str (a_cons (e_call D__law_number hr (by omega) (a_cons (e_l 0) a_nil)) a_nil))))) b_nil)
    (b_one (s_ret (e_tup (a_cons e_str (a_cons (e_call D__law_take hr (by omega) (a_cons (e_l 0) (a_cons (e_l 1) a_nil))) a_nil))))))))))
theorem j__law_slip (S__law_slip : Std g.K mg "_law_slip" (top 9) ["_law_box_here", "_law_many"]) (B : BI mg) (D__law_take : DJ g mg base 1 "_law_take" ["_law_box_here", "_law_wide"] d__law_take) (D__law_entry : DJ g mg base 3 "_law_entry" ["_law_box_here", "_law_many"] d__law_entry) : DJ g mg base 4 "_law_slip" ["_law_box_here", "_law_many"] d__law_slip := by
  unfold d__law_slip
  exact (dj_def (k := 3) S__law_slip sc__law_slip (hb := fun f cdv A outer s0 H E hr =>
    have nd := sc__law_slip.nd
    (b_one (s_ret (e_tup (a_cons (e_call D__law_take hr (by omega) (a_cons (e_c 0) (a_cons e_int a_nil))) (a_cons (e_ct b_tuple B.tuple (a_cons (e_lc [("_law_k", 2)] nd (i_rng1 B.range (a_cons (e_call D__law_take hr (by omega) (a_cons (e_c 0) (a_cons e_int a_nil))) a_nil)) (fun _ _ _ _ _ => (c_l 2 nd)) (fun _ _ _ _ _ => f_nil) (fun _ _ _ _ _ => (e_call D__law_entry hr (by omega) (a_cons (e_c 0) (a_cons (e_c 1) a_nil))))) a_nil)) a_nil)))))))
theorem j__law_near (S__law_near : Std g.K mg "_law_near" (top 10) ["_law_box_here", "_law_slips"]) (B : BI mg) (D__law_take : DJ g mg base 1 "_law_take" ["_law_box_here", "_law_wide"] d__law_take) (D__law_slip : DJ g mg base 4 "_law_slip" ["_law_box_here", "_law_many"] d__law_slip) (D__law_entry : DJ g mg base 3 "_law_entry" ["_law_box_here", "_law_many"] d__law_entry) : DJ g mg base 5 "_law_near" ["_law_box_here", "_law_slips"] d__law_near := by
  unfold d__law_near
  exact (dj_def (k := 4) S__law_near sc__law_near (hb := fun f cdv A outer s0 H E hr =>
    have nd := sc__law_near.nd
    (b_cons (s_l 2 nd (e_call D__law_take hr (by omega) (a_cons (e_l 0) (a_cons e_int a_nil))))
    (b_cons (s_if (t_bop (w_or (t_cmp (o_eq hr) (e_cb b_len B.len (a_cons (e_l 1) a_nil)) e_int) (w_or1 (t_cmp (o_eq hr) (e_l 2) e_int)))) (b_one (s_ret (e_call D__law_slip hr (by omega) (a_cons (e_l 0) (a_cons (e_cb b_len B.len (a_cons (e_l 1) a_nil)) a_nil))))) b_nil)
    (b_cons (s_asg (e_sub (hu_of hr) (e_l 1) (e_call D__law_take hr (by omega) (a_cons (e_l 0) (a_cons (e_cb b_len B.len (a_cons (e_l 1) a_nil)) a_nil)))) (g_tup (gs_cons (g_l 3 nd) (gs_cons (g_l 4 nd) gs_nil))))
    (b_cons (s_if (t_cmp o_lt (e_l 2) e_int) (b_one (s_ret (e_tup (a_cons (e_l 3) (a_cons (e_l 4) a_nil))))) b_nil)
    (b_cons (s_if (t_cmp (o_eq hr) (e_l 2) e_int) (b_one (s_ret (e_tup (a_cons (e_op o_mod (e_op (o_add) (e_op (o_add) (e_l 3) e_int) (e_call D__law_take hr (by omega) (a_cons (e_l 0) (a_cons e_int a_nil)))) e_int) (a_cons (e_l 4) a_nil))))) b_nil)
    (b_cons (s_l 5 nd (e_call D__law_take hr (by omega) (a_cons (e_l 0) (a_cons (e_op (o_add) (e_cb b_len B.len (a_cons (e_l 4) a_nil)) e_int) a_nil))))
    (b_cons (s_if (t_cmp (o_eq hr) (e_l 2) e_int) (b_one (s_ret (e_tup (a_cons (e_l 3) (a_cons (e_op (o_add) (e_op (o_add) (e_sl (e_l 4) o_none (o_some (e_l 5))) (e_tup (a_cons (e_call D__law_entry hr (by omega) (a_cons (e_l 0) (a_cons (e_cb b_len B.len (a_cons (e_l 1) a_nil)) a_nil))) a_nil))) (e_sl (e_l 4) (o_some (e_op (o_add) (e_l 5) e_int)) o_none)) a_nil))))) b_nil)
    (b_cons (s_if (t_cmp (o_eq hr) (e_call D__law_take hr (by omega) (a_cons (e_l 0) (a_cons e_int a_nil))) e_int) (b_one (s_ret (e_tup (a_cons (e_l 3) (a_cons (e_op (o_add) (e_sl (e_l 4) o_none (o_some (e_l 5))) (e_sl (e_l 4) (o_some (e_op (o_add) (e_l 5) e_int)) o_none)) a_nil))))) b_nil)
    (b_one (s_ret (e_tup (a_cons (e_l 3) (a_cons (e_op (o_add) (e_op (o_add) (e_sl (e_l 4) o_none (o_some (e_l 5))) (e_tup (a_cons (e_call D__law_entry hr (by omega) (a_cons (e_l 0) (a_cons (e_cb b_len B.len (a_cons (e_l 1) a_nil)) a_nil))) a_nil))) (e_sl (e_l 4) (o_some (e_l 5)) o_none)) a_nil)))))))))))))))
theorem j_Book____init__ {C_Book : Addr} {f_Book____init__ : Addr} {fd_Book____init__ : FuncData} (S_Book____init__ : Fun g.K "__init__" "Book.__init__" (mth 2 0) f_Book____init__ fd_Book____init__) (b_Book____init__ : Binds g.K fd_Book____init__ ["self", "slips"] []) (B : BI mg) (FA_Book_rows : FA g (Str.ofString "Book") (Str.ofString "rows") C_Book) (FA_Book_numbers : FA g (Str.ofString "Book") (Str.ofString "numbers") C_Book) : DM g mg base 1 f_Book____init__ ["self", "slips"] d_Book____init__ := by
  unfold d_Book____init__
  exact (dm_def (k := 0) S_Book____init__ b_Book____init__ sc_Book____init__ (hb := fun cdv A outer s0 H E hr =>
    have nd := sc_Book____init__.nd
    (b_cons (s_setF (Str.ofString "Book") FA_Book_rows (e_l 0) (e_ct b_list B.list_ (a_cons (e_l 1) a_nil)))
    (b_one (s_setF (Str.ofString "Book") FA_Book_numbers (e_l 0) e_non)))))
theorem j_Book__number_for {C_Book : Addr} {f_Book__number_for : Addr} {fd_Book__number_for : FuncData} (S_Book__number_for : Fun g.K "number_for" "Book.number_for" (mth 2 1) f_Book__number_for fd_Book__number_for) (b_Book__number_for : Binds g.K fd_Book__number_for ["self", "slip"] []) (B : BI mg) (FA_Book_numbers : FA g (Str.ofString "Book") (Str.ofString "numbers") C_Book) (FA_Book_rows : FA g (Str.ofString "Book") (Str.ofString "rows") C_Book) : DM g mg base 1 f_Book__number_for ["self", "slip"] d_Book__number_for := by
  unfold d_Book__number_for
  exact (dm_def (k := 0) S_Book__number_for b_Book__number_for sc_Book__number_for (hb := fun cdv A outer s0 H E hr =>
    have nd := sc_Book__number_for.nd
    (b_cons (s_if (t_cmp o_is (e_fld (Str.ofString "Book") FA_Book_numbers (e_l 0)) e_non) (b_cons (s_setF (Str.ofString "Book") FA_Book_numbers (e_l 0) e_dnewT)
    (b_one (s_for PassesOwn.never (i_enum2 B.enumerate (a_cons (e_fld (Str.ofString "Book") FA_Book_rows (e_l 0)) a_nil)) (g_tup (gs_cons (g_l 2 nd) (gs_cons (g_l 3 nd) gs_nil)))
    (b_one (s_expr (e_sdef hr (e_fld (Str.ofString "Book") FA_Book_numbers (e_l 0)) (a_cons (e_l 3) (a_cons (e_l 2) a_nil)))))))) b_nil)
    (b_cons (s_if (t_cmp (o_notInT hr) (e_l 1) (e_fld (Str.ofString "Book") FA_Book_numbers (e_l 0))) (b_cons (s_asg (e_cb b_len B.len (a_cons (e_fld (Str.ofString "Book") FA_Book_rows (e_l 0)) a_nil)) (g_subT hr (e_fld (Str.ofString "Book") FA_Book_numbers (e_l 0)) (e_l 1)))
    (b_one (s_expr (e_mt PySem.F.slot_list_append PySem.F.type_list_append m_append (e_fld (Str.ofString "Book") FA_Book_rows (e_l 0)) (a_cons (e_l 1) a_nil))))) b_nil)
    (b_one (s_ret (e_ixT hr (e_fld (Str.ofString "Book") FA_Book_numbers (e_l 0)) (e_l 1))))))))
theorem j_Book__all_slips {C_Book : Addr} {f_Book__all_slips : Addr} {fd_Book__all_slips : FuncData} (S_Book__all_slips : Fun g.K "all_slips" "Book.all_slips" (mth 2 3) f_Book__all_slips fd_Book__all_slips) (b_Book__all_slips : Binds g.K fd_Book__all_slips ["self"] []) (B : BI mg) (FA_Book_rows : FA g (Str.ofString "Book") (Str.ofString "rows") C_Book) : DM g mg base 1 f_Book__all_slips ["self"] d_Book__all_slips := by
  unfold d_Book__all_slips
  exact (dm_def (k := 0) S_Book__all_slips b_Book__all_slips sc_Book__all_slips (hb := fun cdv A outer s0 H E hr =>
    have nd := sc_Book__all_slips.nd
    (b_one (s_ret (e_ct b_tuple B.tuple (a_cons (e_fld (Str.ofString "Book") FA_Book_rows (e_l 0)) a_nil))))))
theorem j_slip_for {C_Book f_Book____init__ f_Book__number_for f_Book__all_slips : Addr} (S_slip_for : Std g.K mg "slip_for" (top 3) ["slips", "slip"]) (B : BI mg) (D_Book____init__ : DM g mg base 1 f_Book____init__ ["self", "slips"] d_Book____init__) (D_Book__number_for : DM g mg base 1 f_Book__number_for ["self", "slip"] d_Book__number_for) (D_Book__all_slips : DM g mg base 1 f_Book__all_slips ["self"] d_Book__all_slips) (MK_Book : MkA g (Str.ofString "Book") C_Book f_Book____init__) (mg_Book : mg "Book" = some (.ref C_Book)) (MA_Book_number_for : MA g (Str.ofString "Book") (Str.ofString "number_for") C_Book f_Book__number_for) (MA_Book_all_slips : MA g (Str.ofString "Book") (Str.ofString "all_slips") C_Book f_Book__all_slips) : DJ g mg base 3 "slip_for" ["slips", "slip"] d_slip_for := by
  unfold d_slip_for
  exact (dj_def (k := 2) S_slip_for sc_slip_for (hb := fun f cdv A outer s0 H E hr =>
    have nd := sc_slip_for.nd
    (b_cons (s_l 2 nd (e_makeI D_Book____init__ MK_Book mg_Book hr (by omega) (a_cons (e_l 0) a_nil)))
    (b_cons (s_l 3 nd (e_meth D_Book__number_for MA_Book_number_for hr (by omega) (e_l 2) (a_cons (e_l 1) a_nil)))
    (b_one (s_ret (e_tup (a_cons (e_l 3) (a_cons (e_meth0 D_Book__all_slips MA_Book_all_slips hr (by omega) (e_l 2)) a_nil)))))))))
theorem j_law (S_law : Std g.K mg "law" (top 11) ["_law_script"]) (B : BI mg) (D__law_box : DJ g mg base 1 "_law_box" ["_law_script", "_law_k"] d__law_box) (D__law_take : DJ g mg base 1 "_law_take" ["_law_box_here", "_law_wide"] d__law_take) (D__law_slip : DJ g mg base 4 "_law_slip" ["_law_box_here", "_law_many"] d__law_slip) (D__law_near : DJ g mg base 5 "_law_near" ["_law_box_here", "_law_slips"] d__law_near) (D_slip_for : DJ g mg base 3 "slip_for" ["slips", "slip"] d_slip_for) : DJ g mg base 6 "law" ["_law_script"] d_law := by
  unfold d_law
  exact (dj_def (k := 5) S_law sc_law (hb := fun f cdv A outer s0 H E hr =>
    have nd := sc_law.nd
    (b_cons (s_l 1 nd (e_call D__law_box hr (by omega) (a_cons (e_l 0) (a_cons e_int a_nil))))
    (b_cons (s_l 2 nd (e_tup a_nil))
    (b_cons (s_for PassesOwn.never (i_rng1 B.range (a_cons (e_call D__law_take hr (by omega) (a_cons (e_l 1) (a_cons e_int a_nil))) a_nil)) (g_l 3 nd)
    (b_cons (s_l 4 nd (e_call D__law_slip hr (by omega) (a_cons (e_l 1) (a_cons (e_cb b_len B.len (a_cons (e_l 2) a_nil)) a_nil))))
    (b_one (s_if (t_cmp (o_notIn2 hr) (e_l 4) (e_l 2)) (b_one (s_l 2 nd (e_op (o_add) (e_l 2) (e_tup (a_cons (e_l 4) a_nil))))) b_nil))))
    (b_cons (s_for PassesOwn.never (i_rng2 B.range (a_cons e_int (a_cons (e_op (o_add) e_int (e_cb b_len B.len (a_cons (e_sl (e_l 0) (o_some e_int) (o_some e_int)) a_nil))) a_nil))) (g_l 3 nd)
    (b_cons (s_l 4 nd (e_call D__law_near hr (by omega) (a_cons (e_call D__law_box hr (by omega) (a_cons (e_l 0) (a_cons (e_l 3) a_nil))) (a_cons (e_l 2) a_nil))))
    (b_cons (s_l 5 nd (e_tup (a_cons (e_cb b_len B.len (a_cons (e_l 2) a_nil)) (a_cons (e_op (o_add) (e_l 2) (e_tup (a_cons (e_l 4) a_nil))) a_nil))))
    (b_cons (s_if (t_cmp (o_in2 hr) (e_l 4) (e_l 2)) (b_one (s_l 5 nd (e_tup (a_cons (e_indexT hr (e_l 2) (a_cons (e_l 4) a_nil)) (a_cons (e_l 2) a_nil))))) b_nil)
    (b_cons (s_l 6 nd (e_call D_slip_for hr (by omega) (a_cons (e_l 2) (a_cons (e_l 4) a_nil))))
    (b_cons (s_if (t_bop (w_or (t_cmp (o_ne hr) (e_cb (b_repr hr) B.repr (a_cons (e_l 6) a_nil)) (e_cb (b_repr hr) B.repr (a_cons (e_l 5) a_nil))) (w_or1 (t_cmp (o_ne hr) (e_cb (b_repr hr) B.repr (a_cons (e_call D_slip_for hr (by omega) (a_cons (e_sub (hu_of hr) (e_l 5) e_int) (a_cons (e_l 4) a_nil))) a_nil)) (e_cb (b_repr hr) B.repr (a_cons (e_l 5) a_nil)))))) (b_one (s_ret e_bl)) b_nil)
    (b_one (s_l 2 nd (e_sub (hu_of hr) (e_l 5) e_int)))))))))
    (b_one (s_ret e_bl))))))))
end Ab.K33


namespace Ab
open PySem PySem.Spec PyProof.Rows L2 TL
theorem slp_mem {ss : List Slp} {s : Slp} : (slpE s ∈ ss.map slpE) = (s ∈ ss) := propext ⟨fun h => by
  obtain ⟨t, ht, e⟩ := List.mem_map.mp h
  rw [← slpE_inj e]; exact ht, fun h => List.mem_map.mpr ⟨s, h, rfl⟩⟩
theorem inS2 {S : Sto} {ss : List Slp} {s : Slp} : inB2 S (slpE s) (.tup (ss.map slpE)) = some (decide (s ∈ ss)) := by
  rw [in_tup (pyP_slp s) (Dk.keyOk_shp (key_slp s)).1 (by have := (Dk.keyOk_shp (key_slp s)).2; omega) rfl (fun k => by simp [slpE]) (pyPs_slp ss) (shps_slp ss)]
  congr 1
  by_cases h : s ∈ ss
  · rw [decide_eq_true h, decide_eq_true (by rw [slp_mem]; exact h)]
  · rw [decide_eq_false h, decide_eq_false (by rw [slp_mem]; exact h)]
theorem v_inS {S : Sto} {PD : D → Sto → Prop} {ss : List Slp} {s : Slp} : Ok (opIn2 (slpE s) (.tup (ss.map slpE)) S) PD = PD (.bl (decide (s ∈ ss))) S := by
  simp only [opIn2, inS2]; rfl
theorem v_notInS {S : Sto} {PD : D → Sto → Prop} {ss : List Slp} {s : Slp} : Ok (opNotIn2 (slpE s) (.tup (ss.map slpE)) S) PD = PD (.bl (!decide (s ∈ ss))) S := by
  simp only [opNotIn2, inS2]; rfl
theorem v_ixSlp {S : Sto} {PD : D → Sto → Prop} {ss : List Slp} {s : Slp} (h : s ∈ ss) : Ok (indexDt (.tup (ss.map slpE)) [slpE s] S) PD = PD (.int (ixS ss s : Nat)) S := by
  simp only [indexDt, pyP_slp, pyPs_slp, idxDt_map, if_pos h]
  rw [if_pos (by rw [(Dk.keyOk_shp (key_slp s)).1, shps_slp]; have := (Dk.keyOk_shp (key_slp s)).2; simp; omega)]
  rfl
theorem isT_tup {ds : List D} : isT (.tup ds) = true := rfl
theorem shw_slp {B : Nat} {m : Int} (hB : B ≤ 100) (hm : m ≤ 1000000000000000000) {s : Slp} (h : SlpOk B m s) : Shw (slpE s) 20000 3 := by
  have h1 : Shw (.tup (s.ents.map entE)) 4503 2 := (shw_tup (n := 43) (k := 1) (xs := s.ents.map entE) fun d hd => by
    obtain ⟨e, he, rfl⟩ := List.mem_map.mp hd
    exact shw_ent hm (h.ents e he)).imp (by rw [List.length_map]; have := h.len; omega) (Nat.le_refl _)
  exact (shw_tup (n := 4503) (k := 2) (xs := [.int s.gate, .tup (s.ents.map entE)]) fun d hd => by
    simp only [List.mem_cons, List.not_mem_nil, or_false] at hd
    rcases hd with rfl | rfl
    · exact (shw_int h.g0 (by have := h.g1; omega)).imp (by omega) (by omega)
    · exact h1).imp (by simp) (Nat.le_refl _)
theorem shw_res {B : Nat} {m : Int} (hB : B ≤ 100) (hm : m ≤ 1000000000000000000) {j : Nat} {ss : List Slp} (hj : j ≤ 1000) (hl : ss.length ≤ 100) (h : ∀ s ∈ ss, SlpOk B m s) : Shw (.tup [.int (j : Nat), .tup (ss.map slpE)]) 10000000 5 := by
  have h1 : Shw (.tup (ss.map slpE)) 2000203 4 := (shw_tup (n := 20000) (k := 3) (xs := ss.map slpE) fun d hd => by
    obtain ⟨e, he, rfl⟩ := List.mem_map.mp hd
    exact shw_slp hB hm (h e he)).imp (by rw [List.length_map]; omega) (Nat.le_refl _)
  exact (shw_tup (n := 2000203) (k := 4) (xs := [.int (j : Nat), .tup (ss.map slpE)]) fun d hd => by
    simp only [List.mem_cons, List.not_mem_nil, or_false] at hd
    rcases hd with rfl | rfl
    · exact (shw_int (by omega) (by omega)).imp (by omega) (by omega)
    · exact h1).imp (by simp) (Nat.le_refl _)
def I33 (ns : List Int) (b : Nat) (i : Nat) (env : Env) (S : Sto) : Prop := BoxA S b ∧ ∃ (ss : List Slp) (x3 x4 : Option D), env = [some (.lro (ns.map .int)), some (.ref b), some (.tup (ss.map slpE)), x3, x4, none, none] ∧ ss.length ≤ i ∧ i ≤ 31 ∧ ∀ s ∈ ss, SlpOk 4 1000 s
def J33 (ns : List Int) (i : Nat) (env : Env) (S : Sto) : Prop := ∃ (b : Nat) (ss : List Slp) (x3 x4 x5 x6 : Option D), env = [some (.lro (ns.map .int)), some (.ref b), some (.tup (ss.map slpE)), x3, x4, x5, x6] ∧ ss.length ≤ 31 + i ∧ i ≤ 9 ∧ ∀ s ∈ ss, SlpOk (4 + i) 1000 s
theorem law_true (ns : List Int) (hns : ns.length ≤ 63) : ∃ S, d_law [.lro (ns.map .int)] [] = .ok (.bl true) S := by
  have main : Ok (d_law [.lro (ns.map .int)] []) fun d _ => d = .bl true := by
    unfold d_law
    simp only [U0,U1,U2,U3,U4,U5,U6,U7,U8,U9,Ua,Ub,Uc,Ud,Ue,Uf,Ug,Uh,Ui,Uj,Uk,Ul,Um,Uo,Up,Uq,Ur,Us,Ut,Uu,Uv,Uw,Ux,Uy,Uz,UA,UB,UC,UD,UE,UF,UG,UH,UI,UJ,UK,UL,UM,UN,UO,UP,UQ,UR,US,UT,UU,UV,UW,UX,Y5,Y6,Y7,Y8,Y9,Ya,Yb,Yc,Yd,Ye,Yf,Yg,Yh,Yi,Yj,Yk,Yl,Ym,Yn,Yo,Yp,Yq,Yr,Ys,Yt,Yu,Yv,Yw,Yx,Yy,Yz,YA,YB,YC,YD,YE,YF,YG,YH,YI,YJ,YK,YL,YM,YN,YO,YQ,YR,YS,YT,YU,YV,YW,YX,YY,YZ,J0,J2,J3,J4,J5,J6,J7,J8,J9,Ja,startD,Jb,Jc,Jd,Je,Nat.reduceAdd,Nat.reduceSub,Jf,Jg,Jh,Ji,Jj,Jk,Jl,Jm,Jn,Jo,Jp,Jq,Jr,reduceIte,Js,Jt,Int.reduceLT,Int.reduceLE,Int.reduceAdd,Int.reduceSub,Int.reduceMul,Int.reduceNeg,Ju,Jv,Jw,Jx,Jy,Jz,JA,JB,JC,JD,JE,str_lit,String.reduceEq,JF,JG,JH,JI]
    refine box_ok (by decide) fun b S b1 _ _ => nxt ?_
    simp only [U0,U1,U2,U3,U4,U5,U6,U7,U8,U9,Ua,Ub,Uc,Ud,Ue,Uf,Ug,Uh,Ui,Uj,Uk,Ul,Um,Uo,Up,Uq,Ur,Us,Ut,Uu,Uv,Uw,Ux,Uy,Uz,UA,UB,UC,UD,UE,UF,UG,UH,UI,UJ,UK,UL,UM,UN,UO,UP,UQ,UR,US,UT,UU,UV,UW,UX,Y5,Y6,Y7,Y8,Y9,Ya,Yb,Yc,Yd,Ye,Yf,Yg,Yh,Yi,Yj,Yk,Yl,Ym,Yn,Yo,Yp,Yq,Yr,Ys,Yt,Yu,Yv,Yw,Yx,Yy,Yz,YA,YB,YC,YD,YE,YF,YG,YH,YI,YJ,YK,YL,YM,YN,YO,YQ,YR,YS,YT,YU,YV,YW,YX,YY,YZ,J0,J2,J3,J4,J5,J6,J7,J8,J9,Ja,startD,Jb,Jc,Jd,Je,Nat.reduceAdd,Nat.reduceSub,Jf,Jg,Jh,Ji,Jj,Jk,Jl,Jm,Jn,Jo,Jp,Jq,Jr,reduceIte,Js,Jt,Int.reduceLT,Int.reduceLE,Int.reduceAdd,Int.reduceSub,Int.reduceMul,Int.reduceNeg,Ju,Jv,Jw,Jx,Jy,Jz,JA,JB,JC,JD,JE,str_lit,String.reduceEq,JF,JG,JH,JI]
    refine nxt ?_
    simp only [U0,U1,U2,U3,U4,U5,U6,U7,U8,U9,Ua,Ub,Uc,Ud,Ue,Uf,Ug,Uh,Ui,Uj,Uk,Ul,Um,Uo,Up,Uq,Ur,Us,Ut,Uu,Uv,Uw,Ux,Uy,Uz,UA,UB,UC,UD,UE,UF,UG,UH,UI,UJ,UK,UL,UM,UN,UO,UP,UQ,UR,US,UT,UU,UV,UW,UX,Y5,Y6,Y7,Y8,Y9,Ya,Yb,Yc,Yd,Ye,Yf,Yg,Yh,Yi,Yj,Yk,Yl,Ym,Yn,Yo,Yp,Yq,Yr,Ys,Yt,Yu,Yv,Yw,Yx,Yy,Yz,YA,YB,YC,YD,YE,YF,YG,YH,YI,YJ,YK,YL,YM,YN,YO,YQ,YR,YS,YT,YU,YV,YW,YX,YY,YZ,J0,J2,J3,J4,J5,J6,J7,J8,J9,Ja,startD,Jb,Jc,Jd,Je,Nat.reduceAdd,Nat.reduceSub,Jf,Jg,Jh,Ji,Jj,Jk,Jl,Jm,Jn,Jo,Jp,Jq,Jr,reduceIte,Js,Jt,Int.reduceLT,Int.reduceLE,Int.reduceAdd,Int.reduceSub,Int.reduceMul,Int.reduceNeg,Ju,Jv,Jw,Jx,Jy,Jz,JA,JB,JC,JD,JE,str_lit,String.reduceEq,JF,JG,JH,JI]
    refine take_ok b1 (by decide) (by decide) fun n S1 n0 n1 b2 _ => ?_
    have hin : in62 n = true := in62_iff.mpr ⟨by omega, by omega⟩
    simp only [U0,U1,U2,U3,U4,U5,U6,U7,U8,U9,Ua,Ub,Uc,Ud,Ue,Uf,Ug,Uh,Ui,Uj,Uk,Ul,Um,Uo,Up,Uq,Ur,Us,Ut,Uu,Uv,Uw,Ux,Uy,Uz,UA,UB,UC,UD,UE,UF,UG,UH,UI,UJ,UK,UL,UM,UN,UO,UP,UQ,UR,US,UT,UU,UV,UW,UX,Y5,Y6,Y7,Y8,Y9,Ya,Yb,Yc,Yd,Ye,Yf,Yg,Yh,Yi,Yj,Yk,Yl,Ym,Yn,Yo,Yp,Yq,Yr,Ys,Yt,Yu,Yv,Yw,Yx,Yy,Yz,YA,YB,YC,YD,YE,YF,YG,YH,YI,YJ,YK,YL,YM,YN,YO,YQ,YR,YS,YT,YU,YV,YW,YX,YY,YZ,J0,J2,J3,J4,J5,J6,J7,J8,J9,Ja,startD,Jb,Jc,Jd,Je,Nat.reduceAdd,Nat.reduceSub,Jf,Jg,Jh,Ji,Jj,Jk,Jl,Jm,Jn,Jo,Jp,Jq,Jr,reduceIte,Js,Jt,Int.reduceLT,Int.reduceLE,Int.reduceAdd,Int.reduceSub,Int.reduceMul,Int.reduceNeg,Ju,Jv,Jw,Jx,Jy,Jz,JA,JB,JC,JD,JE,str_lit,String.reduceEq,JF,JG,JH,JI, hin]
    refine for_ok (I33 ns b) ⟨b2, [], none, none, rfl, Nat.le_refl _, by omega, by simp⟩ (fun _ _ _ _ => nokeep) ?_ ?_
    · rintro i x env S2 hx ⟨b3, ss, x3, x4, rfl, hl, hi, hs⟩
      obtain ⟨rfl, hi2⟩ := intsD_get hx
      simp only [U0,U1,U2,U3,U4,U5,U6,U7,U8,U9,Ua,Ub,Uc,Ud,Ue,Uf,Ug,Uh,Ui,Uj,Uk,Ul,Um,Uo,Up,Uq,Ur,Us,Ut,Uu,Uv,Uw,Ux,Uy,Uz,UA,UB,UC,UD,UE,UF,UG,UH,UI,UJ,UK,UL,UM,UN,UO,UP,UQ,UR,US,UT,UU,UV,UW,UX,Y5,Y6,Y7,Y8,Y9,Ya,Yb,Yc,Yd,Ye,Yf,Yg,Yh,Yi,Yj,Yk,Yl,Ym,Yn,Yo,Yp,Yq,Yr,Ys,Yt,Yu,Yv,Yw,Yx,Yy,Yz,YA,YB,YC,YD,YE,YF,YG,YH,YI,YJ,YK,YL,YM,YN,YO,YQ,YR,YS,YT,YU,YV,YW,YX,YY,YZ,J0,J2,J3,J4,J5,J6,J7,J8,J9,Ja,startD,Jb,Jc,Jd,Je,Nat.reduceAdd,Nat.reduceSub,Jf,Jg,Jh,Ji,Jj,Jk,Jl,Jm,Jn,Jo,Jp,Jq,Jr,reduceIte,Js,Jt,Int.reduceLT,Int.reduceLE,Int.reduceAdd,Int.reduceSub,Int.reduceMul,Int.reduceNeg,Ju,Jv,Jw,Jx,Jy,Jz,JA,JB,JC,JD,JE,str_lit,String.reduceEq,JF,JG,JH,JI, List.length_map]
      refine slip33_ok b3 (by omega) (by omega) fun s S3 hs3 b4 _ => nxt ?_
      simp only [U0,U1,U2,U3,U4,U5,U6,U7,U8,U9,Ua,Ub,Uc,Ud,Ue,Uf,Ug,Uh,Ui,Uj,Uk,Ul,Um,Uo,Up,Uq,Ur,Us,Ut,Uu,Uv,Uw,Ux,Uy,Uz,UA,UB,UC,UD,UE,UF,UG,UH,UI,UJ,UK,UL,UM,UN,UO,UP,UQ,UR,US,UT,UU,UV,UW,UX,Y5,Y6,Y7,Y8,Y9,Ya,Yb,Yc,Yd,Ye,Yf,Yg,Yh,Yi,Yj,Yk,Yl,Ym,Yn,Yo,Yp,Yq,Yr,Ys,Yt,Yu,Yv,Yw,Yx,Yy,Yz,YA,YB,YC,YD,YE,YF,YG,YH,YI,YJ,YK,YL,YM,YN,YO,YQ,YR,YS,YT,YU,YV,YW,YX,YY,YZ,J0,J2,J3,J4,J5,J6,J7,J8,J9,Ja,startD,Jb,Jc,Jd,Je,Nat.reduceAdd,Nat.reduceSub,Jf,Jg,Jh,Ji,Jj,Jk,Jl,Jm,Jn,Jo,Jp,Jq,Jr,reduceIte,Js,Jt,Int.reduceLT,Int.reduceLE,Int.reduceAdd,Int.reduceSub,Int.reduceMul,Int.reduceNeg,Ju,Jv,Jw,Jx,Jy,Jz,JA,JB,JC,JD,JE,str_lit,String.reduceEq,JF,JG,JH,JI, v_notInS]
      by_cases hm : s ∈ ss
      · simp only [U0,U1,U2,U3,U4,U5,U6,U7,U8,U9,Ua,Ub,Uc,Ud,Ue,Uf,Ug,Uh,Ui,Uj,Uk,Ul,Um,Uo,Up,Uq,Ur,Us,Ut,Uu,Uv,Uw,Ux,Uy,Uz,UA,UB,UC,UD,UE,UF,UG,UH,UI,UJ,UK,UL,UM,UN,UO,UP,UQ,UR,US,UT,UU,UV,UW,UX,Y5,Y6,Y7,Y8,Y9,Ya,Yb,Yc,Yd,Ye,Yf,Yg,Yh,Yi,Yj,Yk,Yl,Ym,Yn,Yo,Yp,Yq,Yr,Ys,Yt,Yu,Yv,Yw,Yx,Yy,Yz,YA,YB,YC,YD,YE,YF,YG,YH,YI,YJ,YK,YL,YM,YN,YO,YQ,YR,YS,YT,YU,YV,YW,YX,YY,YZ,J0,J2,J3,J4,J5,J6,J7,J8,J9,Ja,startD,Jb,Jc,Jd,Je,Nat.reduceAdd,Nat.reduceSub,Jf,Jg,Jh,Ji,Jj,Jk,Jl,Jm,Jn,Jo,Jp,Jq,Jr,reduceIte,Js,Jt,Int.reduceLT,Int.reduceLE,Int.reduceAdd,Int.reduceSub,Int.reduceMul,Int.reduceNeg,Ju,Jv,Jw,Jx,Jy,Jz,JA,JB,JC,JD,JE,str_lit,String.reduceEq,JF,JG,JH,JI, decide_eq_true hm]
        exact ⟨b4, ss, _, _, rfl, by omega, by omega, hs⟩
      · simp only [U0,U1,U2,U3,U4,U5,U6,U7,U8,U9,Ua,Ub,Uc,Ud,Ue,Uf,Ug,Uh,Ui,Uj,Uk,Ul,Um,Uo,Up,Uq,Ur,Us,Ut,Uu,Uv,Uw,Ux,Uy,Uz,UA,UB,UC,UD,UE,UF,UG,UH,UI,UJ,UK,UL,UM,UN,UO,UP,UQ,UR,US,UT,UU,UV,UW,UX,Y5,Y6,Y7,Y8,Y9,Ya,Yb,Yc,Yd,Ye,Yf,Yg,Yh,Yi,Yj,Yk,Yl,Ym,Yn,Yo,Yp,Yq,Yr,Ys,Yt,Yu,Yv,Yw,Yx,Yy,Yz,YA,YB,YC,YD,YE,YF,YG,YH,YI,YJ,YK,YL,YM,YN,YO,YQ,YR,YS,YT,YU,YV,YW,YX,YY,YZ,J0,J2,J3,J4,J5,J6,J7,J8,J9,Ja,startD,Jb,Jc,Jd,Je,Nat.reduceAdd,Nat.reduceSub,Jf,Jg,Jh,Ji,Jj,Jk,Jl,Jm,Jn,Jo,Jp,Jq,Jr,reduceIte,Js,Jt,Int.reduceLT,Int.reduceLE,Int.reduceAdd,Int.reduceSub,Int.reduceMul,Int.reduceNeg,Ju,Jv,Jw,Jx,Jy,Jz,JA,JB,JC,JD,JE,str_lit,String.reduceEq,JF,JG,JH,JI, decide_eq_false hm, v_addT (x := ss.map slpE) (y := [slpE s]) (S := S3) (by rw [List.length_map]; simp; omega)]
        refine ⟨b4, ss ++ [s], _, _, by rw [List.map_append]; rfl, by rw [List.length_append]; simp; omega, by omega, fun t ht => ?_⟩
        rcases List.mem_append.mp ht with q | q
        · exact hs t q
        · rw [List.mem_singleton] at q; subst q; exact hs3.mono (Nat.le_refl _) (by omega)
    · rintro env S2 ⟨b3, ss, x3, x4, rfl, hl, hi, hs⟩
      rw [intsD_len] at hl hi
      refine nxt ?_
      have hc : (cutD (ns.map D.int) (some 1) (some 9)).length ≤ 8 := by
        unfold cutD
        rw [List.length_take, show ((9 : Int)) = ((9 : Nat) : Int) from rfl, show ((1 : Int)) = ((1 : Nat) : Int) from rfl, HT.sIx_nat, HT.sIx_nat]
        omega
      have hin2 : in62 (2 + ((cutD (ns.map D.int) (some 1) (some 9)).length : Nat)) = true := in62_iff.mpr ⟨by omega, by omega⟩
      have hin1 : in62 1 = true := in62_iff.mpr ⟨by decide, by decide⟩
      simp only [U0,U1,U2,U3,U4,U5,U6,U7,U8,U9,Ua,Ub,Uc,Ud,Ue,Uf,Ug,Uh,Ui,Uj,Uk,Ul,Um,Uo,Up,Uq,Ur,Us,Ut,Uu,Uv,Uw,Ux,Uy,Uz,UA,UB,UC,UD,UE,UF,UG,UH,UI,UJ,UK,UL,UM,UN,UO,UP,UQ,UR,US,UT,UU,UV,UW,UX,Y5,Y6,Y7,Y8,Y9,Ya,Yb,Yc,Yd,Ye,Yf,Yg,Yh,Yi,Yj,Yk,Yl,Ym,Yn,Yo,Yp,Yq,Yr,Ys,Yt,Yu,Yv,Yw,Yx,Yy,Yz,YA,YB,YC,YD,YE,YF,YG,YH,YI,YJ,YK,YL,YM,YN,YO,YQ,YR,YS,YT,YU,YV,YW,YX,YY,YZ,J0,J2,J3,J4,J5,J6,J7,J8,J9,Ja,startD,Jb,Jc,Jd,Je,Nat.reduceAdd,Nat.reduceSub,Jf,Jg,Jh,Ji,Jj,Jk,Jl,Jm,Jn,Jo,Jp,Jq,Jr,reduceIte,Js,Jt,Int.reduceLT,Int.reduceLE,Int.reduceAdd,Int.reduceSub,Int.reduceMul,Int.reduceNeg,Ju,Jv,Jw,Jx,Jy,Jz,JA,JB,JC,JD,JE,str_lit,String.reduceEq,JF,JG,JH,JI, v_lenL get_last, hin1, hin2]
      refine for_ok (J33 ns) ⟨b, ss, x3, x4, none, none, rfl, by omega, by omega, fun s h => (hs s h).mono (by omega) (Int.le_refl _)⟩ (fun _ _ _ _ => nokeep) ?_ ?_
      · rintro i x env S3 hx ⟨b', ss, x3, x4, x5, x6, rfl, hl, hi, hs⟩
        obtain ⟨rfl, hi2⟩ := intsD_get hx
        simp only [U0,U1,U2,U3,U4,U5,U6,U7,U8,U9,Ua,Ub,Uc,Ud,Ue,Uf,Ug,Uh,Ui,Uj,Uk,Ul,Um,Uo,Up,Uq,Ur,Us,Ut,Uu,Uv,Uw,Ux,Uy,Uz,UA,UB,UC,UD,UE,UF,UG,UH,UI,UJ,UK,UL,UM,UN,UO,UP,UQ,UR,US,UT,UU,UV,UW,UX,Y5,Y6,Y7,Y8,Y9,Ya,Yb,Yc,Yd,Ye,Yf,Yg,Yh,Yi,Yj,Yk,Yl,Ym,Yn,Yo,Yp,Yq,Yr,Ys,Yt,Yu,Yv,Yw,Yx,Yy,Yz,YA,YB,YC,YD,YE,YF,YG,YH,YI,YJ,YK,YL,YM,YN,YO,YQ,YR,YS,YT,YU,YV,YW,YX,YY,YZ,J0,J2,J3,J4,J5,J6,J7,J8,J9,Ja,startD,Jb,Jc,Jd,Je,Nat.reduceAdd,Nat.reduceSub,Jf,Jg,Jh,Ji,Jj,Jk,Jl,Jm,Jn,Jo,Jp,Jq,Jr,reduceIte,Js,Jt,Int.reduceLT,Int.reduceLE,Int.reduceAdd,Int.reduceSub,Int.reduceMul,Int.reduceNeg,Ju,Jv,Jw,Jx,Jy,Jz,JA,JB,JC,JD,JE,str_lit,String.reduceEq,JF,JG,JH,JI]
        refine box_ok (by omega) fun b4 S4 c1 _ _ => ?_
        refine near33_ok (B := 4 + i) (m := 1000) c1 (by omega) (by omega) (by omega) (by omega) hs fun s S5 hs5 _ => nxt ?_
        simp only [U0,U1,U2,U3,U4,U5,U6,U7,U8,U9,Ua,Ub,Uc,Ud,Ue,Uf,Ug,Uh,Ui,Uj,Uk,Ul,Um,Uo,Up,Uq,Ur,Us,Ut,Uu,Uv,Uw,Ux,Uy,Uz,UA,UB,UC,UD,UE,UF,UG,UH,UI,UJ,UK,UL,UM,UN,UO,UP,UQ,UR,US,UT,UU,UV,UW,UX,Y5,Y6,Y7,Y8,Y9,Ya,Yb,Yc,Yd,Ye,Yf,Yg,Yh,Yi,Yj,Yk,Yl,Ym,Yn,Yo,Yp,Yq,Yr,Ys,Yt,Yu,Yv,Yw,Yx,Yy,Yz,YA,YB,YC,YD,YE,YF,YG,YH,YI,YJ,YK,YL,YM,YN,YO,YQ,YR,YS,YT,YU,YV,YW,YX,YY,YZ,J0,J2,J3,J4,J5,J6,J7,J8,J9,Ja,startD,Jb,Jc,Jd,Je,Nat.reduceAdd,Nat.reduceSub,Jf,Jg,Jh,Ji,Jj,Jk,Jl,Jm,Jn,Jo,Jp,Jq,Jr,reduceIte,Js,Jt,Int.reduceLT,Int.reduceLE,Int.reduceAdd,Int.reduceSub,Int.reduceMul,Int.reduceNeg,Ju,Jv,Jw,Jx,Jy,Jz,JA,JB,JC,JD,JE,str_lit,String.reduceEq,JF,JG,JH,JI, List.length_map, v_addT (x := ss.map slpE) (y := [slpE s]) (S := S5) (by rw [List.length_map]; simp; omega)]
        -- what is due
        have all : ∀ t ∈ nxS ss s, SlpOk (4 + (i + 1)) 1000 t := by
          intro t ht
          unfold nxS at ht
          split at ht
          · exact (hs t ht).mono (by omega) (Int.le_refl _)
          · rcases List.mem_append.mp ht with q | q
            · exact (hs t q).mono (by omega) (Int.le_refl _)
            · rw [List.mem_singleton] at q; subst q; exact hs5
        have len : (nxS ss s).length ≤ 31 + (i + 1) := by unfold nxS; split <;> (try rw [List.length_append, List.length_singleton]) <;> omega
        have ixl : ixS ss s ≤ 1000 := by
          have : ss.idxOf s ≤ ss.length := List.idxOf_le_length
          show ss.idxOf s ≤ 1000
          omega
        have tail : ∀ (S6 : Sto) (x6 : Option D), Nxt (cSeq (cAsg (cAp d_slip_for (cCons (cVar 2) (cCons (cVar 4) cNil))) (sName 6))
            (cSeq (cIfS (cOr (cTest (cOp opNe (cAp reprD (cCons (cVar 6) cNil)) (cAp reprD (cCons (cVar 5) cNil)))) (cTest (cOp opNe (cAp reprD (cCons (cAp d_slip_for (cCons (cOp ixD (cVar 5) (cC (.int 1))) (cCons (cVar 4) cNil))) cNil)) (cAp reprD (cCons (cVar 5) cNil))))) (cRet (cC (.bl false))) cPass)
            (cAsg (cOp ixD (cVar 5) (cC (.int 1))) (sName 2)))) (fun fl S => match fl with
              | .nx e => J33 ns (i + 1) e S
              | .ct e => J33 ns (i + 1) e S
              | .bk e => Aft (cRet (cC (.bl true))) (End fun d _ => d = .bl true) (.nx e) S
              | .rt d => Aft (cRet (cC (.bl true))) (End fun d _ => d = .bl true) (.rt d) S)
            [some (.lro (ns.map .int)), some (.ref b'), some (.tup (ss.map slpE)), some (.int (1 + i)), some (slpE s), some (.tup [.int (ixS ss s : Nat), .tup ((nxS ss s).map slpE)]), x6] S6 := by
          intro S6 x6
          refine nxt ?_
          simp only [U0,U1,U2,U3,U4,U5,U6,U7,U8,U9,Ua,Ub,Uc,Ud,Ue,Uf,Ug,Uh,Ui,Uj,Uk,Ul,Um,Uo,Up,Uq,Ur,Us,Ut,Uu,Uv,Uw,Ux,Uy,Uz,UA,UB,UC,UD,UE,UF,UG,UH,UI,UJ,UK,UL,UM,UN,UO,UP,UQ,UR,US,UT,UU,UV,UW,UX,Y5,Y6,Y7,Y8,Y9,Ya,Yb,Yc,Yd,Ye,Yf,Yg,Yh,Yi,Yj,Yk,Yl,Ym,Yn,Yo,Yp,Yq,Yr,Ys,Yt,Yu,Yv,Yw,Yx,Yy,Yz,YA,YB,YC,YD,YE,YF,YG,YH,YI,YJ,YK,YL,YM,YN,YO,YQ,YR,YS,YT,YU,YV,YW,YX,YY,YZ,J0,J2,J3,J4,J5,J6,J7,J8,J9,Ja,startD,Jb,Jc,Jd,Je,Nat.reduceAdd,Nat.reduceSub,Jf,Jg,Jh,Ji,Jj,Jk,Jl,Jm,Jn,Jo,Jp,Jq,Jr,reduceIte,Js,Jt,Int.reduceLT,Int.reduceLE,Int.reduceAdd,Int.reduceSub,Int.reduceMul,Int.reduceNeg,Ju,Jv,Jw,Jx,Jy,Jz,JA,JB,JC,JD,JE,str_lit,String.reduceEq,JF,JG,JH,JI]
          refine slipfor_ok (by omega) fun S7 _ => nxt ?_
          have sw := shw_res (B := 4 + (i + 1)) (m := 1000) (by omega) (by decide) ixl (by omega) all
          have rp : ∀ S PD, Ok (reprD [.tup [.int (ixS ss s : Nat), .tup ((nxS ss s).map slpE)]] S) PD = PD (.str (shownD (.tup [.int (ixS ss s : Nat), .tup ((nxS ss s).map slpE)]))) S := fun S PD => v_repr sw (by omega) (by omega)
          simp only [U0,U1,U2,U3,U4,U5,U6,U7,U8,U9,Ua,Ub,Uc,Ud,Ue,Uf,Ug,Uh,Ui,Uj,Uk,Ul,Um,Uo,Up,Uq,Ur,Us,Ut,Uu,Uv,Uw,Ux,Uy,Uz,UA,UB,UC,UD,UE,UF,UG,UH,UI,UJ,UK,UL,UM,UN,UO,UP,UQ,UR,US,UT,UU,UV,UW,UX,Y5,Y6,Y7,Y8,Y9,Ya,Yb,Yc,Yd,Ye,Yf,Yg,Yh,Yi,Yj,Yk,Yl,Ym,Yn,Yo,Yp,Yq,Yr,Ys,Yt,Yu,Yv,Yw,Yx,Yy,Yz,YA,YB,YC,YD,YE,YF,YG,YH,YI,YJ,YK,YL,YM,YN,YO,YQ,YR,YS,YT,YU,YV,YW,YX,YY,YZ,J0,J2,J3,J4,J5,J6,J7,J8,J9,Ja,startD,Jb,Jc,Jd,Je,Nat.reduceAdd,Nat.reduceSub,Jf,Jg,Jh,Ji,Jj,Jk,Jl,Jm,Jn,Jo,Jp,Jq,Jr,reduceIte,Js,Jt,Int.reduceLT,Int.reduceLE,Int.reduceAdd,Int.reduceSub,Int.reduceMul,Int.reduceNeg,Ju,Jv,Jw,Jx,Jy,Jz,JA,JB,JC,JD,JE,str_lit,String.reduceEq,JF,JG,JH,JI, rp]
          refine slipfor_ok (by omega) fun S8 _ => ?_
          have e1 : nxS (nxS ss s) s = nxS ss s := by show (if s ∈ nxS ss s then nxS ss s else nxS ss s ++ [s]) = nxS ss s; rw [if_pos nxS_mem]
          rw [ixS_nx, e1]
          simp only [U0,U1,U2,U3,U4,U5,U6,U7,U8,U9,Ua,Ub,Uc,Ud,Ue,Uf,Ug,Uh,Ui,Uj,Uk,Ul,Um,Uo,Up,Uq,Ur,Us,Ut,Uu,Uv,Uw,Ux,Uy,Uz,UA,UB,UC,UD,UE,UF,UG,UH,UI,UJ,UK,UL,UM,UN,UO,UP,UQ,UR,US,UT,UU,UV,UW,UX,Y5,Y6,Y7,Y8,Y9,Ya,Yb,Yc,Yd,Ye,Yf,Yg,Yh,Yi,Yj,Yk,Yl,Ym,Yn,Yo,Yp,Yq,Yr,Ys,Yt,Yu,Yv,Yw,Yx,Yy,Yz,YA,YB,YC,YD,YE,YF,YG,YH,YI,YJ,YK,YL,YM,YN,YO,YQ,YR,YS,YT,YU,YV,YW,YX,YY,YZ,J0,J2,J3,J4,J5,J6,J7,J8,J9,Ja,startD,Jb,Jc,Jd,Je,Nat.reduceAdd,Nat.reduceSub,Jf,Jg,Jh,Ji,Jj,Jk,Jl,Jm,Jn,Jo,Jp,Jq,Jr,reduceIte,Js,Jt,Int.reduceLT,Int.reduceLE,Int.reduceAdd,Int.reduceSub,Int.reduceMul,Int.reduceNeg,Ju,Jv,Jw,Jx,Jy,Jz,JA,JB,JC,JD,JE,str_lit,String.reduceEq,JF,JG,JH,JI, rp]
          refine nxt ?_
          simp only [U0,U1,U2,U3,U4,U5,U6,U7,U8,U9,Ua,Ub,Uc,Ud,Ue,Uf,Ug,Uh,Ui,Uj,Uk,Ul,Um,Uo,Up,Uq,Ur,Us,Ut,Uu,Uv,Uw,Ux,Uy,Uz,UA,UB,UC,UD,UE,UF,UG,UH,UI,UJ,UK,UL,UM,UN,UO,UP,UQ,UR,US,UT,UU,UV,UW,UX,Y5,Y6,Y7,Y8,Y9,Ya,Yb,Yc,Yd,Ye,Yf,Yg,Yh,Yi,Yj,Yk,Yl,Ym,Yn,Yo,Yp,Yq,Yr,Ys,Yt,Yu,Yv,Yw,Yx,Yy,Yz,YA,YB,YC,YD,YE,YF,YG,YH,YI,YJ,YK,YL,YM,YN,YO,YQ,YR,YS,YT,YU,YV,YW,YX,YY,YZ,J0,J2,J3,J4,J5,J6,J7,J8,J9,Ja,startD,Jb,Jc,Jd,Je,Nat.reduceAdd,Nat.reduceSub,Jf,Jg,Jh,Ji,Jj,Jk,Jl,Jm,Jn,Jo,Jp,Jq,Jr,reduceIte,Js,Jt,Int.reduceLT,Int.reduceLE,Int.reduceAdd,Int.reduceSub,Int.reduceMul,Int.reduceNeg,Ju,Jv,Jw,Jx,Jy,Jz,JA,JB,JC,JD,JE,str_lit,String.reduceEq,JF,JG,JH,JI]
          exact ⟨b', nxS ss s, _, _, _, _, rfl, by omega, by omega, all⟩
        refine nxt ?_
        simp only [U0,U1,U2,U3,U4,U5,U6,U7,U8,U9,Ua,Ub,Uc,Ud,Ue,Uf,Ug,Uh,Ui,Uj,Uk,Ul,Um,Uo,Up,Uq,Ur,Us,Ut,Uu,Uv,Uw,Ux,Uy,Uz,UA,UB,UC,UD,UE,UF,UG,UH,UI,UJ,UK,UL,UM,UN,UO,UP,UQ,UR,US,UT,UU,UV,UW,UX,Y5,Y6,Y7,Y8,Y9,Ya,Yb,Yc,Yd,Ye,Yf,Yg,Yh,Yi,Yj,Yk,Yl,Ym,Yn,Yo,Yp,Yq,Yr,Ys,Yt,Yu,Yv,Yw,Yx,Yy,Yz,YA,YB,YC,YD,YE,YF,YG,YH,YI,YJ,YK,YL,YM,YN,YO,YQ,YR,YS,YT,YU,YV,YW,YX,YY,YZ,J0,J2,J3,J4,J5,J6,J7,J8,J9,Ja,startD,Jb,Jc,Jd,Je,Nat.reduceAdd,Nat.reduceSub,Jf,Jg,Jh,Ji,Jj,Jk,Jl,Jm,Jn,Jo,Jp,Jq,Jr,reduceIte,Js,Jt,Int.reduceLT,Int.reduceLE,Int.reduceAdd,Int.reduceSub,Int.reduceMul,Int.reduceNeg,Ju,Jv,Jw,Jx,Jy,Jz,JA,JB,JC,JD,JE,str_lit,String.reduceEq,JF,JG,JH,JI, v_inS]
        by_cases hm : s ∈ ss
        · have e : nxS ss s = ss := by unfold nxS; rw [if_pos hm]
          rw [if_pos hm]
          simp only [U0,U1,U2,U3,U4,U5,U6,U7,U8,U9,Ua,Ub,Uc,Ud,Ue,Uf,Ug,Uh,Ui,Uj,Uk,Ul,Um,Uo,Up,Uq,Ur,Us,Ut,Uu,Uv,Uw,Ux,Uy,Uz,UA,UB,UC,UD,UE,UF,UG,UH,UI,UJ,UK,UL,UM,UN,UO,UP,UQ,UR,US,UT,UU,UV,UW,UX,Y5,Y6,Y7,Y8,Y9,Ya,Yb,Yc,Yd,Ye,Yf,Yg,Yh,Yi,Yj,Yk,Yl,Ym,Yn,Yo,Yp,Yq,Yr,Ys,Yt,Yu,Yv,Yw,Yx,Yy,Yz,YA,YB,YC,YD,YE,YF,YG,YH,YI,YJ,YK,YL,YM,YN,YO,YQ,YR,YS,YT,YU,YV,YW,YX,YY,YZ,J0,J2,J3,J4,J5,J6,J7,J8,J9,Ja,startD,Jb,Jc,Jd,Je,Nat.reduceAdd,Nat.reduceSub,Jf,Jg,Jh,Ji,Jj,Jk,Jl,Jm,Jn,Jo,Jp,Jq,Jr,reduceIte,Js,Jt,Int.reduceLT,Int.reduceLE,Int.reduceAdd,Int.reduceSub,Int.reduceMul,Int.reduceNeg,Ju,Jv,Jw,Jx,Jy,Jz,JA,JB,JC,JD,JE,str_lit,String.reduceEq,JF,JG,JH,JI, x_indexT, isT_tup, v_ixSlp hm]
          have := tail S5 x6
          rw [e] at this
          exact this
        · have e : nxS ss s = ss ++ [s] := by unfold nxS; rw [if_neg hm]
          rw [if_neg hm]
          have := tail S5 x6
          rw [e, ixS_new hm, List.map_append] at this
          exact this
      · rintro env S3 ⟨b', ss, x3, x4, x5, x6, rfl, _⟩
        exact nxt (by simp only [U0,U1,U2,U3,U4,U5,U6,U7,U8,U9,Ua,Ub,Uc,Ud,Ue,Uf,Ug,Uh,Ui,Uj,Uk,Ul,Um,Uo,Up,Uq,Ur,Us,Ut,Uu,Uv,Uw,Ux,Uy,Uz,UA,UB,UC,UD,UE,UF,UG,UH,UI,UJ,UK,UL,UM,UN,UO,UP,UQ,UR,US,UT,UU,UV,UW,UX,Y5,Y6,Y7,Y8,Y9,Ya,Yb,Yc,Yd,Ye,Yf,Yg,Yh,Yi,Yj,Yk,Yl,Ym,Yn,Yo,Yp,Yq,Yr,Ys,Yt,Yu,Yv,Yw,Yx,Yy,Yz,YA,YB,YC,YD,YE,YF,YG,YH,YI,YJ,YK,YL,YM,YN,YO,YQ,YR,YS,YT,YU,YV,YW,YX,YY,YZ,J0,J2,J3,J4,J5,J6,J7,J8,J9,Ja,startD,Jb,Jc,Jd,Je,Nat.reduceAdd,Nat.reduceSub,Jf,Jg,Jh,Ji,Jj,Jk,Jl,Jm,Jn,Jo,Jp,Jq,Jr,reduceIte,Js,Jt,Int.reduceLT,Int.reduceLE,Int.reduceAdd,Int.reduceSub,Int.reduceMul,Int.reduceNeg,Ju,Jv,Jw,Jx,Jy,Jz,JA,JB,JC,JD,JE,str_lit,String.reduceEq,JF,JG,JH,JI])
  obtain ⟨a, S, h, rfl⟩ := main.ex
  exact ⟨S, h⟩
end Ab

namespace Ab.K33
open PySem PySem.Spec PyProof.Rows L2 Ab
theorem all_mk {l : PySem.W.OpenLaw} {w : World} {K : PySem.W.Frag} {h : Heap} {mg : Str → Option Value} {fa : Addr} (X : K.In h) (G : h.Ns mainGlobals mg) (hfa : mg "law" = some (.ref fa))
    {C_Book : Addr} (a_Book : PySem.W.nsIn K mainGlobals "Book" = some (some (.ref C_Book))) (pg_Book : PySem.W.plainGet K C_Book Str.empty = true) (hd_Book : PySem.W.hasDictIn K C_Book = true) (po_Book : PySem.W.plainOver K C_Book = true) (sa_Book : PySem.W.findIn K (.ref C_Book) "__setattr__" = some (some (.builtin "object.__setattr__"))) (mk_Book : PySem.W.makesIn K C_Book = true) (kc_Book : PySem.W.keepIn K (.ref C_Book) = true)
    (no_Book_rows : PySem.W.findIn K (.ref C_Book) (Str.ofString "rows") = some none)
    (no_Book_numbers : PySem.W.findIn K (.ref C_Book) (Str.ofString "numbers") = some none)
    {f__law_box : Addr} {od__law_box an__law_box : Option Addr} {sl__law_box : Array (Option Value)} {oc__law_box kV__law_box dc__law_box pm__law_box cd__law_box ct__law_box : Value}
    (a__law_box : PySem.W.nsIn K mainGlobals "_law_box" = some (some (.ref f__law_box))) (l__law_box : K.lookup f__law_box = some ⟨oc__law_box, od__law_box, .func (PySem.W.fnOf "_law_box" "_law_box" (defArgs (top 5)) (defBody (top 5)) (defScope (top 5)) .none kV__law_box dc__law_box pm__law_box an__law_box cd__law_box ct__law_box), sl__law_box⟩) (c__law_box : PySem.W.codeIn K cd__law_box "_law_box" = true) (k__law_box : PySem.W.keepIn K (.ref f__law_box) = true)
    {f__law_take : Addr} {od__law_take an__law_take : Option Addr} {sl__law_take : Array (Option Value)} {oc__law_take kV__law_take dc__law_take pm__law_take cd__law_take ct__law_take : Value}
    (a__law_take : PySem.W.nsIn K mainGlobals "_law_take" = some (some (.ref f__law_take))) (l__law_take : K.lookup f__law_take = some ⟨oc__law_take, od__law_take, .func (PySem.W.fnOf "_law_take" "_law_take" (defArgs (top 6)) (defBody (top 6)) (defScope (top 6)) .none kV__law_take dc__law_take pm__law_take an__law_take cd__law_take ct__law_take), sl__law_take⟩) (c__law_take : PySem.W.codeIn K cd__law_take "_law_take" = true) (k__law_take : PySem.W.keepIn K (.ref f__law_take) = true)
    {f__law_number : Addr} {od__law_number an__law_number : Option Addr} {sl__law_number : Array (Option Value)} {oc__law_number kV__law_number dc__law_number pm__law_number cd__law_number ct__law_number : Value}
    (a__law_number : PySem.W.nsIn K mainGlobals "_law_number" = some (some (.ref f__law_number))) (l__law_number : K.lookup f__law_number = some ⟨oc__law_number, od__law_number, .func (PySem.W.fnOf "_law_number" "_law_number" (defArgs (top 7)) (defBody (top 7)) (defScope (top 7)) .none kV__law_number dc__law_number pm__law_number an__law_number cd__law_number ct__law_number), sl__law_number⟩) (c__law_number : PySem.W.codeIn K cd__law_number "_law_number" = true) (k__law_number : PySem.W.keepIn K (.ref f__law_number) = true)
    {f__law_entry : Addr} {od__law_entry an__law_entry : Option Addr} {sl__law_entry : Array (Option Value)} {oc__law_entry kV__law_entry dc__law_entry pm__law_entry cd__law_entry ct__law_entry : Value}
    (a__law_entry : PySem.W.nsIn K mainGlobals "_law_entry" = some (some (.ref f__law_entry))) (l__law_entry : K.lookup f__law_entry = some ⟨oc__law_entry, od__law_entry, .func (PySem.W.fnOf "_law_entry" "_law_entry" (defArgs (top 8)) (defBody (top 8)) (defScope (top 8)) .none kV__law_entry dc__law_entry pm__law_entry an__law_entry cd__law_entry ct__law_entry), sl__law_entry⟩) (c__law_entry : PySem.W.codeIn K cd__law_entry "_law_entry" = true) (k__law_entry : PySem.W.keepIn K (.ref f__law_entry) = true)
    {f__law_slip : Addr} {od__law_slip an__law_slip : Option Addr} {sl__law_slip : Array (Option Value)} {oc__law_slip kV__law_slip dc__law_slip pm__law_slip cd__law_slip ct__law_slip : Value}
    (a__law_slip : PySem.W.nsIn K mainGlobals "_law_slip" = some (some (.ref f__law_slip))) (l__law_slip : K.lookup f__law_slip = some ⟨oc__law_slip, od__law_slip, .func (PySem.W.fnOf "_law_slip" "_law_slip" (defArgs (top 9)) (defBody (top 9)) (defScope (top 9)) .none kV__law_slip dc__law_slip pm__law_slip an__law_slip cd__law_slip ct__law_slip), sl__law_slip⟩) (c__law_slip : PySem.W.codeIn K cd__law_slip "_law_slip" = true) (k__law_slip : PySem.W.keepIn K (.ref f__law_slip) = true)
    {f__law_near : Addr} {od__law_near an__law_near : Option Addr} {sl__law_near : Array (Option Value)} {oc__law_near kV__law_near dc__law_near pm__law_near cd__law_near ct__law_near : Value}
    (a__law_near : PySem.W.nsIn K mainGlobals "_law_near" = some (some (.ref f__law_near))) (l__law_near : K.lookup f__law_near = some ⟨oc__law_near, od__law_near, .func (PySem.W.fnOf "_law_near" "_law_near" (defArgs (top 10)) (defBody (top 10)) (defScope (top 10)) .none kV__law_near dc__law_near pm__law_near an__law_near cd__law_near ct__law_near), sl__law_near⟩) (c__law_near : PySem.W.codeIn K cd__law_near "_law_near" = true) (k__law_near : PySem.W.keepIn K (.ref f__law_near) = true)
    {f_Book____init__ : Addr} {od_Book____init__ an_Book____init__ : Option Addr} {sl_Book____init__ : Array (Option Value)} {oc_Book____init__ kV_Book____init__ dc_Book____init__ pm_Book____init__ cd_Book____init__ ct_Book____init__ : Value}
    (a_Book____init__ : PySem.W.findIn K (.ref C_Book) (Str.ofString "__init__") = some (some (.ref f_Book____init__))) (fn_Book____init__ : PySem.W.isFn K (.ref f_Book____init__) = true) (l_Book____init__ : K.lookup f_Book____init__ = some ⟨oc_Book____init__, od_Book____init__, .func (PySem.W.fnOf "__init__" "Book.__init__" (defArgs (mth 2 0)) (defBody (mth 2 0)) (defScope (mth 2 0)) .none kV_Book____init__ dc_Book____init__ pm_Book____init__ an_Book____init__ cd_Book____init__ ct_Book____init__), sl_Book____init__⟩) (c_Book____init__ : PySem.W.codeIn K cd_Book____init__ "Book.__init__" = true) (k_Book____init__ : PySem.W.keepIn K (.ref f_Book____init__) = true)
    {f_Book__number_for : Addr} {od_Book__number_for an_Book__number_for : Option Addr} {sl_Book__number_for : Array (Option Value)} {oc_Book__number_for kV_Book__number_for dc_Book__number_for pm_Book__number_for cd_Book__number_for ct_Book__number_for : Value}
    (a_Book__number_for : PySem.W.findIn K (.ref C_Book) (Str.ofString "number_for") = some (some (.ref f_Book__number_for))) (fn_Book__number_for : PySem.W.isFn K (.ref f_Book__number_for) = true) (l_Book__number_for : K.lookup f_Book__number_for = some ⟨oc_Book__number_for, od_Book__number_for, .func (PySem.W.fnOf "number_for" "Book.number_for" (defArgs (mth 2 1)) (defBody (mth 2 1)) (defScope (mth 2 1)) .none kV_Book__number_for dc_Book__number_for pm_Book__number_for an_Book__number_for cd_Book__number_for ct_Book__number_for), sl_Book__number_for⟩) (c_Book__number_for : PySem.W.codeIn K cd_Book__number_for "Book.number_for" = true) (k_Book__number_for : PySem.W.keepIn K (.ref f_Book__number_for) = true)
    {f_Book__all_slips : Addr} {od_Book__all_slips an_Book__all_slips : Option Addr} {sl_Book__all_slips : Array (Option Value)} {oc_Book__all_slips kV_Book__all_slips dc_Book__all_slips pm_Book__all_slips cd_Book__all_slips ct_Book__all_slips : Value}
    (a_Book__all_slips : PySem.W.findIn K (.ref C_Book) (Str.ofString "all_slips") = some (some (.ref f_Book__all_slips))) (fn_Book__all_slips : PySem.W.isFn K (.ref f_Book__all_slips) = true) (l_Book__all_slips : K.lookup f_Book__all_slips = some ⟨oc_Book__all_slips, od_Book__all_slips, .func (PySem.W.fnOf "all_slips" "Book.all_slips" (defArgs (mth 2 3)) (defBody (mth 2 3)) (defScope (mth 2 3)) .none kV_Book__all_slips dc_Book__all_slips pm_Book__all_slips an_Book__all_slips cd_Book__all_slips ct_Book__all_slips), sl_Book__all_slips⟩) (c_Book__all_slips : PySem.W.codeIn K cd_Book__all_slips "Book.all_slips" = true) (k_Book__all_slips : PySem.W.keepIn K (.ref f_Book__all_slips) = true)
    {f_slip_for : Addr} {od_slip_for an_slip_for : Option Addr} {sl_slip_for : Array (Option Value)} {oc_slip_for kV_slip_for dc_slip_for pm_slip_for cd_slip_for ct_slip_for : Value}
    (a_slip_for : PySem.W.nsIn K mainGlobals "slip_for" = some (some (.ref f_slip_for))) (l_slip_for : K.lookup f_slip_for = some ⟨oc_slip_for, od_slip_for, .func (PySem.W.fnOf "slip_for" "slip_for" (defArgs (top 3)) (defBody (top 3)) (defScope (top 3)) .none kV_slip_for dc_slip_for pm_slip_for an_slip_for cd_slip_for ct_slip_for), sl_slip_for⟩) (c_slip_for : PySem.W.codeIn K cd_slip_for "slip_for" = true) (k_slip_for : PySem.W.keepIn K (.ref f_slip_for) = true)
    {f_law : Addr} {od_law an_law : Option Addr} {sl_law : Array (Option Value)} {oc_law kV_law dc_law pm_law cd_law ct_law : Value}
    (a_law : PySem.W.nsIn K mainGlobals "law" = some (some (.ref f_law))) (l_law : K.lookup f_law = some ⟨oc_law, od_law, .func (PySem.W.fnOf "law" "law" (defArgs (top 11)) (defBody (top 11)) (defScope (top 11)) .none kV_law dc_law pm_law an_law cd_law ct_law), sl_law⟩) (c_law : PySem.W.codeIn K cd_law "law" = true) (k_law : PySem.W.keepIn K (.ref f_law) = true)
    (z_len : PySem.W.nsIn K mainGlobals "len" = some none)
    (z_range : PySem.W.nsIn K mainGlobals "range" = some none)
    (z_max : PySem.W.nsIn K mainGlobals "max" = some none)
    (z_min : PySem.W.nsIn K mainGlobals "min" = some none)
    (z_isinstance : PySem.W.nsIn K mainGlobals "isinstance" = some none)
    (z_sum : PySem.W.nsIn K mainGlobals "sum" = some none)
    (z_zip : PySem.W.nsIn K mainGlobals "zip" = some none)
    (z_int : PySem.W.nsIn K mainGlobals "int" = some none)
    (z_list : PySem.W.nsIn K mainGlobals "list" = some none)
    (z_str : PySem.W.nsIn K mainGlobals "str" = some none)
    (z_bool : PySem.W.nsIn K mainGlobals "bool" = some none)
    (z_tuple : PySem.W.nsIn K mainGlobals "tuple" = some none)
    (z_sorted : PySem.W.nsIn K mainGlobals "sorted" = some none)
    (z_all : PySem.W.nsIn K mainGlobals "all" = some none)
    (z_any : PySem.W.nsIn K mainGlobals "any" = some none)
    (z_enumerate : PySem.W.nsIn K mainGlobals "enumerate" = some none)
    (z_set : PySem.W.nsIn K mainGlobals "set" = some none)
    (z_dict : PySem.W.nsIn K mainGlobals "dict" = some none)
    (z_repr : PySem.W.nsIn K mainGlobals "repr" = some none)
    (z_super : PySem.W.nsIn K mainGlobals "super" = some none)
    (z_ValueError : PySem.W.nsIn K mainGlobals "ValueError" = some none) :
    ∃ fd : FuncData, (∀ (s : Shared) (v : Value), BindsTo s fd ⟨[v], []⟩ [("_law_script", v)]) ∧ ∀ base : Heap, K.In base → base.Ns mainGlobals mg → FnOk l.prog w K mg base CX0 6 fa fd ["_law_script"] (spLaw K) := by
  have S__law_box : Std K mg "_law_box" (top 5) ["_law_script", "_law_k"] := std_mk X G a__law_box l__law_box c__law_box k__law_box (fun _ _ _ _ _ _ us hl => match us, hl with | [_, _], _ => rfl)
  have S__law_take : Std K mg "_law_take" (top 6) ["_law_box_here", "_law_wide"] := std_mk X G a__law_take l__law_take c__law_take k__law_take (fun _ _ _ _ _ _ us hl => match us, hl with | [_, _], _ => rfl)
  have S__law_number : Std K mg "_law_number" (top 7) ["_law_box_here"] := std_mk X G a__law_number l__law_number c__law_number k__law_number (fun _ _ _ _ _ _ us hl => match us, hl with | [_], _ => rfl)
  have S__law_entry : Std K mg "_law_entry" (top 8) ["_law_box_here", "_law_many"] := std_mk X G a__law_entry l__law_entry c__law_entry k__law_entry (fun _ _ _ _ _ _ us hl => match us, hl with | [_, _], _ => rfl)
  have S__law_slip : Std K mg "_law_slip" (top 9) ["_law_box_here", "_law_many"] := std_mk X G a__law_slip l__law_slip c__law_slip k__law_slip (fun _ _ _ _ _ _ us hl => match us, hl with | [_, _], _ => rfl)
  have S__law_near : Std K mg "_law_near" (top 10) ["_law_box_here", "_law_slips"] := std_mk X G a__law_near l__law_near c__law_near k__law_near (fun _ _ _ _ _ _ us hl => match us, hl with | [_, _], _ => rfl)
  have S_Book____init__ : Fun K "__init__" "Book.__init__" (mth 2 0) f_Book____init__ _ := ⟨⟨_, _, _, _, _, _, _, _, _, rfl, l_Book____init__, c_Book____init__⟩, k_Book____init__⟩
  have b_Book____init__ : Binds K _ ["self", "slips"] [] := S_Book____init__.binds (fun _ _ _ _ _ _ us hl => match us, hl with | [_, _], _ => rfl)
  have S_Book__number_for : Fun K "number_for" "Book.number_for" (mth 2 1) f_Book__number_for _ := ⟨⟨_, _, _, _, _, _, _, _, _, rfl, l_Book__number_for, c_Book__number_for⟩, k_Book__number_for⟩
  have b_Book__number_for : Binds K _ ["self", "slip"] [] := S_Book__number_for.binds (fun _ _ _ _ _ _ us hl => match us, hl with | [_, _], _ => rfl)
  have S_Book__all_slips : Fun K "all_slips" "Book.all_slips" (mth 2 3) f_Book__all_slips _ := ⟨⟨_, _, _, _, _, _, _, _, _, rfl, l_Book__all_slips, c_Book__all_slips⟩, k_Book__all_slips⟩
  have b_Book__all_slips : Binds K _ ["self"] [] := S_Book__all_slips.binds (fun _ _ _ _ _ _ us hl => match us, hl with | [_], _ => rfl)
  have S_slip_for : Std K mg "slip_for" (top 3) ["slips", "slip"] := std_mk X G a_slip_for l_slip_for c_slip_for k_slip_for (fun _ _ _ _ _ _ us hl => match us, hl with | [_, _], _ => rfl)
  have S_law : Std K mg "law" (top 11) ["_law_script"] := std_mk X G a_law l_law c_law k_law (fun _ _ _ _ _ _ us hl => match us, hl with | [_], _ => rfl)
  have B : BI mg := ⟨PySem.W.mg_none_of X G z_len, PySem.W.mg_none_of X G z_range, PySem.W.mg_none_of X G z_max, PySem.W.mg_none_of X G z_min, PySem.W.mg_none_of X G z_isinstance, PySem.W.mg_none_of X G z_sum, PySem.W.mg_none_of X G z_zip, PySem.W.mg_none_of X G z_int, PySem.W.mg_none_of X G z_list, PySem.W.mg_none_of X G z_str, PySem.W.mg_none_of X G z_bool, PySem.W.mg_none_of X G z_tuple, PySem.W.mg_none_of X G z_sorted, PySem.W.mg_none_of X G z_all, PySem.W.mg_none_of X G z_any, PySem.W.mg_none_of X G z_enumerate, PySem.W.mg_none_of X G z_set, PySem.W.mg_none_of X G z_dict, PySem.W.mg_none_of X G z_repr, PySem.W.mg_none_of X G z_super, PySem.W.mg_none_of X G z_ValueError⟩
  refine law_mk X G hfa a_law l_law (fun s v => .of_eq rfl) (fun base kb nb => ?_)
  let g : Gd := ⟨l.prog, w, K, fun _ => none, []⟩
  have CL_Book : Cls g.K C_Book := ⟨pg_Book, hd_Book, po_Book, sa_Book⟩
  have mg_Book : mg "Book" = some (.ref C_Book) := PySem.W.mg_of X G a_Book
  have FA_Book_rows : FA g (Str.ofString "Book") (Str.ofString "rows") C_Book := ⟨a_Book, CL_Book, no_Book_rows⟩
  have FA_Book_numbers : FA g (Str.ofString "Book") (Str.ofString "numbers") C_Book := ⟨a_Book, CL_Book, no_Book_numbers⟩
  have MK_Book : MkA g (Str.ofString "Book") C_Book f_Book____init__ := ⟨a_Book, ⟨mk_Book, a_Book____init__, fn_Book____init__, kc_Book⟩⟩
  have MA_Book_number_for : MA g (Str.ofString "Book") (Str.ofString "number_for") C_Book f_Book__number_for := ⟨a_Book, CL_Book, ⟨a_Book__number_for, fn_Book__number_for, k_Book__number_for⟩⟩
  have MA_Book_all_slips : MA g (Str.ofString "Book") (Str.ofString "all_slips") C_Book f_Book__all_slips := ⟨a_Book, CL_Book, ⟨a_Book__all_slips, fn_Book__all_slips, k_Book__all_slips⟩⟩
  have D__law_box := j__law_box (g := g) (base := base) S__law_box B
  have D__law_take := j__law_take (g := g) (base := base) S__law_take B
  have D__law_number := j__law_number (g := g) (base := base) S__law_number B D__law_take
  have D__law_entry := j__law_entry (g := g) (base := base) S__law_entry B D__law_take D__law_number
  have D__law_slip := j__law_slip (g := g) (base := base) S__law_slip B D__law_take D__law_entry
  have D__law_near := j__law_near (g := g) (base := base) S__law_near B D__law_take D__law_slip D__law_entry
  have D_Book____init__ := j_Book____init__ (g := g) (base := base) S_Book____init__ b_Book____init__ B FA_Book_rows FA_Book_numbers
  have D_Book__number_for := j_Book__number_for (g := g) (base := base) S_Book__number_for b_Book__number_for B FA_Book_numbers FA_Book_rows
  have D_Book__all_slips := j_Book__all_slips (g := g) (base := base) S_Book__all_slips b_Book__all_slips B FA_Book_rows
  have D_slip_for := j_slip_for (g := g) (base := base) S_slip_for B D_Book____init__ D_Book__number_for D_Book__all_slips MK_Book mg_Book MA_Book_number_for MA_Book_all_slips
  have D_law := j_law (g := g) (base := base) S_law B D__law_box D__law_take D__law_slip D__law_near D_slip_for
  exact dj_law D_law rfl law_true
theorem walk {l : PySem.W.OpenLaw} {q : Program} {loose : List Str} {XP : (Str → Option Value) → Heap → Prop} {YP : World → Heap → Prop} {d : DefRec} {K : Params → PySem.W.Frag} (hn : l.most = some 63) (hdf : d.params.defaults = [])
    (hY : ∀ (w : World) (h : Heap), YP w h → (K w.params).In h)
    (F : ∀ (w : World) (mg : Str → Option Value) (fa : Addr) (h : Heap), (K w.params).In h → h.Ns mainGlobals mg → mg d.name = some (.ref fa) →
      ∃ fd : FuncData, (∀ (s : Shared) (u : Value), BindsTo s fd ⟨[u], []⟩ [("_law_script", u)]) ∧ ∀ base : Heap, (K w.params).In base → base.Ns mainGlobals mg → FnOk l.prog w (K w.params) mg base CX0 6 fa fd ["_law_script"] (spLaw (K w.params))) :
    PySem.W.WalkO q loose XP YP l.row.toRowW d [] (fun f vs => PySem.call f vs) :=
  L2.walk_of (n := 63) (k := 6) (x := "_law_script") (CX := fun _ => CX0) (sp := fun w => spLaw (K w.params)) hn (by decide) hdf ⟨rfl, by decide, by decide, rfl⟩ hY F (fun _ _ a ns hl _ hS => ⟨a, ns, rfl, hS, hl, fun _ => rfl⟩) fun _ _ _ _ _ z => z
end Ab.K33
open PySem PySem.W PyProof.Rows
set_option maxRecDepth 100000 in
set_option maxHeartbeats 0 in
theorem PySem.Challenge.cw_stillweb_k33_slips_found_holds : PySem.Challenge.rw_stillweb_k33_slips_found.Holds := by
  w_on; o_law; k_head; (case hw => w_witness2)
  k_fill
  refine Ab.K33.walk (l := PySem.Challenge.rw_stillweb_k33_slips_found) rfl rfl (fun w h Y => PySem.W.kIn_of Y) ?F
  case F =>
    intro w mg fa h KX G hmg
    refine' Ab.K33.all_mk KX G hmg ?a_Book ?pg_Book ?hd_Book ?po_Book ?sa_Book ?mk_Book ?kc_Book ?no_Book_rows ?no_Book_numbers ?a__law_box ?l__law_box ?c__law_box ?k__law_box ?a__law_take ?l__law_take ?c__law_take ?k__law_take ?a__law_number ?l__law_number ?c__law_number ?k__law_number ?a__law_entry ?l__law_entry ?c__law_entry ?k__law_entry ?a__law_slip ?l__law_slip ?c__law_slip ?k__law_slip ?a__law_near ?l__law_near ?c__law_near ?k__law_near ?a_Book____init__ ?fn_Book____init__ ?l_Book____init__ ?c_Book____init__ ?k_Book____init__ ?a_Book__number_for ?fn_Book__number_for ?l_Book__number_for ?c_Book__number_for ?k_Book__number_for ?a_Book__all_slips ?fn_Book__all_slips ?l_Book__all_slips ?c_Book__all_slips ?k_Book__all_slips ?a_slip_for ?l_slip_for ?c_slip_for ?k_slip_for ?a_law ?l_law ?c_law ?k_law ?z_len ?z_range ?z_max ?z_min ?z_isinstance ?z_sum ?z_zip ?z_int ?z_list ?z_str ?z_bool ?z_tuple ?z_sorted ?z_all ?z_any ?z_enumerate ?z_set ?z_dict ?z_repr ?z_super ?z_ValueError
    (case a_Book => first | k_is | kernel_rfl | rfl | decide +kernel)
    (case pg_Book => first | k_is | kernel_rfl | rfl | decide +kernel)
    (case hd_Book => first | k_is | kernel_rfl | rfl | decide +kernel)
    (case po_Book => first | k_is | kernel_rfl | rfl | decide +kernel)
    (case sa_Book => first | k_is | kernel_rfl | rfl | decide +kernel)
    (case mk_Book => first | k_is | kernel_rfl | rfl | decide +kernel)
    (case kc_Book => first | k_is | kernel_rfl | rfl | decide +kernel)
    (case no_Book_rows => first | k_is | kernel_rfl | rfl | decide +kernel)
    (case no_Book_numbers => first | k_is | kernel_rfl | rfl | decide +kernel)
    (case a__law_box => k_is)
    (case l__law_box => k_is)
    (case c__law_box => k_is)
    (case k__law_box => k_is)
    (case a__law_take => k_is)
    (case l__law_take => k_is)
    (case c__law_take => k_is)
    (case k__law_take => k_is)
    (case a__law_number => k_is)
    (case l__law_number => k_is)
    (case c__law_number => k_is)
    (case k__law_number => k_is)
    (case a__law_entry => k_is)
    (case l__law_entry => k_is)
    (case c__law_entry => k_is)
    (case k__law_entry => k_is)
    (case a__law_slip => k_is)
    (case l__law_slip => k_is)
    (case c__law_slip => k_is)
    (case k__law_slip => k_is)
    (case a__law_near => k_is)
    (case l__law_near => k_is)
    (case c__law_near => k_is)
    (case k__law_near => k_is)
    (case a_Book____init__ => first | k_is | kernel_rfl | rfl | decide +kernel)
    (case fn_Book____init__ => first | k_is | kernel_rfl | rfl | decide +kernel)
    (case l_Book____init__ => first | k_is | kernel_rfl | rfl | decide +kernel)
    (case c_Book____init__ => first | k_is | kernel_rfl | rfl | decide +kernel)
    (case k_Book____init__ => first | k_is | kernel_rfl | rfl | decide +kernel)
    (case a_Book__number_for => first | k_is | kernel_rfl | rfl | decide +kernel)
    (case fn_Book__number_for => first | k_is | kernel_rfl | rfl | decide +kernel)
    (case l_Book__number_for => first | k_is | kernel_rfl | rfl | decide +kernel)
    (case c_Book__number_for => first | k_is | kernel_rfl | rfl | decide +kernel)
    (case k_Book__number_for => first | k_is | kernel_rfl | rfl | decide +kernel)
    (case a_Book__all_slips => first | k_is | kernel_rfl | rfl | decide +kernel)
    (case fn_Book__all_slips => first | k_is | kernel_rfl | rfl | decide +kernel)
    (case l_Book__all_slips => first | k_is | kernel_rfl | rfl | decide +kernel)
    (case c_Book__all_slips => first | k_is | kernel_rfl | rfl | decide +kernel)
    (case k_Book__all_slips => first | k_is | kernel_rfl | rfl | decide +kernel)
    (case a_slip_for => k_is)
    (case l_slip_for => k_is)
    (case c_slip_for => k_is)
    (case k_slip_for => k_is)
    (case a_law => k_is)
    (case l_law => k_is)
    (case c_law => k_is)
    (case k_law => k_is)
    (case z_len => k_is)
    (case z_range => k_is)
    (case z_max => k_is)
    (case z_min => k_is)
    (case z_isinstance => k_is)
    (case z_sum => k_is)
    (case z_zip => k_is)
    (case z_int => k_is)
    (case z_list => k_is)
    (case z_str => k_is)
    (case z_bool => k_is)
    (case z_tuple => k_is)
    (case z_sorted => k_is)
    (case z_all => k_is)
    (case z_any => k_is)
    (case z_enumerate => k_is)
    (case z_set => k_is)
    (case z_dict => k_is)
    (case z_repr => k_is)
    (case z_super => k_is)
    (case z_ValueError => k_is)
