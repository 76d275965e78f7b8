import PyProof.Rows.All
import Wide.All
import OpenK.AllK
import Wide.FinOn
import Lean
import PyProof.EqAt
import PyProof.EqKinds
import PyProof.TupleCall
import KE.KRevIter
import PyProof.ListNew
import PyProof.Draws
import PyProof.EnumMake
import PyProof.Rows.EnumRows
import KE.RegKTryMore
import KE.RegKIsAll
import PyProof.NeKinds
import PyProof.StrWalks
import PyProof.Rows.SetFrom
import PyProof.FString5
import PyProof.Rows.SeqMore
import PyProof.StrOps2
import PyProof.ConsumeWalk
import KE.LcSums
import PyProof.AttrMissHeap
import KE.KDictOf
import PyProof.DictWalks
import PyProof.ZipIter
import PyProof.ListMulRoad
import PyProof.FactsAll.tuple
import Wide.Txt
import PySem.Challenge.RW_boughbook_k22_trees_turned
set_option Elab.async false
set_option linter.all false
set_option maxRecDepth 100000
namespace L2
open PySem PySem.Spec PyProof.Rows
abbrev Key := Sum Int Str
def keyIs : Key → Value → Bool
  | .inl k, v => Value.isInt k v
  | .inr x, v => Value.isStrOf x v
def keyH (w : World) : Key → Int
  | .inl k => hashInt k
  | .inr x => hashStr w x
theorem keyIs_shape : ∀ {k : Key} {v : Value}, keyIs k v = true → (∃ i t, k = Sum.inl i ∧ v = Value.int i t) ∨ (∃ x t, k = Sum.inr x ∧ v = Value.str x t)
  | .inl i, v, h => by
    obtain ⟨t, e⟩ := Value.isInt_shape (k := i) (v := v) h
    exact .inl ⟨i, t, rfl, e⟩
  | .inr x, v, h => by
    obtain ⟨t, e⟩ := Value.isStrOf_shape (x := x) (v := v) h
    exact .inr ⟨x, t, rfl, e⟩
theorem key_ll (a b : Int) : decide ((Sum.inl a : Key) = Sum.inl b) = (a == b) := by
  by_cases e : a = b
  · subst e; simp
  · have h : ¬ (Sum.inl a : Key) = Sum.inl b := fun q => e (Sum.inl.inj q)
    rw [decide_eq_false h]
    exact (beq_eq_false_iff_ne.mpr e).symm
theorem key_rr (a b : Str) : decide ((Sum.inr a : Key) = Sum.inr b) = decide (a = b) := by
  by_cases e : a = b
  · subst e; simp
  · have h : ¬ (Sum.inr a : Key) = Sum.inr b := fun q => e (Sum.inr.inj q)
    rw [decide_eq_false h, decide_eq_false e]
theorem key_lr (a : Int) (b : Str) : decide ((Sum.inl a : Key) = Sum.inr b) = false := decide_eq_false (fun q => nomatch q)
theorem key_rl (a : Str) (b : Int) : decide ((Sum.inr a : Key) = Sum.inl b) = false := decide_eq_false (fun q => nomatch q)
def mixKind (prog : Program) (w : World) : PySem.KeyKind prog w Key where
  is := keyIs
  hash := keyH w
  inj := fun v a b ha hb => by
    rcases keyIs_shape ha with ⟨i, t, rfl, rfl⟩ | ⟨x, t, rfl, rfl⟩
    · rcases keyIs_shape hb with ⟨j, u, rfl, e⟩ | ⟨y, u, rfl, e⟩
      · injection e with e1 _; rw [e1]
      · exact nomatch e
    · rcases keyIs_shape hb with ⟨j, u, rfl, e⟩ | ⟨y, u, rfl, e⟩
      · exact nomatch e
      · injection e with e1 _; rw [e1]
  byValue := fun k v h => by
    rcases keyIs_shape h with ⟨i, t, rfl, rfl⟩ | ⟨x, t, rfl, rfl⟩ <;> rfl
  pyHash := fun hv h => by
    rcases keyIs_shape hv with ⟨i, t, rfl, rfl⟩ | ⟨x, t, rfl, rfl⟩
    · exact wpAny_pyHash_int h
    · exact wpAny_pyHash_str h
  eqBool := fun hu hv h => by
    rcases keyIs_shape hu with ⟨i, t, rfl, rfl⟩ | ⟨x, t, rfl, rfl⟩
    · rcases keyIs_shape hv with ⟨j, u, rfl, rfl⟩ | ⟨y, u, rfl, rfl⟩
      · rw [key_ll] at h; exact wpAny_eqBool_int h
      · rw [key_lr] at h; exact SeqAt.EqAt.int_str i t y u _ _ _ _ h
    · rcases keyIs_shape hv with ⟨j, u, rfl, rfl⟩ | ⟨y, u, rfl, rfl⟩
      · rw [key_rl] at h; exact SeqAt.EqAt.str_int x t j u _ _ _ _ h
      · rw [key_rr] at h; exact wpAny_eqBool_str h
  «strs» := fun k x t v h => by
    rcases keyIs_shape h with ⟨i, u, rfl, e⟩ | ⟨y, u, rfl, e⟩
    · exact nomatch e
    · injection e with e1 _
      subst e1
      cases v <;> rfl
end L2
namespace L2
open PySem PySem.Spec PyProof.Rows
inductive V where
  | non | bl (b : Bool) | int (i : Int) | str (x : Str) | byt (b : Array UInt8) | flt (b : UInt64) | ref (a : Addr) | ty (n : String)
  deriving DecidableEq
def RelV : V → Value → Prop
  | .non, u => u = Value.none
  | .bl b, u => u = Value.bool b
  | .int i, u => ∃ t, u = Value.int i t
  | .str x, u => ∃ t, u = Value.str x t
  | .byt b, u => ∃ t, u = Value.bytes b t
  | .flt b, u => ∃ t, u = Value.float b t
  | .ref a, u => u = Value.ref a
  | .ty n, u => u = Value.type n
abbrev Vals : List V → List Value → Prop := Paired RelV
theorem Vals.length {xs : List V} {us : List Value} (r : Vals xs us) : xs.length = us.length := Paired.length r
theorem Vals.get : ∀ {xs : List V} {us : List Value} {i : Nat} {x : V}, Vals xs us → xs[i]? = some x → ∃ u, us[i]? = some u ∧ RelV x u
  | _, _, _, _, .nil, e => by simp at e
  | _, _, 0, _, .cons r _, e => by simp at e; subst e; exact ⟨_, rfl, r⟩
  | _, _, i + 1, x, .cons _ t, e => by
    obtain ⟨u, h1, h2⟩ := Vals.get (i := i) (x := x) t (by simpa using e)
    exact ⟨u, by simpa using h1, h2⟩
theorem Vals.set {x : V} {u : Value} (r : RelV x u) : ∀ {xs : List V} {us : List Value} (i : Nat), Vals xs us → Vals (xs.set i x) (us.set i u)
  | _, _, _, .nil => .nil
  | _, _, 0, .cons _ t => .cons r t
  | _, _, i + 1, .cons q t => .cons q (Vals.set r i t)
theorem Vals.append : ∀ {xs ys : List V} {us ws : List Value}, Vals xs us → Vals ys ws → Vals (xs ++ ys) (us ++ ws)
  | _, _, _, _, .nil, s => s
  | _, _, _, _, .cons r t, s => .cons r (Vals.append t s)
theorem Vals.take : ∀ {xs : List V} {us : List Value} (n : Nat), Vals xs us → Vals (xs.take n) (us.take n)
  | _, _, 0, _ => .nil
  | _, _, _ + 1, .nil => .nil
  | _, _, n + 1, .cons r t => .cons r (Vals.take n t)
theorem Vals.drop : ∀ {xs : List V} {us : List Value} (n : Nat), Vals xs us → Vals (xs.drop n) (us.drop n)
  | _, _, 0, r => r
  | _, _, _ + 1, .nil => .nil
  | _, _, n + 1, .cons _ t => Vals.drop n t
def RelO : Option V → Option Value → Prop
  | some v, some u => RelV v u
  | none, none => True
  | _, _ => False
def KV {κ : Type} : List (κ × V) → List (κ × Value) → Prop := Paired fun (p : κ × V) (q : κ × Value) => p.1 = q.1 ∧ RelV p.2 q.2
def kV : Key → V
  | .inl i => .int i
  | .inr x => .str x
inductive HO where
  /-- a list -/
  | lst (xs : List V)
  /-- a tuple (never changes) -/
  | tup (xs : List V)
  /-- a dict whose keys are ints and texts; one whose keys are tuples of ints and texts (the empty one is both) -/
  | dK (kvs : List (Key × V)) | dT (kvs : List (List Key × V))
  /-- a set of ints: its members, its size -/
  | set (S : Int → Bool) (n : Nat)
  /-- an instance of the class at C, its dict at dx, its attributes -/
  | ins (C dx : Addr) (fs : List (Str × V))
  /-- the dict of the instance at x -/
  | own (x : Addr)
  /-- the dict of an exception -/
  | xd (fs : List (Str × V))
  /-- a bound method, f of x -/
  | met (f x : Addr)
  /-- a range object lo, lo + 1, .. below hi -/
  | rng (lo hi : Int)
  /-- a thing that is known to the object (the script; a dict while a loop walks it): read, never written while it is so -/
  | frz (o : Obj) (u : HO)
  /-- a code object's table -/
  | tbl (ps : Array Value)
  /-- any other thing, by what is true of its one object (a def of one's own: SetO a S n := HO.ext fun h => ..) -/
  | ext (φ : Heap → Prop)
abbrev Hp := Addr → Option HO
def upd (H : Hp) (a : Addr) (o : HO) : Hp := fun b => if b = a then some o else H b
theorem upd_same {H : Hp} {a : Addr} {o : HO} : upd H a o a = some o := by unfold upd; rw [if_pos rfl]
theorem upd_ne {H : Hp} {a b : Addr} {o : HO} (h : b ≠ a) : upd H a o b = H b := by unfold upd; rw [if_neg h]
theorem upd_upd {H : Hp} {a : Addr} {o u : HO} : upd (upd H a o) a u = upd H a u := by
  funext b; unfold upd; split <;> rfl
theorem ne_of {H : Hp} {a b : Addr} {o u : HO} (h : H a = some o) (h' : H b = some u) (d : o ≠ u) : a ≠ b := by
  intro e; subst e; rw [h] at h'; exact d (Option.some.inj h')
theorem ne_of_none {H : Hp} {a b : Addr} {o : HO} (h : H a = some o) (h' : H b = none) : a ≠ b := by
  intro e; subst e; rw [h] at h'; cases h'
section
variable (P : Program) (w : World)
def ObjOk (H : Hp) (h : Heap) (a : Addr) : HO → Prop
  | .lst xs => xs.length ≤ sizeLine ∧ ∃ (its : List Value) (n : Nat), Vals xs its ∧ h.get? a = some { cls := .type "list", data := .seq its.toArray n }
  | .tup xs => xs.length ≤ sizeLine ∧ ∃ (its : List Value) (n : Nat), Vals xs its ∧ h.get? a = some { cls := .type "tuple", data := .seq its.toArray n }
  | .dK kvs => kvs.length ≤ sizeLine ∧ (a == sysModules) = false ∧ ∃ vs, KV kvs vs ∧ h.DictOf (mixKind P w) a vs
  | .dT kvs => kvs.length ≤ sizeLine ∧ (a == sysModules) = false ∧ ∃ xs : List (List Key × Addr × Value),
      Paired (fun (p : List Key × V) (q : List Key × Addr × Value) => p.1 = q.1 ∧ H q.2.1 = some (.tup (p.1.map kV)) ∧ RelV p.2 q.2.2) kvs xs ∧
      ∃ o es ep, h.get? a = some o ∧ o.ExactDict ∧ o.data = .dict es ep ∧ es.toList = xs.map (entryOfKey (tupleKind (mixKind P w))) ∧ (xs.map (·.1)).Nodup
  | .set S n => h.SetOf (intKind P w) a S n
  | .ins C dx fs => H dx = some (.own a) ∧ fs.length ≤ 1000 ∧ dx ≠ a ∧ h.get? a = some (PySem.W.instObj C dx) ∧
      ∃ mA, h.Ns1 dx mA ∧ (∀ f, RelO (fs.lookup f) (mA f)) ∧ PySem.Within mA (fs.map (·.1))
  | .own _ => ∃ o, h.get? a = some o
  | .xd fs => ∃ mA, h.Ns1 a mA ∧ ∀ f, RelO (fs.lookup f) (mA f)
  | .rng lo hi => ∃ t u v, h.get? a = some { cls := .type "range", data := .fields #[.int lo t, .int hi u, .int 1 v] }
  | .frz o u => h.get? a = some o ∧ ObjOk H h a u
  | .tbl ps => h.get? a = some { cls := .none, data := .fields ps }
  | .met f x => h.get? a = some (PySem.W.methodObj (.ref f) (.ref x))
  | .ext φ => φ h ∧ (∃ o, h.get? a = some o) ∧ ∀ h1 h2 : Heap, φ h1 → (∀ o, h1.get? a = some o → h2.get? a = some o) → φ h2
def HOk (H : Hp) (h : Heap) : Prop := ∀ a o, H a = some o → ObjOk P w H h a o
end
section
variable {P : Program} {w : World} {H H' : Hp} {h h' : Heap} {a : Addr} {o : HO}
theorem ObjOk.lt (x : ObjOk P w H h a o) : a < h.objs.size := by
  cases o with
  | lst xs => obtain ⟨_, _, _, _, e⟩ := x; exact Heap.lt_size e
  | tup xs => obtain ⟨_, _, _, _, e⟩ := x; exact Heap.lt_size e
  | dK kvs => obtain ⟨_, _, _, _, o, _, _, e, _⟩ := x; exact Heap.lt_size e
  | dT kvs => obtain ⟨_, _, _, _, o, _, _, e, _⟩ := x; exact Heap.lt_size e
  | set S n => obtain ⟨o, _, _, _, e, _⟩ := x; exact Heap.lt_size e
  | ins C dx fs => obtain ⟨_, _, _, e, _⟩ := x; exact Heap.lt_size e
  | own y => obtain ⟨_, e⟩ := x; exact Heap.lt_size e
  | xd fs => obtain ⟨_, ⟨_, _, _, e, _⟩, _⟩ := x; exact Heap.lt_size e
  | rng lo hi => obtain ⟨_, _, _, e⟩ := x; exact Heap.lt_size e
  | frz ob u => obtain ⟨e, _⟩ := x; exact Heap.lt_size e
  | tbl ps => exact Heap.lt_size (show h.get? a = some _ from x)
  | met f y => exact Heap.lt_size (show h.get? a = some _ from x)
  | ext φ => obtain ⟨_, ⟨_, e⟩, _⟩ := x; exact Heap.lt_size e
theorem Paired.mapP {α β : Type} {F G : α → β → Prop} : ∀ {l₁ : List α} {l₂ : List β}, Paired F l₁ l₂ → (∀ a b, F a b → G a b) → Paired G l₁ l₂
  | _, _, .nil, _ => .nil
  | _, _, .cons r t, f => .cons (f _ _ r) (Paired.mapP t f)
theorem ObjOk.stay (x : ObjOk P w H h a o) (k : ∀ b u, (b = a ∨ H b = some (.own a)) → h.get? b = some u → h'.get? b = some u)
    (ho : ∀ b, H b = some (.own a) → H' b = some (.own a)) (ht : ∀ b xs, H b = some (.tup xs) → H' b = some (.tup xs)) : ObjOk P w H' h' a o := by
  induction o with
  | lst xs => obtain ⟨z, its, n, r, e⟩ := x; exact ⟨z, its, n, r, k _ _ (.inl rfl) e⟩
  | tup xs => obtain ⟨z, its, n, r, e⟩ := x; exact ⟨z, its, n, r, k _ _ (.inl rfl) e⟩
  | dK kvs => obtain ⟨z, y, vs, r, ob, es, ep, e, c⟩ := x; exact ⟨z, y, vs, r, ob, es, ep, k _ _ (.inl rfl) e, c⟩
  | dT kvs =>
    obtain ⟨z, y, xs, r, ob, es, ep, e, c⟩ := x
    exact ⟨z, y, xs, Paired.mapP r fun p q z => ⟨z.1, ht _ _ z.2.1, z.2.2⟩, ob, es, ep, k _ _ (.inl rfl) e, c⟩
  | set S n => obtain ⟨ob, es, ep, t, e, c⟩ := x; exact ⟨ob, es, ep, t, k _ _ (.inl rfl) e, c⟩
  | ins C dx fs =>
    obtain ⟨d, z, ne, e, mA, ⟨od, es, ep, e2, c⟩, r⟩ := x
    exact ⟨ho _ d, z, ne, k _ _ (.inl rfl) e, mA, ⟨od, es, ep, k _ _ (.inr d) e2, c⟩, r⟩
  | own y => obtain ⟨ob, e⟩ := x; exact ⟨ob, k _ _ (.inl rfl) e⟩
  | xd fs => obtain ⟨mA, ⟨od, es, ep, e, c⟩, r⟩ := x; exact ⟨mA, ⟨od, es, ep, k _ _ (.inl rfl) e, c⟩, r⟩
  | rng lo hi => obtain ⟨t, u, v, e⟩ := x; exact ⟨t, u, v, k _ _ (.inl rfl) e⟩
  | frz ob u ih => obtain ⟨e, q⟩ := x; exact ⟨k _ _ (.inl rfl) e, ih q⟩
  | tbl ps =>
    have e : h.get? a = some { cls := .none, data := .fields ps } := x
    show h'.get? a = some { cls := .none, data := .fields ps }
    exact k a _ (.inl rfl) e
  | met f y =>
    have e : h.get? a = some (PySem.W.methodObj (.ref f) (.ref y)) := x
    show h'.get? a = some (PySem.W.methodObj (.ref f) (.ref y))
    exact k a _ (.inl rfl) e
  | ext φ => obtain ⟨p, ⟨o, e⟩, st⟩ := x; exact ⟨st _ _ p fun o q => k _ _ (.inl rfl) q, ⟨o, k _ _ (.inl rfl) e⟩, st⟩
theorem HOk.lt (x : HOk P w H h) (e : H a = some o) : a < h.objs.size := (x a o e).lt
theorem HOk.fresh (x : HOk P w H h) (e : h.objs.size ≤ a) : H a = none := by
  cases q : H a with
  | none => rfl
  | some u => exact absurd (Nat.lt_of_lt_of_le (x.lt q) e) (Nat.lt_irrefl _)
theorem HOk.kept (x : HOk P w H h) (k : ∀ b u, h.get? b = some u → h'.get? b = some u) : HOk P w H h' := fun a o e =>
  (x a o e).stay (fun b u _ q => k b u q) (fun _ q => q) fun _ _ q => q
theorem HOk.laid (x : HOk P w H h) (k : ∀ b u, h.get? b = some u → h'.get? b = some u) (hp : h.objs.size ≤ a) (new : ObjOk P w (upd H a o) h' a o) : HOk P w (upd H a o) h' := fun b u e => by
  have hn := x.fresh hp
  by_cases hb : b = a
  · subst hb; rw [upd_same] at e; cases e; exact new
  · rw [upd_ne hb] at e
    exact (x b u e).stay (fun c v _ q => k c v q) (fun c q => by rw [upd_ne (ne_of_none q hn)]; exact q) fun c xs q => by rw [upd_ne (ne_of_none q hn)]; exact q
end
def Rd (H : Hp) (a : Addr) (u : HO) : Prop := H a = some u ∨ ∃ o, H a = some (.frz o u)
theorem Rd.ok {P : Program} {w : World} {H : Hp} {h : Heap} {a : Addr} {u : HO} (r : Rd H a u) (x : HOk P w H h) : ObjOk P w H h a u := by
  rcases r with r | ⟨o, r⟩
  · exact x a u r
  · obtain ⟨_, q⟩ := x a _ r
    exact q
def Mut : Option HO → Prop
  | some (.lst _) => True
  | some (.dK _) => True
  | some (.dT _) => True
  | some (.set _ _) => True
  | some (.ins _ _ _) => True
  | some (.ext _) => True
  | _ => False
section
variable {P : Program} {w : World} {H : Hp} {h h' : Heap} {x e : Addr} {o' : HO}
theorem HOk.write (ok : HOk P w H h) (mu : Mut (H x)) (he : e = x ∨ H e = some (.own x)) (k : ∀ b u, b ≠ e → h.get? b = some u → h'.get? b = some u) (heo : ∃ u, h'.get? e = some u)
    (new : ObjOk P w (upd H x o') h' x o') : HOk P w (upd H x o') h' := fun b u q => by
  have nown : ∀ c y, H c = some (.own y) → c ≠ x := fun c y r z => by subst z; rw [r] at mu; exact mu
  have ntup : ∀ c xs, H c = some (.tup xs) → c ≠ x := fun c xs r z => by subst z; rw [r] at mu; exact mu
  by_cases hb : b = x
  · subst hb; rw [upd_same] at q; cases q; exact new
  · rw [upd_ne hb] at q
    by_cases hbe : b = e
    · have q' : H b = some (.own x) := by
        rcases he with z | z
        · exact absurd (hbe.trans z) hb
        · rw [hbe]; exact z
      rw [q] at q'; cases q'
      obtain ⟨v, hv⟩ := heo
      exact ⟨v, by rw [hbe]; exact hv⟩
    · refine (ok b u q).stay (fun c v hc r => k c v ?_ r) (fun c r => by rw [upd_ne (nown c b r)]; exact r) fun c xs r => by rw [upd_ne (ntup c xs r)]; exact r
      rcases hc with rfl | hc
      · exact hbe
      · rintro rfl
        rcases he with z | z
        · exact nown c b hc z
        · rw [hc] at z; cases z; exact hb rfl
end
structure Un (fs ex : List Addr) (H H' : Hp) (h h' : Heap) : Prop where
  keep : ∀ b o, h.get? b = some o → H b = none → b ∉ fs → b ∉ ex → h'.get? b = some o
  slot : ∀ b o, h.get? b = some o → H b = none → b ∈ fs → b ∉ ex → ∃ sl, h'.get? b = some { o with slots := sl }
  free : ∀ b o, h.get? b = some o → H b = none → b ∉ ex → H' b = none
  there : ∀ b o, h.get? b = some o → b ∉ ex → ∃ o', h'.get? b = some o'
  tups : ∀ b xs, H b = some (.tup xs) → H' b = some (.tup xs)
  frzs : ∀ b o u, H b = some (.frz o u) → H' b = some (.frz o u)
  tbls : ∀ b ps, H b = some (.tbl ps) → ∃ more, H' b = some (.tbl (ps ++ more))
section
variable {fs fs' ex ex' : List Addr} {H H1 H2 : Hp} {h h1 h2 h' : Heap} {a x e : Addr} {o : HO}
theorem Un.any (u : Un fs ex H H1 h h1) {b : Addr} {ob : Obj} (q : h.get? b = some ob) (n : H b = none) (hx : b ∉ ex) : ∃ sl, h1.get? b = some { ob with slots := sl } := by
  by_cases hb : b ∈ fs
  · exact u.slot b ob q n hb hx
  · exact ⟨ob.slots, u.keep b ob q n hb hx⟩
theorem Un.kept (k : ∀ b u, h.get? b = some u → h'.get? b = some u) : Un fs ex H H h h' :=
  ⟨fun b ob q _ _ _ => k b ob q, fun b ob q _ _ _ => ⟨ob.slots, k b ob q⟩, fun _ _ _ n _ => n, fun b ob q _ => ⟨ob, k b ob q⟩, fun _ _ q => q, fun _ _ _ q => q, fun _ ps q => ⟨#[], by rw [q]; simp⟩⟩
theorem Un.refl : Un fs ex H H h h := Un.kept fun _ _ q => q
theorem Un.laid (k : ∀ b u, h.get? b = some u → h'.get? b = some u) (hp : h.objs.size ≤ a) (hn : H a = none) : Un fs ex H (upd H a o) h h' where
  keep := fun b u q _ _ _ => k b u q
  slot := fun b u q _ _ _ => ⟨u.slots, k b u q⟩
  free := fun b u q n _ => by rw [upd_ne (Nat.ne_of_lt (Nat.lt_of_lt_of_le (Heap.lt_size q) hp))]; exact n
  there := fun b u q _ => ⟨u, k b u q⟩
  tups := fun b xs q => by rw [upd_ne (ne_of_none q hn)]; exact q
  frzs := fun b u xs q => by rw [upd_ne (ne_of_none q hn)]; exact q
  tbls := fun b ps q => ⟨#[], by rw [upd_ne (ne_of_none q hn), q]; simp⟩
theorem Un.write (mu : Mut (H x)) (he : e = x ∨ H e = some (.own x)) (k : ∀ b u, b ≠ e → h.get? b = some u → h'.get? b = some u) (heo : ∃ u, h'.get? e = some u) : Un fs ex H (upd H x o) h h' := by
  have hx : ∀ b, H b = none → b ≠ x := fun b n z => by subst z; rw [n] at mu; exact mu
  have hb : ∀ b, H b = none → b ≠ e := fun b n z => by
    subst z
    rcases he with r | r
    · exact hx b n r
    · rw [n] at r; cases r
  have hm : ∀ b u, H b = some u → ¬ Mut (some u) → b ≠ x := fun b u q nm z => by subst z; rw [q] at mu; exact nm mu
  refine ⟨fun b u q n _ _ => k b u (hb b n) q, fun b u q n _ _ => ⟨u.slots, k b u (hb b n) q⟩, fun b u q n _ => by rw [upd_ne (hx b n)]; exact n, fun b u q _ => ?_,
    fun b xs q => by rw [upd_ne (hm b _ q fun z => z)]; exact q, fun b u xs q => by rw [upd_ne (hm b _ q fun z => z)]; exact q, fun b ps q => ⟨#[], by rw [upd_ne (hm b _ q fun z => z), q]; simp⟩⟩
  by_cases hbe : b = e
  · subst hbe; exact heo
  · exact ⟨u, k b u hbe q⟩
end
def trk (h : Heap) (H : Hp) : List Addr := (List.range h.objs.size).filter fun a => (H a).isSome
def hidT (h : Heap) (H : Hp) : Heap := PySem.W.hideAll h (trk h H)
theorem hidT_size (h : Heap) (H : Hp) : (hidT h H).objs.size = h.objs.size := PySem.W.hideAll_size _ _
theorem hidT_get {h : Heap} {H : Hp} {b : Addr} {o : Obj} (e : h.get? b = some o) (n : H b = none) : (hidT h H).get? b = some o :=
  PySem.W.hideAll_get _ e fun hm => by
    have q : (H b).isSome = true := (List.mem_filter.mp hm).2
    rw [n] at q; simp at q
theorem of_hidT {h : Heap} {H : Hp} {b : Addr} {o : Obj} (e : (hidT h H).get? b = some o) : h.get? b = some o ∧ H b = none := by
  have e' : h.get? b = some o := PySem.W.of_hideAll (trk h H) e
  refine ⟨e', ?_⟩
  cases q : H b with
  | none => rfl
  | some x =>
    have hm : b ∈ trk h H := List.mem_filter.mpr ⟨List.mem_range.mpr (Heap.lt_size e'), by simp [q]⟩
    have z : (hidT h H).get? b = none := PySem.W.hideAll_none (trk h H) hm
    rw [z] at e; cases e
end L2
namespace L2
open PySem PySem.Spec PyProof.Rows
structure Mod (K : PySem.W.Frag) (mg : Str → Option Value) (base : Heap) : Prop where
  kin : K.In base
  glob : base.Ns mainGlobals mg
  blt : ∃ mb, base.Ns builtinsNs mb ∧ ∀ x : Str, x ≠ "__name__" → mb x = bootBuiltins x
  nolimit : base.NoLimit
structure Cx where
  prog : Program
  w : World
  K : PySem.W.Frag
  mg : Str → Option Value
  base : Heap
  A : Around
  N : List Str
  s₀ : Shared
  H₀ : Hp
  env : Env
  outer : List Env
  stack : List Env
  ex : List Addr
  fn : Str → Bool
  calm : Bool
  pn : List (Addr × Obj)
  xe : Value → Shared → Prop
def frs (l : List Env) : List Addr := l.filterMap (·.frame)
abbrev Cx.fs (X : Cx) : List Addr := frs X.outer
def Vis (sc : Scope) (x : Str) : Prop := sc.names.lookup x = some .local ∨ sc.names.lookup x = some .cell ∨ sc.names.lookup x = some .free
def Loc (sc : Scope) (x : Str) : Prop := sc.names.lookup x = some .local ∨ sc.names.lookup x = some .cell
def Look (env : Env) (h : Heap) (m : Str → Option Value) (x : Str) (u : Value) : Prop :=
  (env.kindOf x = some .local ∧ m x = some u) ∨ ((env.kindOf x = some .cell ∨ env.kindOf x = some .free) ∧ ∃ c, env.cells.lookup x = some c ∧ h.IsCell c (some u))
structure Cx.Ok (X : Cx) : Prop where
  mod : Mod X.K X.mg X.base
  kind : X.env.scope.kind = .function
  glob : X.env.globals = mainGlobals
  blt : X.env.builtins = builtinsNs
  above : X.s₀.heap.objs.size ≤ X.env.locals
  inj : ∀ x y c, X.env.cells.lookup x = some c → X.env.cells.lookup y = some c → x = y
  has : ∀ x, (X.env.kindOf x = some .cell ∨ X.env.kindOf x = some .free) → ∃ c, X.env.cells.lookup x = some c
  cab : ∀ x c, X.fn x = true → X.env.cells.lookup x = some c → X.s₀.heap.objs.size ≤ c
  hd : X.calm = true → X.A.handled = none
  frames : X.A.frames = some X.stack
  stk : X.stack = X.outer ∨ (X.stack = X.env :: X.outer ∧ X.env.frame = some X.env.locals)
  exf : ∀ b ∈ X.ex, b ≠ X.env.locals ∧ ∀ x c, X.env.cells.lookup x = some c → c ≠ b
  bs : ∀ b o, X.base.get? b = some o → X.s₀.heap.get? b = some o ∧ X.H₀ b = none
  bsz : X.base.objs.size ≤ X.s₀.heap.objs.size
  noex : ∀ b o, X.base.get? b = some o → b ∉ X.ex
  exfs : ∀ b ∈ X.ex, b ∉ X.fs
  funs : X.s₀.heap.FunFrames X.base X.outer
  frf : ∀ b ∈ X.fs, X.H₀ b = none
structure Inv (X : Cx) (pins : List (Addr × Obj)) (σ : List (Option V)) (H : Hp) (s : Shared) : Prop where
  ok : X.Ok
  os : s.os = X.s₀.os
  bare : AllBare s.gens
  base : Un X.fs X.ex X.H₀ H X.s₀.heap s.heap
  loc : ∃ m, s.heap.Ns X.env.locals m ∧ ∀ (i : Nat) (x : Str) (v : V), X.N[i]? = some x → σ[i]? = some (some v) → Vis X.env.scope x → ∃ u, RelV v u ∧ Look X.env s.heap m x u
  cell : ∀ x c, X.env.cells.lookup x = some c → ∃ v, s.heap.IsCell c v
  free : H X.env.locals = none
  freeC : ∀ x c, X.env.cells.lookup x = some c → H c = none
  pin : ∀ p ∈ X.pn ++ pins, s.heap.get? p.1 = some p.2 ∧ H p.1 = none ∧ p.1 ≠ X.env.locals ∧ p.1 ∉ X.fs ∧ ∀ v, p.2.data ≠ .cell v
  hok : HOk X.prog X.w H s.heap
  len : σ.length = X.N.length
section
variable {X : Cx} {pins : List (Addr × Obj)} {σ : List (Option V)} {H H' : Hp} {s : Shared} {h' : Heap}
theorem Cx.Ok.nofr (ok : X.Ok) {b : Addr} {o : Obj} (e : X.base.get? b = some o) : b ∉ X.fs := fun hb => by
  have := (ok.funs.mem hb).1
  rw [e] at this; cases this
theorem Inv.bs (I : Inv X pins σ H s) : ∀ b o, X.base.get? b = some o → s.heap.get? b = some o ∧ H b = none := fun b o e =>
  ⟨I.base.keep b o (I.ok.bs b o e).1 (I.ok.bs b o e).2 (I.ok.nofr e) (I.ok.noex b o e), I.base.free b o (I.ok.bs b o e).1 (I.ok.bs b o e).2 (I.ok.noex b o e)⟩
theorem Inv.bk (I : Inv X pins σ H s) : ∀ b o, X.base.get? b = some o → s.heap.get? b = some o := fun b o e => (I.bs b o e).1
theorem Inv.mod (I : Inv X pins σ H s) : Mod X.K X.mg X.base := I.ok.mod
theorem Inv.kIn (I : Inv X pins σ H s) : X.K.In s.heap := I.ok.mod.kin.keeps I.bk
theorem Inv.lt (I : Inv X pins σ H s) : X.env.locals < s.heap.objs.size := let ⟨_, hn, _⟩ := I.loc; hn.lt
theorem Inv.sz (I : Inv X pins σ H s) : X.s₀.heap.objs.size ≤ s.heap.objs.size := Nat.le_trans I.ok.above (Nat.le_of_lt I.lt)
theorem Inv.nofs (I : Inv X pins σ H s) {a : Addr} (h : s.heap.objs.size ≤ a) : a ∉ X.fs := fun hb => by
  obtain ⟨_, o, ho, _⟩ := I.ok.funs.mem hb
  exact absurd (Nat.lt_of_lt_of_le (Heap.lt_size ho) (Nat.le_trans I.sz h)) (Nat.lt_irrefl _)
theorem Inv.cne (I : Inv X pins σ H s) : ∀ x c, X.env.cells.lookup x = some c → c ≠ X.env.locals := fun x c e z => by
  obtain ⟨v, o, ho, hd⟩ := I.cell x c e
  obtain ⟨m, ⟨o', es, ep, ho', hd', _⟩, _⟩ := I.loc
  rw [z, ho'] at ho; cases ho; rw [hd'] at hd; cases hd
theorem Inv.funs (I : Inv X pins σ H s) : s.heap.FunFrames X.base X.outer := by
  have all : ∀ (l : List Env), (∀ b ∈ frs l, b ∈ X.fs) → X.s₀.heap.FunFrames X.base l → s.heap.FunFrames X.base l := by
    intro l
    induction l with
    | nil => intro _ _; trivial
    | cons env r ih =>
      intro hs hl
      obtain ⟨hk, ⟨L, o, hf, hn, ho, hd⟩, hr⟩ := hl
      have hL : L ∈ X.fs := hs L (by unfold frs; rw [List.filterMap_cons, hf]; exact List.mem_cons_self)
      obtain ⟨sl, e⟩ := I.base.slot L o ho (I.ok.frf L hL) hL fun z => I.ok.exfs L z hL
      exact ⟨hk, ⟨L, _, hf, hn, e, hd⟩, ih (fun b hb => hs b (by unfold frs; rw [List.filterMap_cons, hf]; exact List.mem_cons_of_mem _ hb)) hr⟩
  exact all X.outer (fun _ hb => hb) I.ok.funs
theorem Inv.stack (I : Inv X pins σ H s) : s.heap.FunFrames X.base X.stack := by
  rcases I.ok.stk with e | ⟨e, hf⟩
  · rw [e]; exact I.funs
  · rw [e]
    obtain ⟨m, hn, _⟩ := I.loc
    refine .cons (by rw [I.ok.kind]; decide) hf hn ?_ I.funs
    exact Heap.get?_none_of_le (Nat.le_trans I.ok.bsz I.ok.above)
theorem Inv.stkSub (I : Inv X pins σ H s) : ∀ b ∈ frs X.stack, b ∈ X.env.locals :: X.fs := fun b hb => by
  rcases I.ok.stk with e | ⟨e, hf⟩
  · rw [e] at hb; exact List.mem_cons_of_mem _ hb
  · rw [e] at hb
    unfold frs at hb
    rw [List.filterMap_cons, hf] at hb
    exact hb
theorem Inv.stkFree (I : Inv X pins σ H s) : ∀ b ∈ frs X.stack, H b = none := fun b hb => by
  rcases List.mem_cons.mp (I.stkSub b hb) with e | hb
  · rw [e]; exact I.free
  · obtain ⟨_, o, ho, _⟩ := I.ok.funs.mem hb
    exact I.base.free b o ho (I.ok.frf b hb) fun z => I.ok.exfs b z hb
theorem Inv.step {g' : Array GenState} {t' : Nat} {d' : Drawn} {ch : List Addr} (I : Inv X pins σ H s)
    (hch : ∀ b ∈ ch, (b ∈ X.ex ∨ X.s₀.heap.objs.size ≤ b) ∧ b ≠ X.env.locals ∧ (∀ x c, X.env.cells.lookup x = some c → c ≠ b) ∧ ∀ p ∈ X.pn ++ pins, p.1 ≠ b)
    (keep : ∀ b o, b ≠ X.env.locals → b ∉ X.fs → b ∉ ch → s.heap.get? b = some o → H b = none → h'.get? b = some o)
    (slot : ∀ b o, b ≠ X.env.locals → b ∈ X.fs → b ∉ ch → s.heap.get? b = some o → H b = none → ∃ sl, h'.get? b = some { o with slots := sl }) (free : ∀ b o, b ∉ ch → s.heap.get? b = some o → H b = none → H' b = none)
    (there : ∀ b o, b ∉ ch → s.heap.get? b = some o → ∃ o', h'.get? b = some o')
    (tups : ∀ b xs, H b = some (.tup xs) → H' b = some (.tup xs)) (frzs : ∀ b o u, H b = some (.frz o u) → H' b = some (.frz o u)) (tbls : ∀ b ps, H b = some (.tbl ps) → ∃ more, H' b = some (.tbl (ps ++ more)))
    (ns : ∀ m, s.heap.Ns X.env.locals m → h'.Ns X.env.locals m) (hok : HOk X.prog X.w H' h') (hg : AllBare g') :
    Inv X pins σ H' { s with heap := h', gens := g', drawn := d', toks := t' } := by
  have neL : ∀ b o, X.s₀.heap.get? b = some o → b ≠ X.env.locals := fun b o e => Nat.ne_of_lt (Nat.lt_of_lt_of_le (Heap.lt_size e) I.ok.above)
  have neC : ∀ b o, X.s₀.heap.get? b = some o → b ∉ X.ex → b ∉ ch := fun b o e hx hb => by
    rcases (hch b hb).1 with z | z
    · exact hx z
    · exact absurd (Nat.lt_of_lt_of_le (Heap.lt_size e) z) (Nat.lt_irrefl _)
  have cellK : ∀ x c, X.env.cells.lookup x = some c → ∀ v, s.heap.IsCell c v → h'.IsCell c v := fun x c e v ⟨o, ho, hd⟩ => by
    have nch : c ∉ ch := fun z => (hch c z).2.2.1 x c e rfl
    by_cases hc : c ∈ X.fs
    · obtain ⟨sl, q⟩ := slot c o (I.cne x c e) hc nch ho (I.freeC x c e)
      exact ⟨_, q, hd⟩
    · exact ⟨o, keep c o (I.cne x c e) hc nch ho (I.freeC x c e), hd⟩
  refine ⟨I.ok, I.os, hg, ⟨fun b o e n hb hx => ?_, fun b o e n hb hx => ?_, fun b o e n hx => ?_, fun b o e hx => ?_, fun b xs e => tups b xs (I.base.tups b xs e), fun b o xs e => frzs b o xs (I.base.frzs b o xs e), fun b ps e => ?_⟩, ?_, fun x c e => ?_, ?_, fun x c e => ?_, fun p hp => ?_, hok, I.len⟩
  · exact keep b o (neL b o e) hb (neC b o e hx) (I.base.keep b o e n hb hx) (I.base.free b o e n hx)
  · obtain ⟨sl, e1⟩ := I.base.slot b o e n hb hx
    obtain ⟨sl', e2⟩ := slot b _ (neL b o e) hb (neC b o e hx) e1 (I.base.free b o e n hx)
    exact ⟨sl', e2⟩
  · obtain ⟨o', e1⟩ := I.base.there b o e hx
    exact free b o' (neC b o e hx) e1 (I.base.free b o e n hx)
  · obtain ⟨o', e1⟩ := I.base.there b o e hx
    exact there b o' (neC b o e hx) e1
  · obtain ⟨m1, e1⟩ := I.base.tbls b ps e
    obtain ⟨m2, e2⟩ := tbls b _ e1
    exact ⟨m1 ++ m2, by rw [e2, Array.append_assoc]⟩
  · obtain ⟨m, hn, hl⟩ := I.loc
    refine ⟨m, ns m hn, fun i x v e1 e2 e3 => ?_⟩
    obtain ⟨u, r, l⟩ := hl i x v e1 e2 e3
    refine ⟨u, r, ?_⟩
    rcases l with l | ⟨k, c, e, z⟩
    · exact .inl l
    · exact .inr ⟨k, c, e, cellK x c e _ z⟩
  · obtain ⟨v, z⟩ := I.cell x c e
    exact ⟨v, cellK x c e v z⟩
  · obtain ⟨m, ⟨o, _, _, ho, _⟩, _⟩ := I.loc
    exact free _ o (fun z => (hch _ z).2.1 rfl) ho I.free
  · obtain ⟨v, o, ho, hd⟩ := I.cell x c e
    exact free c o (fun z => (hch c z).2.2.1 x c e rfl) ho (I.freeC x c e)
  · obtain ⟨e, n, ne, nf, d⟩ := I.pin p hp
    have nch : p.1 ∉ ch := fun z => (hch p.1 z).2.2.2 p hp rfl
    exact ⟨keep p.1 p.2 ne nf nch e n, free p.1 p.2 nch e n, ne, nf, d⟩
theorem Inv.un {t' : Nat} (I : Inv X pins σ H s) (u : Un X.fs [] H H' s.heap h') (hok : HOk X.prog X.w H' h') : Inv X pins σ H' { s with heap := h', toks := t' } := by
  obtain ⟨m, ⟨o, es, ep, ho, r⟩, _⟩ := id I.loc
  obtain ⟨sl, hL⟩ := u.any ho I.free (by simp)
  exact I.step (g' := s.gens) (d' := s.drawn) (ch := []) (fun _ z => nomatch z) (fun b o _ hb _ e n => u.keep b o e n hb (by simp)) (fun b o _ hb _ e n => u.slot b o e n hb (by simp)) (fun b o _ e n => u.free b o e n (by simp)) (fun b o _ e => u.there b o e (by simp)) u.tups u.frzs u.tbls (fun m' hm => by
    obtain ⟨o', es', ep', ho', r'⟩ := hm
    rw [ho] at ho'; cases ho'
    exact ⟨_, es', ep', hL, r'⟩) hok I.bare
theorem Inv.call {g' : Array GenState} {t' : Nat} {d' : Drawn} {ch : List Addr} (I : Inv X pins σ H s) (u : Un (frs X.stack) ch H H' s.heap h') (hok : HOk X.prog X.w H' h') (hg : AllBare g')
    (hch : ∀ b ∈ ch, (b ∈ X.ex ∨ X.s₀.heap.objs.size ≤ b) ∧ b ≠ X.env.locals ∧ (∀ x c, X.env.cells.lookup x = some c → c ≠ b) ∧ ∀ p ∈ X.pn ++ pins, p.1 ≠ b) :
    Inv X pins σ H' { s with heap := h', gens := g', drawn := d', toks := t' } := by
  obtain ⟨m, ⟨o, es, ep, ho, r⟩, _⟩ := id I.loc
  obtain ⟨sl, hL⟩ := u.any ho I.free fun z => (hch _ z).2.1 rfl
  exact I.step (ch := ch) hch (fun b o hL hb hc e n => u.keep b o e n (fun z => (List.mem_cons.mp (I.stkSub b z)).elim hL hb) hc) (fun b o _ _ hc e n => u.any e n hc) (fun b o hc e n => u.free b o e n hc) (fun b o hc e => u.there b o e hc) u.tups u.frzs u.tbls (fun m' hm => by
    obtain ⟨o', es', ep', ho', r'⟩ := hm
    rw [ho] at ho'; cases ho'
    exact ⟨_, es', ep', hL, r'⟩) hok hg
theorem Inv.turned {t' : Nat} {it : Addr} (I : Inv X pins σ H s) (k : ∀ b o, b ≠ it → s.heap.get? b = some o → h'.get? b = some o) (hn : H it = none) (hL : it ≠ X.env.locals)
    (h1 : it ∈ X.ex ∨ X.s₀.heap.objs.size ≤ it) (h2 : ∀ x c, X.env.cells.lookup x = some c → c ≠ it) (h3 : ∀ p ∈ X.pn ++ pins, p.1 ≠ it) : Inv X pins σ H { s with heap := h', toks := t' } := by
  have nit : ∀ b u, H b = some u → b ≠ it := fun b u e z => by rw [z, hn] at e; cases e
  refine I.step (g' := s.gens) (d' := s.drawn) (ch := [it]) (fun b hb => ?_) (fun b o _ _ hc e _ => k b o (fun z => hc (by simp [z])) e) (fun b o _ _ hc e _ => ⟨o.slots, k b o (fun z => hc (by simp [z])) e⟩) (fun _ _ _ _ n => n)
    (fun b o hc e => ⟨o, k b o (fun z => hc (by simp [z])) e⟩) (fun _ _ e => e) (fun _ _ _ e => e) (fun b ps e => ⟨#[], by rw [e]; simp⟩) (fun m hm => ?_) (fun b u e => ?_) I.bare
  · have e : b = it := by simpa using hb
    subst e
    exact ⟨h1, hL, h2, h3⟩
  · obtain ⟨o, es, ep, ho, r⟩ := hm
    exact ⟨o, es, ep, k _ o (Ne.symm hL) ho, r⟩
  · refine (I.hok b u e).stay (fun c v hc q => k c v ?_ q) (fun _ q => q) fun _ _ q => q
    rcases hc with z | z
    · rw [z]; exact nit b u e
    · exact nit c _ z
theorem Inv.tok (I : Inv X pins σ H s) (t : Nat) : Inv X pins σ H { s with toks := t } := I.un (h' := s.heap) (t' := t) Un.refl I.hok
theorem Inv.kept {t' : Nat} (I : Inv X pins σ H s) (k : ∀ b u, s.heap.get? b = some u → h'.get? b = some u) : Inv X pins σ H { s with heap := h', toks := t' } := I.un (Un.kept k) (I.hok.kept k)
theorem Inv.laid {a : Addr} {o : HO} {t' : Nat} (I : Inv X pins σ H s) (k : ∀ b u, s.heap.get? b = some u → h'.get? b = some u) (hp : s.heap.objs.size ≤ a) (new : ObjOk X.prog X.w (upd H a o) h' a o) :
    Inv X pins σ (upd H a o) { s with heap := h', toks := t' } := I.un (Un.laid k hp (I.hok.fresh hp)) (I.hok.laid k hp new)
theorem Inv.write {x e : Addr} {o : HO} {t' : Nat} (I : Inv X pins σ H s) (mu : Mut (H x)) (he : e = x ∨ H e = some (.own x)) (k : ∀ b u, b ≠ e → s.heap.get? b = some u → h'.get? b = some u) (heo : ∃ u, h'.get? e = some u)
    (new : ObjOk X.prog X.w (upd H x o) h' x o) : Inv X pins σ (upd H x o) { s with heap := h', toks := t' } := I.un (Un.write mu he k heo) (I.hok.write mu he k heo new)
theorem Inv.weak {σ' : List (Option V)} (I : Inv X pins σ H s) (hl : σ'.length = σ.length) (w : ∀ (i : Nat) v, σ'[i]? = some (some v) → σ[i]? = some (some v)) : Inv X pins σ' H s :=
  ⟨I.ok, I.os, I.bare, I.base, let ⟨m, hn, hl'⟩ := I.loc; ⟨m, hn, fun i x v e1 e2 e3 => hl' i x v e1 (w i v e2) e3⟩, I.cell, I.free, I.freeC, I.pin, I.hok, hl.trans I.len⟩
theorem Inv.pins_of {pins' : List (Addr × Obj)} (I : Inv X pins σ H s) (h : ∀ p ∈ pins', s.heap.get? p.1 = some p.2 ∧ H p.1 = none ∧ p.1 ≠ X.env.locals ∧ p.1 ∉ X.fs ∧ ∀ v, p.2.data ≠ .cell v) : Inv X pins' σ H s :=
  ⟨I.ok, I.os, I.bare, I.base, I.loc, I.cell, I.free, I.freeC, fun p hp => (List.mem_append.mp hp).elim (fun z => I.pin p (List.mem_append_left _ z)) (h p), I.hok, I.len⟩
theorem nodup_ix {N : List Str} (hN : N.Nodup) {i j : Nat} {x : Str} (a : N[i]? = some x) (b : N[j]? = some x) : i = j := by
  obtain ⟨h1, e1⟩ := List.getElem?_eq_some_iff.mp a
  obtain ⟨h2, e2⟩ := List.getElem?_eq_some_iff.mp b
  exact (List.getElem_inj hN).mp (e1.trans e2.symm)
theorem store_ok2 {M : Model} {A : Around} {E : Value → Shared → Prop} {i : Nat} {x : Str} {v : V} {u : Value} {Q : Unit → Shared → Prop} (I : Inv X pins σ H s) (hN : X.N.Nodup) (hi : X.N[i]? = some x) (hx : Loc X.env.scope x) (r : RelV v u)
    (h : ∀ s', Inv X pins (σ.set i (some v)) H s' → (∃ a, Heap.SameBut a s.heap s'.heap ∧ (a = X.env.locals ∨ X.env.cells.lookup x = some a)) → Q () s') (hf : X.fn x = true ∨ X.env.scope.names.lookup x = some .local := by first | exact .inl rfl | exact .inr rfl | assumption) : wpAny M A (storeName X.env x u) Q E s := by
  obtain ⟨m, hn, hl⟩ := id I.loc
  have hcls : (X.env.scope.kind == .class || (X.env.scope.kind == .module && X.env.locals != X.env.globals)) = false := by rw [I.ok.kind]; rfl
  have hiσ : i < σ.length := by rw [I.len]; exact (List.getElem?_eq_some_iff.mp hi).1
  have cne := I.cne
  have tracked : ∀ {a : Addr} {h' : Heap}, (∃ o, s.heap.get? a = some o ∧ H a = none) → Heap.SameBut a s.heap h' → HOk X.prog X.w H h' := fun {a h'} ha hs b ob e => by
    obtain ⟨_, _, hfree⟩ := ha
    refine (I.hok b ob e).stay (fun c w' hc q => (hs.2 c ?_).trans q) (fun _ q => q) fun _ _ q => q
    rintro rfl
    rcases hc with rfl | hc
    · rw [hfree] at e; cases e
    · rw [hfree] at hc; cases hc
  rcases hx with hk | hk
  · refine wpAny_storeName_local hk hn (fun h' hn' hs => ?_) hcls
    obtain ⟨oL, _, _, hoL, _⟩ := id hn
    refine h _ ⟨I.ok, I.os, I.bare, ⟨fun b o e n hb hx => ?_, fun b o e n hb hx => ?_, I.base.free, fun b o e hx => ?_, I.base.tups, I.base.frzs, I.base.tbls⟩, ⟨_, hn', fun j y v' e1 e2 e3 => ?_⟩, fun y c e => ?_, I.free, I.freeC, fun p hp => ?_, tracked ⟨oL, hoL, I.free⟩ hs, by simpa using I.len⟩ ⟨_, hs, .inl rfl⟩
    · exact (hs.2 b (Nat.ne_of_lt (Nat.lt_of_lt_of_le (Heap.lt_size e) I.ok.above))).trans (I.base.keep b o e n hb hx)
    · obtain ⟨sl, e1⟩ := I.base.slot b o e n hb hx
      exact ⟨sl, (hs.2 b (Nat.ne_of_lt (Nat.lt_of_lt_of_le (Heap.lt_size e) I.ok.above))).trans e1⟩
    · obtain ⟨o', e1⟩ := I.base.there b o e hx
      exact ⟨o', (hs.2 b (Nat.ne_of_lt (Nat.lt_of_lt_of_le (Heap.lt_size e) I.ok.above))).trans e1⟩
    · by_cases hj : j = i
      · subst hj
        rw [hi] at e1; cases e1
        rw [List.getElem?_set_self hiσ] at e2
        cases e2
        exact ⟨u, r, .inl ⟨hk, by simp⟩⟩
      · rw [List.getElem?_set_ne (Ne.symm hj)] at e2
        obtain ⟨u', r', q⟩ := hl j y v' e1 e2 e3
        refine ⟨u', r', ?_⟩
        rcases q with ⟨k, e⟩ | ⟨k, c, e, z⟩
        · refine .inl ⟨k, ?_⟩
          have : y ≠ x := fun e => hj (nodup_ix hN e1 (e ▸ hi))
          simp [this, e]
        · exact .inr ⟨k, c, e, z.sameBut hs (cne y c e)⟩
    · obtain ⟨w', z⟩ := I.cell y c e
      exact ⟨w', z.sameBut hs (cne y c e)⟩
    · obtain ⟨e, n, ne, nf, d⟩ := I.pin p hp
      exact ⟨(hs.2 p.1 ne).trans e, n, ne, nf, d⟩
  · have hfn : X.fn x = true := by
      rcases hf with z | z
      · exact z
      · rw [z] at hk; cases hk
    obtain ⟨c, hc⟩ := I.ok.has x (.inl hk)
    obtain ⟨w', z⟩ := I.cell x c hc
    refine wpAny_storeName_cell I.ok.kind hk hc z (fun h' hc' hs => ?_)
    obtain ⟨oc, hoc, hocd⟩ := id z
    refine h { s with heap := h' } ⟨I.ok, I.os, I.bare, ⟨fun b o e n hb hx => ?_, fun b o e n hb hx => ?_, I.base.free, fun b o e hx => ?_, I.base.tups, I.base.frzs, I.base.tbls⟩, ⟨m, hn.sameBut hs (Ne.symm (cne x c hc)), fun j y v' e1 e2 e3 => ?_⟩, fun y c' e => ?_, I.free, I.freeC, fun p hp => ?_, tracked ⟨oc, hoc, I.freeC x c hc⟩ hs, by simpa using I.len⟩ ⟨c, hs, .inr hc⟩
    · exact (hs.2 b (Nat.ne_of_lt (Nat.lt_of_lt_of_le (Heap.lt_size e) (I.ok.cab x c hfn hc)))).trans (I.base.keep b o e n hb hx)
    · obtain ⟨sl, e1⟩ := I.base.slot b o e n hb hx
      exact ⟨sl, (hs.2 b (Nat.ne_of_lt (Nat.lt_of_lt_of_le (Heap.lt_size e) (I.ok.cab x c hfn hc)))).trans e1⟩
    · obtain ⟨o', e1⟩ := I.base.there b o e hx
      exact ⟨o', (hs.2 b (Nat.ne_of_lt (Nat.lt_of_lt_of_le (Heap.lt_size e) (I.ok.cab x c hfn hc)))).trans e1⟩
    · by_cases hj : j = i
      · subst hj
        rw [hi] at e1; cases e1
        rw [List.getElem?_set_self hiσ] at e2
        cases e2
        exact ⟨u, r, .inr ⟨.inl hk, c, hc, hc'⟩⟩
      · rw [List.getElem?_set_ne (Ne.symm hj)] at e2
        obtain ⟨u', r', q⟩ := hl j y v' e1 e2 e3
        refine ⟨u', r', ?_⟩
        rcases q with q | ⟨k, c', e, z'⟩
        · exact .inl q
        · refine .inr ⟨k, c', e, z'.sameBut hs ?_⟩
          rintro rfl
          exact hj (nodup_ix hN e1 (I.ok.inj _ _ _ e hc ▸ hi))
    · by_cases hcc : c' = c
      · subst hcc; exact ⟨_, hc'⟩
      · obtain ⟨w2, z2⟩ := I.cell y c' e
        exact ⟨w2, z2.sameBut hs hcc⟩
    · obtain ⟨e, n, ne, nf, d⟩ := I.pin p hp
      refine ⟨(hs.2 p.1 ?_).trans e, n, ne, nf, d⟩
      intro q
      rw [q, hoc] at e
      have q' : oc = p.2 := Option.some.inj e
      exact d w' (by rw [← q']; exact hocd)
theorem store_ok {M : Model} {A : Around} {E : Value → Shared → Prop} {i : Nat} {x : Str} {v : V} {u : Value} {Q : Unit → Shared → Prop} (I : Inv X pins σ H s) (hN : X.N.Nodup) (hi : X.N[i]? = some x) (hx : Loc X.env.scope x) (r : RelV v u)
    (h : ∀ s', Inv X pins (σ.set i (some v)) H s' → Q () s') (hf : X.fn x = true ∨ X.env.scope.names.lookup x = some .local := by first | exact .inl rfl | exact .inr rfl | assumption) : wpAny M A (storeName X.env x u) Q E s :=
  store_ok2 I hN hi hx r (fun s' I' _ => h s' I') hf
theorem Inv.call' {s' : Shared} {ch : List Addr} (I : Inv X pins σ H s) (ho : s'.os = s.os) (u : Un (frs X.stack) ch H H' s.heap s'.heap) (hok : HOk X.prog X.w H' s'.heap) (hg : AllBare s'.gens)
    (hch : ∀ b ∈ ch, (b ∈ X.ex ∨ X.s₀.heap.objs.size ≤ b) ∧ b ≠ X.env.locals ∧ (∀ x c, X.env.cells.lookup x = some c → c ≠ b) ∧ ∀ p ∈ X.pn ++ pins, p.1 ≠ b) : Inv X pins σ H' s' := by
  obtain ⟨h', g', d', t', o'⟩ := s'
  have e : o' = s.os := ho
  subst e
  exact I.call (g' := g') (t' := t') (d' := d') u hok hg hch
end
abbrev XK := Value → Option Addr → Hp → Prop
abbrev St := List (Option V)
abbrev VK := V → Hp → Prop
abbrev TE := St → Hp → VK → Prop
abbrev TT := St → Hp → (Bool → Hp → Prop) → Prop
abbrev TA := St → Hp → (List V → Hp → Prop) → Prop
structure Ends where
  nx : St → Hp → Prop
  rt : VK
  bk : St → Hp → Prop := fun _ _ => False
  ct : St → Hp → Prop := fun _ _ => False
abbrev TS := Ends → St → Hp → Prop
def EP (X : Cx) (pins : List (Addr × Obj)) (σ : St) (Q : VK) (u : Value) (s' : Shared) : Prop := ∃ v H', Inv X pins σ H' s' ∧ RelV v u ∧ Q v H'
def TP (X : Cx) (pins : List (Addr × Obj)) (σ : St) (Q : Bool → Hp → Prop) (b : Bool) (s' : Shared) : Prop := ∃ H', Inv X pins σ H' s' ∧ Q b H'
def AP (X : Cx) (pins : List (Addr × Obj)) (σ : St) (Q : List V → Hp → Prop) (us : List Value) (s' : Shared) : Prop := ∃ vs H', Inv X pins σ H' s' ∧ Vals vs us ∧ Q vs H'
def SP (X : Cx) (pins : List (Addr × Obj)) (D : Ends) (f : Flow) (s' : Shared) : Prop :=
  match f with
  | .next => ∃ σ' H', Inv X pins σ' H' s' ∧ D.nx σ' H'
  | .brk => ∃ σ' H', Inv X pins σ' H' s' ∧ D.bk σ' H'
  | .cont => ∃ σ' H', Inv X pins σ' H' s' ∧ D.ct σ' H'
  | .ret u => ∃ v σ' H', Inv X pins σ' H' s' ∧ RelV v u ∧ D.rt v H'
def PE (X : Cx) (e : Expr) (t : TE) : Prop :=
  ∀ (pins : List (Addr × Obj)) (s : Shared) (σ : St) (H : Hp) (Q : VK), Inv X pins σ H s → t σ H Q → wpAny (model X.prog X.w) X.A (eval e X.env) (EP X pins σ Q) X.xe s
def PT (X : Cx) (e : Expr) (t : TT) : Prop :=
  ∀ (pins : List (Addr × Obj)) (s : Shared) (σ : St) (H : Hp) (Q : Bool → Hp → Prop), Inv X pins σ H s → t σ H Q → wpAny (model X.prog X.w) X.A (isTrue e X.env (eval e X.env)) (TP X pins σ Q) X.xe s
def PW (X : Cx) (e : Expr) (t : TT) : Prop :=
  ∀ (whole : Sem Value) (pins : List (Addr × Obj)) (s : Shared) (σ : St) (H : Hp) (Q : Bool → Hp → Prop), Inv X pins σ H s → t σ H Q → wpAny (model X.prog X.w) X.A (isTrue e X.env whole) (TP X pins σ Q) X.xe s
theorem PW.pt {X : Cx} {e : Expr} {t : TT} (h : PW X e t) : PT X e t := h _
def PA (X : Cx) (es : List Expr) (t : TA) : Prop :=
  ∀ (pos : Pos) (pins : List (Addr × Obj)) (s : Shared) (σ : St) (H : Hp) (Q : List V → Hp → Prop), Inv X pins σ H s → t σ H Q → wpAny (model X.prog X.w) X.A (spliced (backTo pos (starEach es X.env))) (AP X pins σ Q) X.xe s
def PS (X : Cx) (st : Stmt) (t : TS) : Prop :=
  ∀ (pins : List (Addr × Obj)) (s : Shared) (σ : St) (H : Hp) (D : Ends), Inv X pins σ H s → t D σ H → wpAny (model X.prog X.w) X.A (exec st X.env) (SP X pins D) X.xe s
def PSs (X : Cx) (st : List Stmt) (t : TS) : Prop :=
  ∀ (pins : List (Addr × Obj)) (s : Shared) (σ : St) (H : Hp) (D : Ends), Inv X pins σ H s → t D σ H → wpAny (model X.prog X.w) X.A (execs st X.env) (SP X pins D) X.xe s
theorem thn {α : Type} {t : Sem α} {Q Q' : α → Shared → Prop} {M : Model} {A : Around} {E : Value → Shared → Prop} {s : Shared} (h : wpAny M A t Q E s) (hQ : ∀ a s, Q a s → Q' a s) : wpAny M A t Q' E s := wpAny_mono h hQ fun _ _ x => x
end L2
namespace L2
open PySem PySem.Spec PyProof.Rows
section
variable {X : Cx}
def tVar (i : Nat) : TE := fun σ H Q => ∃ v, σ[i]? = some (some v) ∧ Q v H
def tC (v : V) : TE := fun _ H Q => Q v H
theorem pe_var {i : Nat} {x : Str} {pos : Pos} (hN : X.N[i]? = some x) (hv : Vis X.env.scope x) (hd : (x == ("__debug__" : Str)) = false := by decide) (hcd : (x == ("__classdict__" : Str)) = false := by decide) : PE X (.Name x pos) (tVar i) := by
  intro pins s σ H Q I h
  obtain ⟨v, e, h⟩ := h
  obtain ⟨m, hn, hl⟩ := I.loc
  obtain ⟨u, r, l⟩ := hl i x v hN e hv
  have fin : EP X pins σ Q u s := ⟨v, H, I, r, h⟩
  rcases l with ⟨hk, hm⟩ | ⟨hk, c, hc, hcell⟩
  · exact wpAny_Name (wpAny_loadName_local I.ok.kind hk hn hm fin) hd
  · rcases hk with hk | hk
    · exact wpAny_Name (wpAny_loadName_cell I.ok.kind hk hc hcell fin) hd
    · exact wpAny_Name (wpAny_loadName_free I.ok.kind hk hc hcell fin hcd) hd
theorem pe_int {i j pos} : PE X (.Constant (.int i) j pos) (tC (.int i)) := fun _ _ _ H _ I h => wpAny_Constant_int ⟨.int i, H, I.tok _, ⟨_, rfl⟩, h⟩
theorem pe_bl {b j pos} : PE X (.Constant (.bool b) j pos) (tC (.bl b)) := fun _ _ _ H _ I h => Constant_bool ⟨.bl b, H, I, rfl, h⟩
theorem pe_non {j pos} : PE X (.Constant .none j pos) (tC .non) := fun _ _ _ H _ I h => Constant_none ⟨.non, H, I, rfl, h⟩
theorem pe_str {x j pos} : PE X (.Constant (.str x) j pos) (tC (.str x)) := fun _ _ _ H _ I h => Calls.Constant_str ⟨.str x, H, I.tok _, ⟨_, rfl⟩, h⟩
def Gl (X : Cx) (x : Str) : Prop := X.env.kindOf x = some .globalImplicit
theorem ld_glob {E : Value → Shared → Prop} {pins : List (Addr × Obj)} {s : Shared} {σ : St} {H : Hp} {x : Str} {u : Value} {pos : Pos} {Q : Value → Shared → Prop} (I : Inv X pins σ H s) (hg : Gl X x) (hm : X.mg x = some u) (h : Q u s)
    (hd : (x == ("__debug__" : Str)) = false := by decide) : wpAny (model X.prog X.w) X.A (eval (.Name x pos) X.env) Q E s :=
  Calls.Name_function_global I.ok.kind hg (Calls.loadGlobal_global (by rw [I.ok.glob]; exact I.mod.glob.keeps I.bk) hm h) hd
theorem ld_blt {E : Value → Shared → Prop} {pins : List (Addr × Obj)} {s : Shared} {σ : St} {H : Hp} {x : Str} {u : Value} {pos : Pos} {Q : Value → Shared → Prop} (I : Inv X pins σ H s) (hg : Gl X x) (hm : X.mg x = none) (hv : bootBuiltins x = some u) (h : Q u s)
    (hn : x ≠ "__name__" := by decide) (hd : (x == ("__debug__" : Str)) = false := by decide) : wpAny (model X.prog X.w) X.A (eval (.Name x pos) X.env) Q E s := by
  obtain ⟨mb, h1, h2⟩ := I.mod.blt
  exact Calls.Name_function_global I.ok.kind hg (Calls.loadGlobal_builtin (by rw [I.ok.glob]; exact I.mod.glob.keeps I.bk) hm (by rw [I.ok.blt]; exact h1.keeps I.bk) ((h2 x hn).trans hv) h) hd
theorem pe_glob {x : Str} {v : V} {u : Value} {pos : Pos} (hg : Gl X x) (hm : X.mg x = some u) (r : RelV v u) (hd : (x == ("__debug__" : Str)) = false := by decide) : PE X (.Name x pos) (tC v) :=
  fun _ _ _ H _ I h => ld_glob I hg hm ⟨v, H, I, r, h⟩ hd
theorem pe_bltn {x : Str} {v : V} {u : Value} {pos : Pos} (hg : Gl X x) (hm : X.mg x = none) (hv : bootBuiltins x = some u) (r : RelV v u) (hn : x ≠ "__name__" := by decide) (hd : (x == ("__debug__" : Str)) = false := by decide) : PE X (.Name x pos) (tC v) :=
  fun _ _ _ H _ I h => ld_blt I hg hm hv ⟨v, H, I, r, h⟩ hn hd
variable {a b : Expr} {ta tb : TE} {pos : Pos}
variable {tA tB' : TT} {rest : List Expr}
def tAnd (t u : TT) : TT := fun σ H Q => t σ H fun c H1 => if c = true then u σ H1 Q else Q false H1
def tOr (t u : TT) : TT := fun σ H Q => t σ H fun c H1 => if c = true then Q true H1 else u σ H1 Q
def tNot (t : TT) : TT := fun σ H Q => t σ H fun c H1 => Q (!c) H1
theorem pw_and1 (ha : PT X a tA) : PW X (.BoolOp .And [a] pos) tA := by
  intro wh pins s σ H Q I h
  refine isTrue_and (thn (ha pins s σ H Q I h) fun c s1 e => ?_)
  cases c with
  | true => exact isTrue_and_nil e
  | false => exact e
theorem pw_or1 (ha : PT X a tA) : PW X (.BoolOp .Or [a] pos) tA := by
  intro wh pins s σ H Q I h
  refine isTrue_or (thn (ha pins s σ H Q I h) fun c s1 e => ?_)
  cases c with
  | false => exact isTrue_or_nil e
  | true => exact e
theorem pw_and (ha : PT X a tA) (hb : PW X (.BoolOp .And (b :: rest) pos) tB') : PW X (.BoolOp .And (a :: b :: rest) pos) (tAnd tA tB') := by
  intro wh pins s σ H Q I h
  refine isTrue_and (thn (ha pins s σ H _ I h) fun c s1 ⟨H1, I1, q1⟩ => ?_)
  cases c with
  | true => exact hb wh pins s1 σ H1 Q I1 q1
  | false => exact ⟨H1, I1, q1⟩
theorem pw_or (ha : PT X a tA) (hb : PW X (.BoolOp .Or (b :: rest) pos) tB') : PW X (.BoolOp .Or (a :: b :: rest) pos) (tOr tA tB') := by
  intro wh pins s σ H Q I h
  refine isTrue_or (thn (ha pins s σ H _ I h) fun c s1 ⟨H1, I1, q1⟩ => ?_)
  cases c with
  | true => exact ⟨H1, I1, q1⟩
  | false => exact hb wh pins s1 σ H1 Q I1 q1
theorem pt_not (ha : PT X a tA) : PT X (.UnaryOp .Not a pos) (tNot tA) := by
  intro pins s σ H Q I h
  exact isTrue_not (ha pins s σ H (fun c H1 => Q (!c) H1) I h)
end
end L2
namespace L2
open PySem PySem.Spec PyProof.Rows
def SqL (K : PySem.W.Frag) (H : Hp) (a : Addr) (xs : List V) : Prop :=
  Rd H a (.lst xs) ∨
    ∃ (o : Obj) (its : Array Value) (n : Nat), K.lookup a = some o ∧ o.cls = .type "list" ∧ o.dict = none ∧ o.data = .seq its n ∧ its.size ≤ sizeLine ∧ Vals xs its.toList
def SqT (K : PySem.W.Frag) (H : Hp) (a : Addr) (xs : List V) : Prop :=
  Rd H a (.tup xs) ∨
    ∃ (o : Obj) (its : Array Value) (n : Nat), K.lookup a = some o ∧ o.cls = .type "tuple" ∧ o.data = .seq its n ∧ its.size ≤ sizeLine ∧ Vals xs its.toList
def absV : Value → Option V
  | .none => some .non
  | .bool b => some (.bl b)
  | .int i _ => some (.int i)
  | .str x _ => some (.str x)
  | .bytes b _ => some (.byt b)
  | .float b _ => some (.flt b)
  | .ref a => some (.ref a)
  | .type n => some (.ty n)
  | _ => none
theorem RelV.abs {x : V} {u : Value} (r : RelV x u) : absV u = some x := by
  cases x with
  | non => cases r; rfl
  | bl _ => cases r; rfl
  | int _ => obtain ⟨t, rfl⟩ := r; rfl
  | str _ => obtain ⟨t, rfl⟩ := r; rfl
  | byt _ => obtain ⟨t, rfl⟩ := r; rfl
  | flt _ => obtain ⟨t, rfl⟩ := r; rfl
  | ref _ => cases r; rfl
  | ty _ => cases r; rfl
theorem RelV.inj {x y : V} {u : Value} (r : RelV x u) (q : RelV y u) : x = y := Option.some.inj (r.abs.symm.trans q.abs)
theorem Vals.inj : ∀ {xs ys : List V} {us : List Value}, Vals xs us → Vals ys us → xs = ys
  | _, _, _, .nil, .nil => rfl
  | _, _, _, .cons r t, .cons r' t' => by rw [r.inj r', Vals.inj t t']
section
variable {X : Cx} {pins : List (Addr × Obj)} {σ : St} {H : Hp} {s : Shared} {a : Addr} {xs ys : List V}
theorem SqL.of {K : PySem.W.Frag} (h : H a = some (.lst xs)) : SqL K H a xs := .inl (.inl h)
theorem SqT.of {K : PySem.W.Frag} (h : H a = some (.tup xs)) : SqT K H a xs := .inl (.inl h)
theorem Inv.list (I : Inv X pins σ H s) (h : SqL X.K H a xs) : ∃ its : List Value, Vals xs its ∧ PlainL s.heap a its.toArray ∧ xs.length ≤ sizeLine := by
  rcases h with h | ⟨o, its, n, hk, hc, hd, hs, hz, r⟩
  · obtain ⟨z, its, n, r, e⟩ := h.ok I.hok
    exact ⟨its, r, ⟨_, n, e, rfl, rfl, rfl⟩, z⟩
  · refine ⟨its.toList, r, ⟨o, n, I.kIn a o hk, hc, hd, by simpa using hs⟩, ?_⟩
    have e := r.length
    simp only [Array.length_toList] at e
    omega
theorem Inv.tuple (I : Inv X pins σ H s) (h : SqT X.K H a xs) : ∃ its : List Value, Vals xs its ∧ IsTup s.heap a its.toArray ∧ xs.length ≤ sizeLine := by
  rcases h with h | ⟨o, its, n, hk, hc, hs, hz, r⟩
  · obtain ⟨z, its, n, r, p⟩ := h.ok I.hok
    exact ⟨its, r, ⟨_, p, rfl, n, rfl⟩, z⟩
  · refine ⟨its.toList, r, ⟨o, I.kIn a o hk, hc, n, by simpa using hs⟩, ?_⟩
    have e := r.length
    simp only [Array.length_toList] at e
    omega
theorem Inv.list_inj (I : Inv X pins σ H s) (h : SqL X.K H a xs) (h' : SqL X.K H a ys) : xs = ys := by
  obtain ⟨its, r, ⟨o, n, e, _, _, d⟩, _⟩ := I.list h
  obtain ⟨its', r', ⟨o', n', e', _, _, d'⟩, _⟩ := I.list h'
  rw [e] at e'; cases e'
  rw [d] at d'
  injection d' with d1 _
  have : its = its' := by simpa using congrArg Array.toList d1
  subst this
  exact r.inj r'
theorem Inv.tuple_inj (I : Inv X pins σ H s) (h : SqT X.K H a xs) (h' : SqT X.K H a ys) : xs = ys := by
  obtain ⟨its, r, ⟨o, e, _, n, d⟩, _⟩ := I.tuple h
  obtain ⟨its', r', ⟨o', e', _, n', d'⟩, _⟩ := I.tuple h'
  rw [e] at e'; cases e'
  rw [d] at d'
  injection d' with d1 _
  have : its = its' := by simpa using congrArg Array.toList d1
  subst this
  exact r.inj r'
end
abbrev Cx.wish (X : Cx) (E : Value → Shared → Prop) : Cx := { X with xe := E }
abbrev Cx.nox (X : Cx) : Cx := X.wish fun _ _ => False
theorem Cx.Ok.wish {X : Cx} (ok : X.Ok) (E : Value → Shared → Prop) : (X.wish E).Ok :=
  ⟨ok.mod, ok.kind, ok.glob, ok.blt, ok.above, ok.inj, ok.has, ok.cab, ok.hd, ok.frames, ok.stk, ok.exf, ok.bs, ok.bsz, ok.noex, ok.exfs, ok.funs, ok.frf⟩
theorem Cx.Ok.unwish {X : Cx} {E : Value → Shared → Prop} (ok : (X.wish E).Ok) : X.Ok :=
  ⟨ok.mod, ok.kind, ok.glob, ok.blt, ok.above, ok.inj, ok.has, ok.cab, ok.hd, ok.frames, ok.stk, ok.exf, ok.bs, ok.bsz, ok.noex, ok.exfs, ok.funs, ok.frf⟩
section
variable {X : Cx} {pins : List (Addr × Obj)} {σ : St} {H : Hp} {s : Shared} {E : Value → Shared → Prop}
theorem Inv.wish (I : Inv X pins σ H s) (E : Value → Shared → Prop) : Inv (X.wish E) pins σ H s := ⟨I.ok.wish E, I.os, I.bare, I.base, I.loc, I.cell, I.free, I.freeC, I.pin, I.hok, I.len⟩
theorem Inv.unwish (I : Inv (X.wish E) pins σ H s) : Inv X pins σ H s := ⟨I.ok.unwish, I.os, I.bare, I.base, I.loc, I.cell, I.free, I.freeC, I.pin, I.hok, I.len⟩
theorem SP.unwish {D : Ends} {f : Flow} {s' : Shared} (h : SP (X.wish E) pins D f s') : SP X pins D f s' := by
  cases f with
  | next => obtain ⟨σ', H', I, q⟩ := h; exact ⟨σ', H', I.unwish, q⟩
  | brk => obtain ⟨σ', H', I, q⟩ := h; exact ⟨σ', H', I.unwish, q⟩
  | cont => obtain ⟨σ', H', I, q⟩ := h; exact ⟨σ', H', I.unwish, q⟩
  | ret u => obtain ⟨v, σ', H', I, r, q⟩ := h; exact ⟨v, σ', H', I.unwish, r, q⟩
theorem PSs.nox {st : List Stmt} {t : TS} (h : PSs X.nox st t) : PSs X st t := fun pins s σ H D I hw =>
  wpAny_mono (h pins s σ H D (I.wish _) hw) (fun _ _ q => q.unwish) fun _ _ z => False.elim z
end
section
variable {X : Cx} {st : Stmt} {rest : List Stmt} {t u : TS} {e : Expr} {te : TE} {pos : Pos}
def tNext : TS := fun D σ H => D.nx σ H
def tSeq (t u : TS) : TS := fun D σ H => t { D with nx := u D } σ H
theorem pss_nil : PSs X [] tNext := fun _ _ σ H _ I h => wpAny_execs_nil ⟨σ, H, I, h⟩
theorem pss_cons (h1 : PS X st t) (h2 : PSs X rest u) : PSs X (st :: rest) (tSeq t u) := by
  intro pins s σ H D I h
  refine wpAny_execs_cons (thn (h1 pins s σ H { D with nx := u D } I h) fun f s1 q => ?_)
  cases f with
  | next =>
    obtain ⟨σ', H', I', q⟩ := q
    exact h2 pins s1 σ' H' D I' q
  | ret v => exact q
  | brk => exact q
  | cont => exact q
theorem pss_one (h1 : PS X st t) : PSs X [st] t := by
  intro pins s σ H D I h
  refine wpAny_execs_cons (thn (h1 pins s σ H D I h) fun f s1 q => ?_)
  cases f with
  | next => exact wpAny_execs_nil q
  | ret v => exact q
  | brk => exact q
  | cont => exact q
theorem Inv.quiet {pins : List (Addr × Obj)} {σ : St} {H : Hp} {s : Shared} (I : Inv X pins σ H s) : interactive X.env = false := by simp [interactive, I.ok.kind]
def tDrop (te : TE) : TS := fun D σ H => te σ H fun _ H1 => D.nx σ H1
theorem ps_expr (he : PE X e te) (hs : swapsWith e none pos.line X.env = pure false := by rfl) : PS X (.Expr e pos) (tDrop te) := by
  intro pins s σ H D I h
  exact wpAny_Expr_any (thn (he pins s σ H _ I h) fun v s1 ⟨x, H1, I1, r1, q1⟩ => ⟨σ, H1, I1, q1⟩) I.quiet hs
def tRet (te : TE) : TS := fun D σ H => te σ H D.rt
theorem ps_ret (he : PE X e te) : PS X (.Return (some e) pos) (tRet te) := by
  intro pins s σ H D I h
  exact wpAny_Return_some (thn (he pins s σ H _ I h) fun v s1 ⟨x, H1, I1, r1, q1⟩ => ⟨x, σ, H1, I1, r1, q1⟩)
def tIfS (c : TT) (t u : TS) : TS := fun D σ H => c σ H fun b H1 => if b = true then t D σ H1 else u D σ H1
theorem ps_if {c : Expr} {a b : List Stmt} {tc : TT} (hc : PT X c tc) (ha : PSs X a t) (hb : PSs X b u) : PS X (.If c a b pos) (tIfS tc t u) := by
  intro pins s σ H D I h
  refine wpAny_If (thn (hc pins s σ H _ I h) fun d s1 ⟨H1, I1, q1⟩ => ?_)
  cases d with
  | true => exact ha pins s1 σ H1 D I1 q1
  | false => exact hb pins s1 σ H1 D I1 q1
end
abbrev TG := V → St → Hp → (St → Hp → Prop) → Prop
abbrev TGs := List V → St → Hp → (St → Hp → Prop) → Prop
def PG (X : Cx) (target : Expr) (t : TG) : Prop :=
  ∀ (pins : List (Addr × Obj)) (s : Shared) (σ : St) (H : Hp) (v : V) (u : Value) (Q : St → Hp → Prop), Inv X pins σ H s → RelV v u → t v σ H Q →
    wpAny (model X.prog X.w) X.A (assign target X.env u) (fun _ s' => ∃ σ' H', Inv X pins σ' H' s' ∧ Q σ' H') X.xe s
def PGs (X : Cx) (ts : List Expr) (t : TGs) : Prop :=
  ∀ (pins : List (Addr × Obj)) (s : Shared) (σ : St) (H : Hp) (vs : List V) (us : List Value) (Q : St → Hp → Prop), Inv X pins σ H s → Vals vs us → t vs σ H Q →
    wpAny (model X.prog X.w) X.A (assignInOrder ((assignEach ts X.env).map (·.2)) us) (fun _ s' => ∃ σ' H', Inv X pins σ' H' s' ∧ Q σ' H') X.xe s
abbrev TSet := V → V → V → Hp → (Hp → Prop) → Prop
def PSet (X : Cx) (t : TSet) : Prop :=
  ∀ (pins : List (Addr × Obj)) (s : Shared) (σ : St) (H : Hp) (o i v : V) (ov iv u : Value) (Q : Hp → Prop), Inv X pins σ H s → RelV o ov → RelV i iv → RelV v u → t o i v H Q →
    wpAny (model X.prog X.w) X.A (setItem ov iv u) (fun _ s' => ∃ H', Inv X pins σ H' s' ∧ Q H') X.xe s
section
variable {X : Cx} {pos : Pos}
def gName (i : Nat) : TG := fun v σ H Q => Q (σ.set i (some v)) H
theorem pg_name {i : Nat} {x : Str} (hN : X.N.Nodup) (hi : X.N[i]? = some x) (hx : Loc X.env.scope x) (hf : X.fn x = true ∨ X.env.scope.names.lookup x = some .local := by first | exact .inl rfl | exact .inr rfl | assumption) : PG X (.Name x pos) (gName i) := by
  intro pins s σ H v u Q I r h
  exact wpAny_assign_Name (store_ok I hN hi hx r (fun s' I' => ⟨_, H, I', h⟩) hf)
def gNil : TGs := fun vs σ H Q => vs = [] ∧ Q σ H
def gCons (t : TG) (u : TGs) : TGs := fun vs σ H Q => ∃ v r, vs = v :: r ∧ t v σ H fun σ' H' => u r σ' H' Q
theorem pgs_nil : PGs X [] gNil := by
  intro pins s σ H vs us Q I r h
  obtain ⟨e, h⟩ := h
  subst e
  cases r
  exact assignInOrder_nil ⟨σ, H, I, h⟩
theorem pgs_cons {e : Expr} {es : List Expr} {t : TG} {u : TGs} (h1 : PG X e t) (h2 : PGs X es u)
    (hs : (assignEach (e :: es) X.env).map (·.2) = assign e X.env :: (assignEach es X.env).map (·.2) := by rfl) : PGs X (e :: es) (gCons t u) := by
  intro pins s σ H vs us Q I r h
  obtain ⟨v, vr, e1, h⟩ := h
  subst e1
  cases r with
  | cons r rr =>
    rw [hs]
    refine assignInOrder_cons (thn (h1 pins s σ H _ _ _ I r h) fun _ s1 ⟨σ1, H1, I1, q1⟩ => ?_)
    exact h2 pins s1 σ1 H1 _ _ Q I1 rr q1
def gTup (K : PySem.W.Frag) (n : Nat) (t : TGs) : TG := fun v σ H Q => ∃ a xs, v = .ref a ∧ SqT K H a xs ∧ xs.length = n ∧ t xs σ H Q
theorem pg_tup {es : List Expr} {k : Nat} {t : TGs} {n : Nat} (hc : X.calm = true) (h : PGs X es t)
    (hn : (assignEach es X.env).length = n := by rfl) (hst : (assignEach es X.env).findIdx? (·.1) = none := by rfl) : PG X (.Tuple es k pos) (gTup X.K n t) := by
  intro pins s σ H v u Q I r hw
  obtain ⟨a, xs, e1, hq, hl, hw⟩ := hw
  subst e1
  cases r
  obtain ⟨its, rv, ht, hz⟩ := I.tuple hq
  refine assign_Tuple_tuple (I.ok.hd hc) ht (by simp [hn, ← hl, rv.length]) hst fun h' hx => ?_
  have I1 : Inv X pins σ H { s with heap := h' } := I.kept (t' := s.toks) fun b o e => hx b o (Nat.ne_of_lt (Heap.lt_size e)) e
  exact h pins _ σ H xs _ Q I1 (by simpa using rv) hw
def gSub (to ti : TE) (t : TSet) : TG := fun v σ H Q => to σ H fun o H1 => ti σ H1 fun i H2 => t o i v H2 fun H3 => Q σ H3
theorem pg_sub {o i : Expr} {to ti : TE} {t : TSet} (ho : PE X o to) (hi : PE X i ti) (hs : PSet X t)
    (ha : ∀ v, assign (.Subscript o i pos) X.env v = (do
      let ov ← holding [v] (eval o X.env)
      let iv ← holding [v, ov] (eval i X.env)
      standAt pos
      holding [v, ov, iv] (setItem ov iv v)
      release [v, ov, iv] []) := by intro _; rfl) : PG X (.Subscript o i pos) (gSub to ti t) := by
  intro pins s σ H v u Q I r h
  rw [ha]
  refine wpAny_bind (wpAny_holding (thn (ho pins s σ H _ I h) fun ov s1 ⟨x, H1, I1, r1, q1⟩ => ?_))
  refine wpAny_bind (wpAny_holding (thn (hi pins s1 σ H1 _ I1 q1) fun iv s2 ⟨y, H2, I2, r2, q2⟩ => ?_))
  refine wpAny_bind (wpAny_standAt (wpAny_bind (wpAny_holding (thn (hs pins s2 σ H2 x y v ov iv u _ I2 r1 r2 r q2) fun _ s3 ⟨H3, I3, q3⟩ => ?_))))
  exact wpAny_release ⟨σ, H3, I3, q3⟩
def tAsg (te : TE) (g : TG) : TS := fun D σ H => te σ H fun x H1 => g x σ H1 D.nx
theorem ps_asg {tg e : Expr} {te : TE} {g : TG} (he : PE X e te) (hg : PG X tg g) (hs : swapsWithSole [tg] e pos.line X.env = pure false := by rfl) (hw : swappedStores [tg] e X.env = pure none := by rfl)
    (h1 : (assignEach [tg] X.env).map (·.2) = [assign tg X.env] := by rfl) : PS X (.Assign [tg] e pos) (tAsg te g) := by
  intro pins s σ H D I h
  refine wpAny_Assign_stores (thn (he pins s σ H _ I h) fun v s1 ⟨x, H1, I1, r1, q1⟩ => ?_) hs hw
  rw [h1]
  exact thn (hg pins s1 σ H1 x v _ I1 r1 q1) fun _ s2 q => q
theorem ps_set {i : Nat} {x : Str} {e : Expr} {te : TE} {pos' : Pos} (hN : X.N.Nodup) (hi : X.N[i]? = some x) (hx : Loc X.env.scope x) (he : PE X e te) (hs : swapsWith e (some (.Name x pos')) pos.line X.env = pure false := by rfl) (hf : X.fn x = true ∨ X.env.scope.names.lookup x = some .local := by first | exact .inl rfl | exact .inr rfl | assumption) :
    PS X (.Assign [.Name x pos'] e pos) (tAsg te (gName i)) := by
  intro pins s σ H D I h
  refine wpAny_Assign_Name (thn (he pins s σ H _ I h) fun v s1 ⟨y, H1, I1, r1, q1⟩ => ?_) hs
  exact store_ok I1 hN hi hx r1 (fun s2 I2 => ⟨_, H1, I2, q1⟩) hf
end
section
variable {X : Cx} {pos : Pos}
def tWhile (c : TT) (tb : TS) : TS := fun D σ H => ∃ W : Nat → St → Hp → Prop, (∃ m, W m σ H) ∧ ∀ m σ H, W m σ H →
  c σ H fun b H1 => if b = true then ∃ N : St → Hp → Prop, (∀ σ' H', N σ' H' → ∃ m', m' < m ∧ W m' σ' H') ∧ tb { D with nx := N, ct := N, bk := D.nx } σ H1 else D.nx σ H1
theorem ps_while {c : Expr} {body : List Stmt} {tc : TT} {tb : TS} (hp : PassesOwn (model X.prog X.w) X.A X.env X.xe) (hc : PT X c tc) (hb : PSs X body tb) : PS X (.While c body [] pos) (tWhile tc tb) := by
  intro pins s σ H D I h
  obtain ⟨W, ⟨m0, w0⟩, turn⟩ := h
  refine wpAny_While (codeAny_whileLoop (fun n s' => ∃ σ' H', Inv X pins σ' H' s' ∧ W n σ' H') ?_ m0 ⟨σ, H, I, w0⟩)
  rintro n s1 ⟨σ1, H1, I1, w1⟩
  refine wpAny_passesOwn hp (thn (hc pins s1 σ1 H1 _ I1 (turn n σ1 H1 w1)) fun b s2 ⟨H2, I2, q2⟩ => ?_)
  cases b with
  | true =>
    obtain ⟨N, hN, q2⟩ := q2
    rw [if_pos rfl]
    refine wpAny_passesOwn hp (thn (hb pins s2 σ1 H2 _ I2 q2) fun f s3 q3 => ?_)
    cases f with
    | next =>
      obtain ⟨σ3, H3, I3, n3⟩ := q3
      obtain ⟨m', hm, w3⟩ := hN σ3 H3 n3
      exact ⟨m', hm, σ3, H3, I3, w3⟩
    | cont =>
      obtain ⟨σ3, H3, I3, n3⟩ := q3
      obtain ⟨m', hm, w3⟩ := hN σ3 H3 n3
      exact ⟨m', hm, σ3, H3, I3, w3⟩
    | brk => exact q3
    | ret v => exact q3
  | false =>
    rw [if_neg Bool.false_ne_true]
    exact wpAny_execs_nil ⟨σ1, H2, I2, q2⟩
end
structure It where
  go : Nat → Hp → Prop
  yld : Nat → Hp → V → Hp → Prop
  stop : Nat → Hp → Prop
def FpOk (X : Cx) (pins : List (Addr × Obj)) (H : Hp) (b : Addr) : Prop :=
  H b = none ∧ b ≠ X.env.locals ∧ b ∉ X.fs ∧ (b ∈ X.ex ∨ X.s₀.heap.objs.size ≤ b) ∧ (∀ x c, X.env.cells.lookup x = some c → c ≠ b) ∧ ∀ p ∈ X.pn ++ pins, p.1 ≠ b
theorem Inv.fpOk {X : Cx} {pins : List (Addr × Obj)} {σ : St} {H H' : Hp} {s : Shared} {b : Addr} (I : Inv X pins σ H s) (hb : s.heap.objs.size ≤ b) (hn : H' b = none) : FpOk X pins H' b := by
  refine ⟨hn, Nat.ne_of_gt (Nat.lt_of_lt_of_le I.lt hb), I.nofs hb, .inr (Nat.le_trans I.sz hb), fun x c e z => ?_, fun p hp z => ?_⟩
  · obtain ⟨v, q⟩ := I.cell x c e
    exact absurd (Nat.lt_of_lt_of_le q.lt (by rw [z]; exact hb)) (Nat.lt_irrefl _)
  · exact absurd (Nat.lt_of_lt_of_le (Heap.lt_size (I.pin p hp).1) (by rw [z]; exact hb)) (Nat.lt_irrefl _)
structure Turn (P : Program) (w : World) (K : PySem.W.Frag) (tg : Expr) (J : It) (fp : List Addr) (it : Addr) (tn : Nat → Heap → Prop) : Prop where
  mem : it ∈ fp
  obj : ∀ i h, tn i h → ∀ b ∈ fp, ∃ o, h.get? b = some o ∧ ∀ v, o.data ≠ .cell v
  keep : ∀ i h h', tn i h → (∀ b ∈ fp, ∀ o, h.get? b = some o → h'.get? b = some o) → tn i h'
  item : ∀ (X : Cx), X.prog = P → X.w = w → X.K = K → X.calm = true → ∀ (i : Nat) (pins : List (Addr × Obj)) (s : Shared) (σ : St) (H : Hp) (E : Value → Shared → Prop), Inv X pins σ H s → (∀ b ∈ fp, FpOk X pins H b) → tn i s.heap → J.go i H →
    wpAny (model P w) X.A (pyNext (.ref it)) (fun r s1 => ∃ u, r = some u ∧
      wpAny (model P w) X.A (letOwnedTupleGo tg (.ref it) u) (fun _ s2 => ∃ x H', Inv X pins σ H' s2 ∧ RelV x u ∧ J.yld i H x H' ∧ tn (i + 1) s2.heap ∧ ∀ b ∈ fp, H' b = none) E s1) E s
  done : ∀ (X : Cx), X.prog = P → X.w = w → X.K = K → X.calm = true → ∀ (i : Nat) (pins : List (Addr × Obj)) (s : Shared) (σ : St) (H : Hp) (E : Value → Shared → Prop), Inv X pins σ H s → (∀ b ∈ fp, FpOk X pins H b) → tn i s.heap → J.stop i H →
    wpAny (model P w) X.A (pyNext (.ref it)) (fun r s1 => r = none ∧ Inv X pins σ H s1) E s
  self : ∀ (A : Around) (i : Nat) (s : Shared) (Q : Value → Shared → Prop) (E : Value → Shared → Prop), tn i s.heap → Q (.ref it) s → wpAny (model P w) A (pyIter (.ref it)) Q E s
abbrev TI := St → Hp → (It → Hp → Prop) → Prop
def PIE (X : Cx) (pins : List (Addr × Obj)) (σ : St) (tg : Expr) (R : It → Hp → Prop) (itv : Value) (s2 : Shared) : Prop :=
  ∃ (it : Addr) (fp : List Addr) (tn : Nat → Heap → Prop) (J : It) (H' : Hp), itv = .ref it ∧ Inv X pins σ H' s2 ∧ Turn X.prog X.w X.K tg J fp it tn ∧ tn 0 s2.heap ∧ (∀ b ∈ fp, FpOk X pins H' b) ∧ R J H'
def PI (X : Cx) (tg iter : Expr) (wi : TI) : Prop :=
  ∀ (pins : List (Addr × Obj)) (s : Shared) (σ : St) (H : Hp) (R : It → Hp → Prop), Inv X pins σ H s → wi σ H R →
    wpAny (model X.prog X.w) X.A (eval iter X.env) (fun v s1 => wpAny (model X.prog X.w) X.A (pyIter v) (PIE X pins σ tg R) X.xe s1) X.xe s
theorem go_of {M : Model} {A : Around} {E : Value → Shared → Prop} {s : Shared} {tg : Expr} {it : Addr} {u : Value} {o : Obj} {n : String} {vs : Array Value} {Q : Unit → Shared → Prop} (ho : s.heap.get? it = some o) (hc : o.cls = .type n) (hd : o.data = .fields vs)
    (hn : ["enumerate", "zip", "dict_itemiterator", "dict_reverseitemiterator", "odict_iterator", "itertools.zip_longest", "itertools.pairwise"].contains n = false) (hQ : Q () s) : wpAny M A (letOwnedTupleGo tg (.ref it) u) Q E s := by
  unfold letOwnedTupleGo
  cases tg <;> first
    | exact wpAny_pure hQ
    | (cases u <;> first
        | exact wpAny_pure hQ
        | (refine wpAny_bind (wpAny_load ho ?_)
           rw [hc, hd]
           show wpAny M A (if (["enumerate", "zip", "dict_itemiterator", "dict_reverseitemiterator", "odict_iterator", "itertools.zip_longest", "itertools.pairwise"].contains n && vs[0]? == some (rawInt _)) = true then _ else _) Q E s
           rw [if_neg (by intro h; rw [hn, Bool.false_and] at h; cases h)]
           exact wpAny_pure hQ))
def Itl (K : PySem.W.Frag) (a : Addr) : It :=
  ⟨fun i H => ∃ xs x, SqL K H a xs ∧ xs[i]? = some x, fun i H x H' => H' = H ∧ ∀ xs, SqL K H a xs → xs[i]? = some x, fun i H => ∃ xs, SqL K H a xs ∧ xs.length ≤ i⟩
def Itt (K : PySem.W.Frag) (a : Addr) : It :=
  ⟨fun i H => ∃ xs x, SqT K H a xs ∧ xs[i]? = some x, fun i H x H' => H' = H ∧ ∀ xs, SqT K H a xs → xs[i]? = some x, fun i H => ∃ xs, SqT K H a xs ∧ xs.length ≤ i⟩
def Itr (lo : Int) (n : Nat) : It := ⟨fun i _ => i < n, fun i H x H' => H' = H ∧ x = .int (lo + i), fun i _ => n ≤ i⟩
theorem turn_list {P : Program} {w : World} {K : PySem.W.Frag} {tg : Expr} (a it : Addr) : Turn P w K tg (Itl K a) [it] it (fun i h => h.IsListIter it a i) where
  mem := by simp
  obj := fun i h st b hb => by
    have e : b = it := by simpa using hb
    subst e
    obtain ⟨o, e, c, d⟩ := st
    exact ⟨o, e, fun v z => by rw [d] at z; cases z⟩
  keep := fun i h h' st k => st.at fun o e => k it (by simp) o e
  item := by
    intro X hP hw hK hc i pins s σ H E I hf st hg
    subst hP hw hK
    obtain ⟨xs, x, hq, hx⟩ := hg
    obtain ⟨its, rv, p, hz⟩ := I.list hq
    obtain ⟨u, hu, ru⟩ := rv.get hx
    obtain ⟨f0, f1, f2, f3, f4, f5⟩ := hf it (by simp)
    refine wpAny_pyNext_list_item st p.isList (x := u) (by simpa using hu) fun h' st' sb => ?_
    have I1 : Inv X pins σ H { s with heap := h' } := I.turned (t' := s.toks) (fun b o hb e => (sb.2 b hb).trans e) f0 f1 f3 f4 f5
    obtain ⟨o, e, c, d⟩ := id st'
    exact ⟨u, rfl, go_of (s := { s with heap := h' }) e c d (by decide) ⟨x, H, I1, ru, ⟨rfl, fun ys hy => by rw [I.list_inj hy hq]; exact hx⟩, st', fun b hb => (hf b hb).1⟩⟩
  done := by
    intro X hP hw hK hc i pins s σ H E I hf st hg
    subst hP hw hK
    obtain ⟨xs, hq, hx⟩ := hg
    obtain ⟨its, rv, p, hz⟩ := I.list hq
    obtain ⟨f0, f1, f2, f3, f4, f5⟩ := hf it (by simp)
    have hl := rv.length
    exact wpAny_pyNext_list_end (I.ok.hd hc) st p.isList (by simp; omega) fun h' eb => ⟨rfl, I.turned (t' := s.toks) (fun b o hb e => eb b o hb e) f0 f1 f3 f4 f5⟩
  self := fun _ _ _ _ _ st h => wpAny_pyIter_listiter st h
theorem turn_tuple {P : Program} {w : World} {K : PySem.W.Frag} {tg : Expr} (a it : Addr) : Turn P w K tg (Itt K a) [it] it (fun i h => h.IsTupleIter it a i) where
  mem := by simp
  obj := fun i h st b hb => by
    have e : b = it := by simpa using hb
    subst e
    obtain ⟨o, e, c, d⟩ := st
    exact ⟨o, e, fun v z => by rw [d] at z; cases z⟩
  keep := fun i h h' st k => st.at fun o e => k it (by simp) o e
  item := by
    intro X hP hw hK hc i pins s σ H E I hf st hg
    subst hP hw hK
    obtain ⟨xs, x, hq, hx⟩ := hg
    obtain ⟨its, rv, p, hz⟩ := I.tuple hq
    obtain ⟨u, hu, ru⟩ := rv.get hx
    obtain ⟨f0, f1, f2, f3, f4, f5⟩ := hf it (by simp)
    refine wpAny_pyNext_tuple_item st (show s.heap.IsTuple a its.toArray from p) (x := u) (by simpa using hu) fun h' st' sb => ?_
    have I1 : Inv X pins σ H { s with heap := h' } := I.turned (t' := s.toks) (fun b o hb e => (sb.2 b hb).trans e) f0 f1 f3 f4 f5
    obtain ⟨o, e, c, d⟩ := id st'
    exact ⟨u, rfl, go_of (s := { s with heap := h' }) e c d (by decide) ⟨x, H, I1, ru, ⟨rfl, fun ys hy => by rw [I.tuple_inj hy hq]; exact hx⟩, st', fun b hb => (hf b hb).1⟩⟩
  done := by
    intro X hP hw hK hc i pins s σ H E I hf st hg
    subst hP hw hK
    obtain ⟨xs, hq, hx⟩ := hg
    obtain ⟨its, rv, p, hz⟩ := I.tuple hq
    obtain ⟨f0, f1, f2, f3, f4, f5⟩ := hf it (by simp)
    have hl := rv.length
    exact wpAny_pyNext_tuple_end (I.ok.hd hc) st (show s.heap.IsTuple a its.toArray from p) (by simp; omega) fun h' eb => ⟨rfl, I.turned (t' := s.toks) (fun b o hb e => eb b o hb e) f0 f1 f3 f4 f5⟩
  self := fun _ _ _ _ _ st h => wpAny_pyIter_tupleiter st h
theorem turn_range {P : Program} {w : World} {K : PySem.W.Frag} {tg : Expr} (it : Addr) (lo : Int) (n : Nat) : Turn P w K tg (Itr lo n) [it] it (fun i h => IsRangeIter h it (lo + (i : Nat) * 1) ((n : Int) - (i : Nat)) 1) where
  mem := by simp
  obj := fun i h st b hb => by
    have e : b = it := by simpa using hb
    subst e
    exact ⟨_, st, fun v z => by
      have z' : Data.fields _ = Data.cell v := z
      cases z'⟩
  keep := fun i h h' st k => k it (by simp) _ st
  item := by
    intro X hP hw hK hc i pins s σ H E I hf st hg
    subst hP hw hK
    obtain ⟨f0, f1, f2, f3, f4, f5⟩ := hf it (by simp)
    have W := Walks.range (prog := X.prog) (w := X.w) (I.ok.hd hc) it lo 1 n
    refine W.item i s _ _ hg st fun v h' tk hv st' kk => ?_
    obtain ⟨t, rfl⟩ := hv
    have I1 : Inv X pins σ H { s with heap := h', toks := tk } := I.turned (fun b o hb e => kk b o (by simpa using hb) e) f0 f1 f3 f4 f5
    refine ⟨_, rfl, go_of (s := { s with heap := h', toks := tk }) (n := "range_iterator") st' rfl rfl (by decide) ⟨.int (lo + i), H, I1, ⟨t, ?_⟩, ⟨rfl, rfl⟩, st', fun b hb => (hf b hb).1⟩⟩
    rw [Int.mul_one]
  done := by
    intro X hP hw hK hc i pins s σ H E I hf st hg
    subst hP hw hK
    obtain ⟨f0, f1, f2, f3, f4, f5⟩ := hf it (by simp)
    exact wpAny_pyNext_range_end (I.ok.hd hc) st (by have : n ≤ i := hg; omega) fun h' eb => ⟨rfl, I.turned (t' := s.toks) (fun b o hb e => eb b o hb e) f0 f1 f3 f4 f5⟩
  self := fun _ _ _ _ _ st h => wpAny_pyIter_rangeiter st h
end L2
namespace L2
open PySem PySem.Spec PyProof.Rows
section
variable {X : Cx} {tg : Expr}
def iList (K : PySem.W.Frag) (tl : TE) : TI := fun σ H R => tl σ H fun x H1 => ∃ a, x = .ref a ∧ (∃ xs, SqL K H1 a xs) ∧ R (Itl K a) H1
def iTup (K : PySem.W.Frag) (tl : TE) : TI := fun σ H R => tl σ H fun x H1 => ∃ a, x = .ref a ∧ (∃ xs, SqT K H1 a xs) ∧ R (Itt K a) H1
theorem pi_list {l : Expr} {tl : TE} (hl : PE X l tl) : PI X tg l (iList X.K tl) := by
  intro pins s σ H R I h
  refine thn (hl pins s σ H _ I h) fun v s1 ⟨x, H1, I1, r1, q1⟩ => ?_
  obtain ⟨a, e, ⟨xs, hq⟩, q⟩ := q1
  subst e
  cases r1
  obtain ⟨its, rv, p, hz⟩ := I1.list hq
  refine wpAny_pyIter_list p.isList ?_
  refine ⟨s1.heap.objs.size, [s1.heap.objs.size], _, _, H1, rfl, I1.kept (t' := s1.toks) fun b o e => Heap.get?_push_of_some _ e, turn_list a _, ⟨_, Heap.get?_push_size _ rfl, rfl, rfl⟩, fun b hb => ?_, q⟩
  have e : b = s1.heap.objs.size := by simpa using hb
  subst e
  exact I1.fpOk (Nat.le_refl _) (I1.hok.fresh (Nat.le_refl _))
theorem pi_tup {l : Expr} {tl : TE} (hl : PE X l tl) : PI X tg l (iTup X.K tl) := by
  intro pins s σ H R I h
  refine thn (hl pins s σ H _ I h) fun v s1 ⟨x, H1, I1, r1, q1⟩ => ?_
  obtain ⟨a, e, ⟨xs, hq⟩, q⟩ := q1
  subst e
  cases r1
  obtain ⟨its, rv, p, hz⟩ := I1.tuple hq
  refine wpAny_pyIter_tuple (show s1.heap.IsTuple a its.toArray from p) ?_
  refine ⟨s1.heap.objs.size, [s1.heap.objs.size], _, _, H1, rfl, I1.kept (t' := s1.toks) fun b o e => Heap.get?_push_of_some _ e, turn_tuple a _, ⟨_, Heap.get?_push_size _ rfl, rfl, rfl⟩, fun b hb => ?_, q⟩
  have e : b = s1.heap.objs.size := by simpa using hb
  subst e
  exact I1.fpOk (Nat.le_refl _) (I1.hok.fresh (Nat.le_refl _))
theorem range_it {pins : List (Addr × Obj)} {σ : St} {H : Hp} {s : Shared} {R : It → Hp → Prop} {E : Value → Shared → Prop} {lo hi : Int} {t u v : Tok} {tk : Nat} (I : Inv X pins σ H s) (h1 : -(2 ^ 62) ≤ lo) (h2 : lo < 2 ^ 62) (h3 : -(2 ^ 62) ≤ hi) (h4 : hi < 2 ^ 62)
    (q : R (Itr lo (hi - lo).toNat) H) : wpAny (model X.prog X.w) X.A (pyIter (.ref s.heap.objs.size)) (PIE X pins σ tg R) E { s with heap := s.heap.push { cls := .type "range", data := .fields #[.int lo t, .int hi u, .int 1 v] }, toks := tk } := by
  refine wpAny_pyIter_range (IsRange.new ..) (small_one h1 h2 h3 h4) ?_
  have I1 : Inv X pins σ H { s with heap := s.heap.push { cls := .type "range", data := .fields #[.int lo t, .int hi u, .int 1 v] }, toks := tk } := I.kept fun b o e => Heap.get?_push_of_some _ e
  refine ⟨(s.heap.push { cls := .type "range", data := .fields #[.int lo t, .int hi u, .int 1 v] }).objs.size, [(s.heap.push { cls := .type "range", data := .fields #[.int lo t, .int hi u, .int 1 v] }).objs.size], _, _, H, rfl,
    I1.kept (t' := tk) fun b o e => Heap.get?_push_of_some _ e, turn_range _ lo (hi - lo).toNat, ?_, fun b hb => ?_, q⟩
  · have e1 : lo + ((0 : Nat) : Int) * 1 = lo := by simp
    have e2 : (((hi - lo).toNat : Nat) : Int) - ((0 : Nat) : Int) = Builtin.Range.rangeSize lo hi 1 := by rw [rangeSize_one]; split <;> omega
    show IsRangeIter _ _ (lo + ((0 : Nat) : Int) * 1) ((((hi - lo).toNat : Nat) : Int) - ((0 : Nat) : Int)) 1
    rw [e1, e2]
    exact Heap.get?_push_size _ rfl
  · have e : b = (s.heap.push { cls := .type "range", data := .fields #[.int lo t, .int hi u, .int 1 v] }).objs.size := by simpa using hb
    subst e
    exact I1.fpOk (Nat.le_refl _) (I1.hok.fresh (Nat.le_refl _))
def iRng1 (ta : TA) : TI := fun σ H R => ta σ H fun vs H1 => ∃ j : Int, vs = [.int j] ∧ -(2 ^ 62) ≤ j ∧ j < 2 ^ 62 ∧ R (Itr 0 j.toNat) H1
theorem pi_range1 {a : Expr} {ta : TA} {p pos : Pos} (hg : Gl X "range") (hm : X.mg "range" = none) (ha : PA X [a] ta) (hs : starEach [a] X.env = [(false, eval a X.env)] := by rfl) : PI X tg (.Call (.Name "range" p) [a] [] pos) (iRng1 ta) := by
  intro pins s σ H R I h
  refine Call_ (ld_blt I hg hm boot_range (PyProof.Rows.callWith_type1 (thn (ha pos pins s σ H _ I h) fun us s1 ⟨vs, H1, I1, r1, q1⟩ => ?_) hs rfl))
  obtain ⟨j, e, q1, q2, q⟩ := q1
  subst e
  cases r1 with
  | cons r rr =>
    cases rr
    obtain ⟨t, rfl⟩ := r
    exact call_range_1 (range_it I1 (by omega) (by omega) q1 q2 (by simpa using q))
def tFor (wi : TI) (g : TG) (tb : TS) : TS := fun D σ H => wi σ H fun J H1 => ∃ W : Nat → Nat → St → Hp → Prop, (∃ m, W 0 m σ H1) ∧ ∀ i m σ H, W i m σ H →
  (J.stop i H ∧ D.nx σ H) ∨ (J.go i H ∧ ∃ N : St → Hp → Prop, (∀ σ' H', N σ' H' → ∃ m', m' < m ∧ W (i + 1) m' σ' H') ∧ ∀ x H', J.yld i H x H' → g x σ H' fun σ2 H2 => tb { D with nx := N, ct := N, bk := D.nx } σ2 H2)
def pinsAt (fp : List Addr) (h : Heap) : List (Addr × Obj) := fp.filterMap fun b => (h.get? b).map fun o => (b, o)
theorem mem_pinsAt {fp : List Addr} {h : Heap} {b : Addr} {o : Obj} (hb : b ∈ fp) (e : h.get? b = some o) : (b, o) ∈ pinsAt fp h := List.mem_filterMap.mpr ⟨b, hb, by rw [e]; rfl⟩
theorem of_pinsAt {fp : List Addr} {h : Heap} {p : Addr × Obj} (hp : p ∈ pinsAt fp h) : p.1 ∈ fp ∧ h.get? p.1 = some p.2 := by
  obtain ⟨b, hb, e⟩ := List.mem_filterMap.mp hp
  cases q : h.get? b with
  | none => rw [q] at e; cases e
  | some o =>
    rw [q] at e
    have e' : (b, o) = p := Option.some.inj e
    subst e'
    exact ⟨hb, q⟩
theorem Inv.pinned {pins : List (Addr × Obj)} {σ : St} {H : Hp} {s : Shared} {fp : List Addr} (I : Inv X pins σ H s) (hf : ∀ b ∈ fp, FpOk X pins H b) (ho : ∀ b ∈ fp, ∃ o, s.heap.get? b = some o ∧ ∀ v, o.data ≠ .cell v) : Inv X (pins ++ pinsAt fp s.heap) σ H s :=
  I.pins_of fun p hp => (List.mem_append.mp hp).elim (fun z => I.pin p (List.mem_append_right _ z)) fun z => by
    obtain ⟨hb, e⟩ := of_pinsAt z
    obtain ⟨f0, f1, f2, _⟩ := hf p.1 hb
    obtain ⟨o, e', d⟩ := ho p.1 hb
    rw [e] at e'; cases e'
    exact ⟨e, f0, f1, f2, d⟩
theorem Inv.unpinned {pins pl : List (Addr × Obj)} {σ : St} {H : Hp} {s : Shared} (I : Inv X (pins ++ pl) σ H s) : Inv X pins σ H s := I.pins_of fun p hp => I.pin p (List.mem_append_right _ (List.mem_append_left _ hp))
theorem ps_for {iter : Expr} {body : List Stmt} {wi : TI} {g : TG} {tb : TS} {pos : Pos} (hp : PassesOwn (model X.prog X.w) X.A X.env X.xe) (hc : X.calm = true) (hi : PI X tg iter wi) (hg : PG X tg g) (hb : PSs X body tb)
    (hs : ∀ x, foldedSetIterable iter X.env x = pure x := by intro _; rfl) : PS X (.For tg iter body [] pos) (tFor wi g tb) := by
  intro pins s σ H D I h
  refine wpAny_For (thn (hi pins s σ H _ I h) fun v s1 h1 => thn h1 fun itv s2 h2 => ?_) hs
  obtain ⟨it, fp, tn, J, H2, e, I2, T, st2, f2, W, ⟨m0, w0⟩, turn⟩ := h2
  subst e
  -- what stays true of the iterator's objects through the loop
  have stat : ∀ {H' : Hp}, (∀ b ∈ fp, H' b = none) → ∀ b ∈ fp, FpOk X pins H' b := fun hn b hb => ⟨hn b hb, (f2 b hb).2⟩
  refine codeAny_forLoop_any (fun n s' => ∃ i σ' H', Inv X pins σ' H' s' ∧ tn i s'.heap ∧ (∀ b ∈ fp, H' b = none) ∧ W i n σ' H') ?_ m0 ⟨0, σ, H2, I2, st2, fun b hb => (f2 b hb).1, w0⟩
  rintro n s3 ⟨i, σ3, H3, I3, st3, fr3, w3⟩
  rcases turn i n σ3 H3 w3 with ⟨stop, qn⟩ | ⟨go, N, hN, step⟩
  · refine wpAny_passesOwn hp (thn (T.done X rfl rfl rfl hc i pins s3 σ3 H3 X.xe I3 (stat fr3) st3 stop) fun r s4 ⟨hr, I4⟩ => ?_)
    subst hr
    exact wpAny_execs_nil ⟨σ3, H3, I4, qn⟩
  · refine wpAny_passesOwn hp (thn (T.item X rfl rfl rfl hc i pins s3 σ3 H3 X.xe I3 (stat fr3) st3 go) fun r s4 ⟨u, hr, h4⟩ => ?_)
    subst hr
    refine wpAny_passesOwn hp (thn h4 fun _ s5 ⟨x, H5, I5, r5, y5, st5, fr5⟩ => ?_)
    have I5' := I5.pinned (stat fr5) (T.obj _ _ st5)
    refine wpAny_passesOwn hp (thn (hg _ s5 σ3 H5 x u _ I5' r5 (step x H5 y5)) fun _ s6 ⟨σ6, H6, I6, q6⟩ => ?_)
    refine wpAny_passesOwn hp (thn (hb _ s6 σ6 H6 _ I6 q6) fun f s7 q7 => ?_)
    have again : ∀ {σ7 : St} {H7 : Hp}, Inv X (pins ++ pinsAt fp s5.heap) σ7 H7 s7 → N σ7 H7 → ∃ m, m < n ∧ ∃ i σ' H', Inv X pins σ' H' s7 ∧ tn i s7.heap ∧ (∀ b ∈ fp, H' b = none) ∧ W i m σ' H' := fun {σ7 H7} I7 n7 => by
      obtain ⟨m', hm, w7⟩ := hN σ7 H7 n7
      refine ⟨m', hm, i + 1, σ7, H7, I7.unpinned, T.keep _ _ _ st5 fun b hb o e => (I7.pin (b, o) (List.mem_append_right _ (List.mem_append_right _ (mem_pinsAt hb e)))).1, fun b hb => ?_, w7⟩
      obtain ⟨o, e, d⟩ := T.obj _ _ st5 b hb
      exact (I7.pin (b, o) (List.mem_append_right _ (List.mem_append_right _ (mem_pinsAt hb e)))).2.1
    cases f with
    | next => obtain ⟨σ7, H7, I7, n7⟩ := q7; exact again I7 n7
    | cont => obtain ⟨σ7, H7, I7, n7⟩ := q7; exact again I7 n7
    | brk => obtain ⟨σ7, H7, I7, q7⟩ := q7; exact ⟨σ7, H7, I7.unpinned, q7⟩
    | ret v => obtain ⟨x7, σ7, H7, I7, r7, q7⟩ := q7; exact ⟨x7, σ7, H7, I7.unpinned, r7, q7⟩
end
theorem for_list {K : PySem.W.Frag} {a : Addr} {xs : List V} {g : TG} {tb : TS} {D : Ends} {σ : St} {H : Hp} (Pv : Nat → St → Hp → Prop) (h0 : Pv 0 σ H) (hl : ∀ i σ H, i ≤ xs.length → Pv i σ H → SqL K H a xs)
    (hs : ∀ i x σ H, xs[i]? = some x → Pv i σ H → g x σ H fun σ2 H2 => tb { D with nx := Pv (i + 1), ct := Pv (i + 1), bk := D.nx } σ2 H2) (hd : ∀ σ H, Pv xs.length σ H → D.nx σ H) :
    ∃ W : Nat → Nat → St → Hp → Prop, (∃ m, W 0 m σ H) ∧ ∀ i m σ H, W i m σ H →
      ((Itl K a).stop i H ∧ D.nx σ H) ∨ ((Itl K a).go i H ∧ ∃ N : St → Hp → Prop, (∀ σ' H', N σ' H' → ∃ m', m' < m ∧ W (i + 1) m' σ' H') ∧ ∀ x H', (Itl K a).yld i H x H' → g x σ H' fun σ2 H2 => tb { D with nx := N, ct := N, bk := D.nx } σ2 H2) := by
  refine ⟨fun i m σ H => m = xs.length - i ∧ i ≤ xs.length ∧ Pv i σ H, ⟨xs.length, by simp, Nat.zero_le _, h0⟩, ?_⟩
  rintro i m σ H ⟨rfl, hi, p⟩
  have q := hl i σ H hi p
  by_cases hlt : i < xs.length
  · refine .inr ⟨⟨xs, xs[i], q, by simp [hlt]⟩, Pv (i + 1), fun σ' H' p' => ⟨xs.length - (i + 1), by omega, rfl, hlt, p'⟩, fun x H' y => ?_⟩
    obtain ⟨e, y⟩ := y
    subst e
    exact hs i x σ _ (y xs q) p
  · have e : i = xs.length := by omega
    subst e
    exact .inl ⟨⟨xs, q, Nat.le_refl _⟩, hd σ H p⟩
theorem for_tup {K : PySem.W.Frag} {a : Addr} {xs : List V} {g : TG} {tb : TS} {D : Ends} {σ : St} {H : Hp} (Pv : Nat → St → Hp → Prop) (h0 : Pv 0 σ H) (hl : ∀ i σ H, i ≤ xs.length → Pv i σ H → SqT K H a xs)
    (hs : ∀ i x σ H, xs[i]? = some x → Pv i σ H → g x σ H fun σ2 H2 => tb { D with nx := Pv (i + 1), ct := Pv (i + 1), bk := D.nx } σ2 H2) (hd : ∀ σ H, Pv xs.length σ H → D.nx σ H) :
    ∃ W : Nat → Nat → St → Hp → Prop, (∃ m, W 0 m σ H) ∧ ∀ i m σ H, W i m σ H →
      ((Itt K a).stop i H ∧ D.nx σ H) ∨ ((Itt K a).go i H ∧ ∃ N : St → Hp → Prop, (∀ σ' H', N σ' H' → ∃ m', m' < m ∧ W (i + 1) m' σ' H') ∧ ∀ x H', (Itt K a).yld i H x H' → g x σ H' fun σ2 H2 => tb { D with nx := N, ct := N, bk := D.nx } σ2 H2) := by
  refine ⟨fun i m σ H => m = xs.length - i ∧ i ≤ xs.length ∧ Pv i σ H, ⟨xs.length, by simp, Nat.zero_le _, h0⟩, ?_⟩
  rintro i m σ H ⟨rfl, hi, p⟩
  have q := hl i σ H hi p
  by_cases hlt : i < xs.length
  · refine .inr ⟨⟨xs, xs[i], q, by simp [hlt]⟩, Pv (i + 1), fun σ' H' p' => ⟨xs.length - (i + 1), by omega, rfl, hlt, p'⟩, fun x H' y => ?_⟩
    obtain ⟨e, y⟩ := y
    subst e
    exact hs i x σ _ (y xs q) p
  · have e : i = xs.length := by omega
    subst e
    exact .inl ⟨⟨xs, q, Nat.le_refl _⟩, hd σ H p⟩
theorem for_range {lo : Int} {n : Nat} {g : TG} {tb : TS} {D : Ends} {σ : St} {H : Hp} (Pv : Nat → St → Hp → Prop) (h0 : Pv 0 σ H)
    (hs : ∀ i σ H, i < n → Pv i σ H → g (.int (lo + i)) σ H fun σ2 H2 => tb { D with nx := Pv (i + 1), ct := Pv (i + 1), bk := D.nx } σ2 H2) (hd : ∀ σ H, Pv n σ H → D.nx σ H) :
    ∃ W : Nat → Nat → St → Hp → Prop, (∃ m, W 0 m σ H) ∧ ∀ i m σ H, W i m σ H →
      ((Itr lo n).stop i H ∧ D.nx σ H) ∨ ((Itr lo n).go i H ∧ ∃ N : St → Hp → Prop, (∀ σ' H', N σ' H' → ∃ m', m' < m ∧ W (i + 1) m' σ' H') ∧ ∀ x H', (Itr lo n).yld i H x H' → g x σ H' fun σ2 H2 => tb { D with nx := N, ct := N, bk := D.nx } σ2 H2) := by
  refine ⟨fun i m σ H => m = n - i ∧ i ≤ n ∧ Pv i σ H, ⟨n, by simp, Nat.zero_le _, h0⟩, ?_⟩
  rintro i m σ H ⟨rfl, hi, p⟩
  by_cases hlt : i < n
  · refine .inr ⟨hlt, Pv (i + 1), fun σ' H' p' => ⟨n - (i + 1), by omega, rfl, hlt, p'⟩, fun x H' y => ?_⟩
    obtain ⟨e, y⟩ := y
    subst e y
    exact hs i σ _ hlt p
  · have e : i = n := by omega
    subst e
    exact .inl ⟨Nat.le_refl _, hd σ H p⟩
end L2
namespace L2
open PySem PySem.Spec PyProof.Rows
abbrev R2 := V → V → Hp → VK → Prop
def OpR (X : Cx) (f : Value → Value → Sem Value) (r : R2) : Prop :=
  ∀ (pins : List (Addr × Obj)) (s : Shared) (σ : St) (H : Hp) (x y : V) (v u : Value) (Q : VK), Inv X pins σ H s → RelV x v → RelV y u → r x y H Q →
    wpAny (model X.prog X.w) X.A (f v u) (EP X pins σ Q) X.xe s
def UnR (X : Cx) (f : Value → Sem Value) (r : V → Hp → VK → Prop) : Prop :=
  ∀ (pins : List (Addr × Obj)) (s : Shared) (σ : St) (H : Hp) (x : V) (v : Value) (Q : VK), Inv X pins σ H s → RelV x v → r x H Q →
    wpAny (model X.prog X.w) X.A (f v) (EP X pins σ Q) X.xe s
def CallR (X : Cx) (f : Value) (r : List V → Hp → VK → Prop) : Prop :=
  ∀ (pins : List (Addr × Obj)) (s : Shared) (σ : St) (H : Hp) (xs : List V) (us : List Value) (Q : VK), Inv X pins σ H s → Vals xs us → r xs H Q →
    wpAny (model X.prog X.w) X.A (call f us) (EP X pins σ Q) X.xe s
def TruR (X : Cx) (r : V → Hp → (Bool → Hp → Prop) → Prop) : Prop :=
  ∀ (pins : List (Addr × Obj)) (s : Shared) (σ : St) (H : Hp) (x : V) (v : Value) (Q : Bool → Hp → Prop), Inv X pins σ H s → RelV x v → r x H Q →
    wpAny (model X.prog X.w) X.A (truthy v) (TP X pins σ Q) X.xe s
def tOp (r : R2) (ta tb : TE) : TE := fun σ H Q => ta σ H fun x H1 => tb σ H1 fun y H2 => r x y H2 Q
def tUn (r : V → Hp → VK → Prop) (ta : TE) : TE := fun σ H Q => ta σ H fun x H1 => r x H1 Q
def rI (C : Int → Int → Prop) (g : Int → Int → V) : R2 := fun x y H Q => ∃ i j, x = .int i ∧ y = .int j ∧ C i j ∧ Q (g i j) H
def rI0 (g : Int → Int → V) : R2 := fun x y H Q => ∃ i j, x = .int i ∧ y = .int j ∧ Q (g i j) H
def rU (g : Int → V) : V → Hp → VK → Prop := fun x H Q => ∃ i, x = .int i ∧ Q (g i) H
section
variable {X : Cx} {a b c : Expr} {ta tb tc : TE} {pos : Pos}
theorem binT (ha : PE X a ta) (hb : PE X b tb) {pins : List (Addr × Obj)} {s : Shared} {σ : St} {H : Hp} {R : V → V → Hp → Prop} (I : Inv X pins σ H s)
    (h : ta σ H fun x H1 => tb σ H1 fun y H2 => R x y H2) {Q : Value → Shared → Prop} {f : Value → Value → Sem Value}
    (hf : ∀ v u s2 x y H2, Inv X pins σ H2 s2 → RelV x v → RelV y u → R x y H2 → wpAny (model X.prog X.w) X.A (f v u) Q X.xe s2) :
    wpAny (model X.prog X.w) X.A (eval a X.env) (fun v s₁ => wpAny (model X.prog X.w) X.A (eval b X.env) (fun u s₂ => wpAny (model X.prog X.w) X.A (f v u) Q X.xe s₂) X.xe s₁) X.xe s := by
  refine thn (ha pins s σ H _ I h) fun v s1 ⟨x, H1, I1, r1, q1⟩ => ?_
  refine thn (hb pins s1 σ H1 _ I1 q1) fun u s2 ⟨y, H2, I2, r2, q2⟩ => ?_
  exact hf v u s2 x y H2 I2 r1 r2 q2
theorem pe_op {op : Operator} {r : R2} (ho : OpR X (binaryOp op) r) (ha : PE X a ta) (hb : PE X b tb) : PE X (.BinOp a op b pos) (tOp r ta tb) := by
  intro pins s σ H Q I h
  exact wpAny_BinOp (binT ha hb I h fun v u s2 x y H2 I2 rx ry q => ho pins s2 σ H2 x y v u Q I2 rx ry q)
theorem pe_un {op : UnaryOp} {r : V → Hp → VK → Prop} (ho : UnR X (unaryOp op) r) (ha : PE X a ta) : PE X (.UnaryOp op a pos) (tUn r ta) := by
  intro pins s σ H Q I h
  exact UnaryOp_ (thn (ha pins s σ H _ I h) fun v s1 ⟨x, H1, I1, r1, q1⟩ => ho pins s1 σ H1 x v Q I1 r1 q1)
theorem opI {f : Value → Value → Sem Value} {C : Int → Int → Prop} {g : Int → Int → Int}
    (rule : ∀ (i j : Int) (t u : Tok) (s : Shared) (Q : Value → Shared → Prop) (E : Value → Shared → Prop), C i j → Q (.int (g i j) s.toks) { s with toks := s.toks + 1 } → wpAny (model X.prog X.w) X.A (f (.int i t) (.int j u)) Q E s) :
    OpR X f (rI C fun i j => .int (g i j)) := by
  intro pins s σ H x y v u Q I rx ry h
  obtain ⟨i, j, rfl, rfl, hc, q⟩ := h
  obtain ⟨t, rfl⟩ := rx
  obtain ⟨t', rfl⟩ := ry
  exact rule i j t t' s _ _ hc ⟨.int (g i j), H, I.tok _, ⟨_, rfl⟩, q⟩
theorem opI0 {f : Value → Value → Sem Value} {g : Int → Int → Int}
    (rule : ∀ (i j : Int) (t u : Tok) (s : Shared) (Q : Value → Shared → Prop) (E : Value → Shared → Prop), Q (.int (g i j) s.toks) { s with toks := s.toks + 1 } → wpAny (model X.prog X.w) X.A (f (.int i t) (.int j u)) Q E s) :
    OpR X f (rI0 fun i j => .int (g i j)) := by
  intro pins s σ H x y v u Q I rx ry h
  obtain ⟨i, j, rfl, rfl, q⟩ := h
  obtain ⟨t, rfl⟩ := rx
  obtain ⟨t', rfl⟩ := ry
  exact rule i j t t' s _ _ ⟨.int (g i j), H, I.tok _, ⟨_, rfl⟩, q⟩
theorem opB0 {f : Value → Value → Sem Value} {g : Int → Int → Bool}
    (rule : ∀ (i j : Int) (t u : Tok) (s : Shared) (Q : Value → Shared → Prop) (E : Value → Shared → Prop), Q (.bool (g i j)) s → wpAny (model X.prog X.w) X.A (f (.int i t) (.int j u)) Q E s) :
    OpR X f (rI0 fun i j => .bl (g i j)) := by
  intro pins s σ H x y v u Q I rx ry h
  obtain ⟨i, j, rfl, rfl, q⟩ := h
  obtain ⟨t, rfl⟩ := rx
  obtain ⟨t', rfl⟩ := ry
  exact rule i j t t' s _ _ ⟨.bl (g i j), H, I, rfl, q⟩
def CDiv (i j : Int) : Prop := 0 < j ∧ j < 1073741824
def CMul (i j : Int) : Prop := (-(2 ^ 64) < i ∧ i < 2 ^ 64) ∨ (-(2 ^ 64) < j ∧ j < 2 ^ 64)
theorem CMul.ok {i j : Int} (h : CMul i j) : IntMulOk i j := by
  rcases h with ⟨h1, h2⟩ | ⟨h1, h2⟩
  · exact .of_left (intBits_le_64 h1 h2)
  · exact .of_right (intBits_le_64 h1 h2)
theorem op_add : OpR X (binaryOp .Add) (rI0 fun i j => .int (i + j)) := opI0 fun _ _ _ _ _ _ _ q => add_int q
theorem op_sub : OpR X (binaryOp .Sub) (rI0 fun i j => .int (i - j)) := opI0 fun _ _ _ _ _ _ _ q => sub_int q
theorem op_mul : OpR X (binaryOp .Mult) (rI CMul fun i j => .int (i * j)) := opI fun _ _ _ _ _ _ _ hc q => mul_int q hc.ok
theorem op_fdiv : OpR X (binaryOp .FloorDiv) (rI CDiv fun i j => .int (i / j)) := opI fun i j _ _ _ _ _ hc q => by
  have h1 : (0 : Int) < j := hc.1
  have h2 : j < 1073741824 := hc.2
  exact floordiv_int (by omega) (by rw [Int.fdiv_eq_ediv_of_nonneg i (by omega)]; exact q) (.inl (PyProof.noPylong_small (by omega)))
theorem op_mod : OpR X (binaryOp .Mod) (rI (fun _ j => 0 < j) fun i j => .int (i % j)) := opI fun i j _ _ _ _ _ hc q => by
  have h1 : (0 : Int) < j := hc
  exact mod_int' (by omega) (by rw [Int.fmod_eq_emod_of_nonneg i (by omega)]; exact q)
theorem unI {f : Value → Sem Value} {g : Int → Int}
    (rule : ∀ (i : Int) (t : Tok) (s : Shared) (Q : Value → Shared → Prop) (E : Value → Shared → Prop), Q (.int (g i) s.toks) { s with toks := s.toks + 1 } → wpAny (model X.prog X.w) X.A (f (.int i t)) Q E s) :
    UnR X f (rU fun i => .int (g i)) := by
  intro pins s σ H x v Q I rx h
  obtain ⟨i, rfl, q⟩ := h
  obtain ⟨t, rfl⟩ := rx
  exact rule i t s _ _ ⟨.int (g i), H, I.tok _, ⟨_, rfl⟩, q⟩
theorem un_neg : UnR X (unaryOp .USub) (rU fun i => .int (-i)) := unI fun _ _ _ _ _ q => neg_int q
end
def scal : V → V → Bool
  | .non, .non => true | .non, .int _ => true | .int _, .non => true | .non, .bl _ => true | .bl _, .non => true | .non, .str _ => true | .str _, .non => true
  | .int _, .int _ => true | .bl _, .bl _ => true | .str _, .str _ => true | .byt _, .byt _ => true
  | .int _, .str _ => true | .str _, .int _ => true | .bl _, .str _ => true | .str _, .bl _ => true
  | _, _ => false
def rEq : R2 := fun x y H Q => scal x y = true ∧ Q (.bl (decide (x = y))) H
def rNe : R2 := fun x y H Q => scal x y = true ∧ Q (.bl (!decide (x = y))) H
theorem dec_int {i j : Int} : decide (V.int i = V.int j) = (i == j) := by
  rw [Bool.eq_iff_iff]
  simp
theorem dec_bl {i j : Bool} : decide (V.bl i = V.bl j) = (i == j) := by
  rw [Bool.eq_iff_iff]
  simp
theorem dec_str {i j : Str} : decide (V.str i = V.str j) = (i == j) := by
  rw [Bool.eq_iff_iff]
  simp
theorem dec_byt {i j : Array UInt8} : decide (V.byt i = V.byt j) = (i.toList == j.toList) := by
  rw [Bool.eq_iff_iff]
  cases i
  cases j
  simp
section
variable {X : Cx} {a b c : Expr} {ta tb tc : TE} {pos : Pos}
theorem fin_bl {pins : List (Addr × Obj)} {σ : St} {H : Hp} {s : Shared} {Q : VK} {k k' : Bool} (I : Inv X pins σ H s) (q : Q (.bl k) H) (e : k = k') : EP X pins σ Q (.bool k') s := by
  subst e
  exact ⟨.bl k, H, I, rfl, q⟩
theorem op_eq : OpR X (compareOp .Eq) rEq := by
  intro pins s σ H x y v u Q I rx ry h
  obtain ⟨hs, q⟩ := h
  cases x with
  | non =>
    cases rx
    cases y with
    | non => cases ry; exact PySem.EqNone.eq_none_none (fin_bl I q (by simp))
    | bl j => cases ry; exact PySem.EqNone.eq_none_bool (fin_bl I q (by simp))
    | int j => obtain ⟨t', rfl⟩ := ry; exact PySem.EqNone.eq_none_int (fin_bl I q (by simp))
    | str j => obtain ⟨t', rfl⟩ := ry; exact PySem.EqNone.eq_none_str (fin_bl I q (by simp))
    | _ => exact absurd (show false = true from hs) Bool.false_ne_true
  | bl i =>
    cases rx
    cases y with
    | non => cases ry; exact PySem.EqNone.eq_bool_none (fin_bl I q (by simp))
    | bl j => cases ry; exact eq_bool (fin_bl I q dec_bl)
    | str j => obtain ⟨t', rfl⟩ := ry; exact PySem.EqMixed.eq_bool_str (fin_bl I q (by simp))
    | _ => exact absurd (show false = true from hs) Bool.false_ne_true
  | int i =>
    obtain ⟨t, rfl⟩ := rx
    cases y with
    | non => cases ry; exact PySem.EqNone.eq_int_none (fin_bl I q (by simp))
    | int j => obtain ⟨t', rfl⟩ := ry; exact eq_int (fin_bl I q dec_int)
    | str j => obtain ⟨t', rfl⟩ := ry; exact PySem.EqMixed.eq_int_str (fin_bl I q (by simp))
    | _ => exact absurd (show false = true from hs) Bool.false_ne_true
  | str i =>
    obtain ⟨t, rfl⟩ := rx
    cases y with
    | non => cases ry; exact PySem.EqNone.eq_str_none (fin_bl I q (by simp))
    | bl j => cases ry; exact PySem.EqMixed.eq_str_bool (fin_bl I q (by simp))
    | int j => obtain ⟨t', rfl⟩ := ry; exact PySem.EqMixed.eq_str_int (fin_bl I q (by simp))
    | str j => obtain ⟨t', rfl⟩ := ry; exact eq_str (fin_bl I q dec_str)
    | _ => exact absurd (show false = true from hs) Bool.false_ne_true
  | byt i =>
    obtain ⟨t, rfl⟩ := rx
    cases y with
    | byt j => obtain ⟨t', rfl⟩ := ry; exact PySem.W.eq_bytes (fin_bl I q dec_byt)
    | _ => exact absurd (show false = true from hs) Bool.false_ne_true
  | _ => cases y <;> exact absurd (show false = true from hs) Bool.false_ne_true
theorem op_ne : OpR X (compareOp .NotEq) rNe := by
  intro pins s σ H x y v u Q I rx ry h
  obtain ⟨hs, q⟩ := h
  cases x with
  | non =>
    cases rx
    cases y with
    | non => cases ry; exact PySem.EqNone.ne_none_none (fin_bl I q (by simp))
    | bl j => cases ry; exact PySem.EqNone.ne_none_bool (fin_bl I q (by simp))
    | int j => obtain ⟨t', rfl⟩ := ry; exact PySem.EqNone.ne_none_int (fin_bl I q (by simp))
    | str j => obtain ⟨t', rfl⟩ := ry; exact PySem.EqNone.ne_none_str (fin_bl I q (by simp))
    | _ => exact absurd (show false = true from hs) Bool.false_ne_true
  | bl i =>
    cases rx
    cases y with
    | non => cases ry; exact PySem.EqNone.ne_bool_none (fin_bl I q (by simp))
    | bl j => cases ry; exact ne_bool (fin_bl I q (congrArg not dec_bl))
    | str j => obtain ⟨t', rfl⟩ := ry; exact PySem.EqMixed.ne_bool_str (fin_bl I q (by simp))
    | _ => exact absurd (show false = true from hs) Bool.false_ne_true
  | int i =>
    obtain ⟨t, rfl⟩ := rx
    cases y with
    | non => cases ry; exact PySem.EqNone.ne_int_none (fin_bl I q (by simp))
    | int j => obtain ⟨t', rfl⟩ := ry; exact ne_int (fin_bl I q (congrArg not dec_int))
    | str j => obtain ⟨t', rfl⟩ := ry; exact PySem.EqMixed.ne_int_str (fin_bl I q (by simp))
    | _ => exact absurd (show false = true from hs) Bool.false_ne_true
  | str i =>
    obtain ⟨t, rfl⟩ := rx
    cases y with
    | non => cases ry; exact PySem.EqNone.ne_str_none (fin_bl I q (by simp))
    | bl j => cases ry; exact PySem.EqMixed.ne_str_bool (fin_bl I q (by simp))
    | int j => obtain ⟨t', rfl⟩ := ry; exact PySem.EqMixed.ne_str_int (fin_bl I q (by simp))
    | str j => obtain ⟨t', rfl⟩ := ry; exact ne_str (fin_bl I q (congrArg not dec_str))
    | _ => exact absurd (show false = true from hs) Bool.false_ne_true
  | byt i =>
    obtain ⟨t, rfl⟩ := rx
    cases y with
    | byt j => obtain ⟨t', rfl⟩ := ry; exact PySem.W.ne_bytes (fin_bl I q (congrArg not dec_byt))
    | _ => exact absurd (show false = true from hs) Bool.false_ne_true
  | _ => cases y <;> exact absurd (show false = true from hs) Bool.false_ne_true
theorem op_lt : OpR X (compareOp .Lt) (rI0 fun i j => .bl (decide (i < j))) := opB0 fun _ _ _ _ _ _ _ q => lt_int q
theorem op_gt : OpR X (compareOp .Gt) (rI0 fun i j => .bl (decide (j < i))) := opB0 fun _ _ _ _ _ _ _ q => gt_int q
theorem op_ge : OpR X (compareOp .GtE) (rI0 fun i j => .bl (decide (j ≤ i))) := opB0 fun _ _ _ _ _ _ _ q => ge_int q
theorem op_notN : OpR X (compareOp .IsNot) (fun x y H Q => y = .non ∧ Q (.bl (!decide (x = .non))) H) := by
  intro pins s σ H x y v u Q I rx ry h
  obtain ⟨rfl, q⟩ := h
  cases ry
  refine isnot_none_gen (fin_bl I q ?_)
  cases x <;> first
    | (cases rx; rfl)
    | (obtain ⟨t, rfl⟩ := rx; rfl)
theorem nomark (b : Expr) {op : CmpOp} (h : op ≠ .In := by decide) (h2 : op ≠ .NotIn := by decide) : behindInMarks op b = false := by
  have e1 : (op == CmpOp.In) = false := by cases op <;> first | rfl | exact absurd rfl h
  have e2 : (op == CmpOp.NotIn) = false := by cases op <;> first | rfl | exact absurd rfl h2
  cases b <;> simp [behindInMarks, e1, e2]
theorem pe_cmpR {op : CmpOp} {r : R2} (ho : OpR X (compareOp op) r) (ha : PE X a ta) (hb : PE X b tb) (hm : behindInMarks op b = false) : PE X (.Compare a [op] [b] pos) (tOp r ta tb) := by
  intro pins s σ H Q I h
  exact wpAny_Compare1 (binT ha hb I h fun v u s2 x y H2 I2 rx ry q => ho pins s2 σ H2 x y v u Q I2 rx ry q) hm
def tTest (t : TE) : TT := fun σ H Q => t σ H fun x H' => ∃ k, x = .bl k ∧ Q k H'
theorem pt_cmpR {op : CmpOp} {r : R2} (ho : OpR X (compareOp op) r) (ha : PE X a ta) (hb : PE X b tb) (hm : behindInMarks op b = false) : PT X (.Compare a [op] [b] pos) (tTest (tOp r ta tb)) := by
  intro pins s σ H Q I h
  refine wpAny_isTrue_Compare1 (thn (ha pins s σ H _ I h) fun v s1 ⟨x, H1, I1, r1, q1⟩ => thn (hb pins s1 σ H1 _ I1 q1) fun u s2 ⟨y, H2, I2, r2, q2⟩ =>
    thn (ho pins s2 σ H2 x y v u _ I2 r1 r2 q2) fun c s3 ⟨z, H3, I3, r3, k, e, q3⟩ => ?_) hm
  subst e
  cases r3
  exact wpAny_truthy_bool ⟨H3, I3, q3⟩
def TruV (K : PySem.W.Frag) (x : V) (H : Hp) (k : Bool) : Prop :=
  match x with
  | .non => k = false
  | .bl b => k = b
  | .int i => k = (i != 0)
  | .str y => y.length ≤ sizeLine ∧ k = ((y.length : Int) != 0)
  | .byt y => y.size ≤ sizeLine ∧ k = ((y.size : Int) != 0)
  | .ref p => (∃ xs, SqL K H p xs ∧ k = !xs.isEmpty) ∨ (∃ xs, SqT K H p xs ∧ k = !xs.isEmpty) ∨ ∃ kvs, H p = some (.dK kvs) ∧ k = !kvs.isEmpty
  | _ => False
theorem isEmpty_kv {κ : Type} {kvs : List (κ × V)} {vs : List (κ × Value)} (r : KV kvs vs) : (!vs.isEmpty) = !kvs.isEmpty := by
  cases r <;> rfl
theorem isEmpty_of {xs : List V} {its : List Value} (r : Vals xs its) : (!its.toArray.isEmpty) = !xs.isEmpty := by
  cases r <;> simp
theorem line63 : (sizeLine : Nat) < 2 ^ 63 := by rw [sizeLine_eq]; decide
theorem tru_ok : TruR X (fun x H Q => ∃ k, TruV X.K x H k ∧ Q k H) := by
  intro pins s σ H x v Q I rx h
  obtain ⟨k, e, q⟩ := h
  have hl := line63
  have hs : sizeLine = 16777216 := sizeLine_eq
  cases x with
  | non =>
    cases rx
    have e' : k = false := e
    subst e'
    exact truthy_none ⟨H, I, q⟩
  | bl b =>
    cases rx
    have e' : k = b := e
    subst e'
    exact wpAny_truthy_bool ⟨H, I, q⟩
  | int i =>
    obtain ⟨t, rfl⟩ := rx
    have e' : k = (i != 0) := e
    subst e'
    exact PySem.P.truthy_int ⟨H, I, q⟩
  | str y =>
    obtain ⟨t, rfl⟩ := rx
    obtain ⟨hy, e'⟩ : y.length ≤ sizeLine ∧ k = ((y.length : Int) != 0) := e
    subst e'
    exact PySem.P.truthy_str (by omega) ⟨H, I.tok _, q⟩
  | byt y =>
    obtain ⟨t, rfl⟩ := rx
    obtain ⟨hy, e'⟩ : y.size ≤ sizeLine ∧ k = ((y.size : Int) != 0) := e
    subst e'
    exact PySem.W.truthy_bytes (by omega) ⟨H, I.tok _, q⟩
  | ref p =>
    cases rx
    have e' : (∃ xs, SqL X.K H p xs ∧ k = !xs.isEmpty) ∨ (∃ xs, SqT X.K H p xs ∧ k = !xs.isEmpty) ∨ ∃ kvs, H p = some (.dK kvs) ∧ k = !kvs.isEmpty := e
    rcases e' with ⟨xs, hx, e'⟩ | ⟨xs, hx, e'⟩ | ⟨kvs, hx, e'⟩
    · subst e'
      obtain ⟨its, r, pl, hz⟩ := I.list hx
      have hlen := r.length
      exact wpAny_truthy_list pl.isList (by simp only [List.size_toArray]; omega) ⟨H, I.tok _, by rw [isEmpty_of r]; exact q⟩
    · subst e'
      obtain ⟨its, r, pl, hz⟩ := I.tuple hx
      have hlen := r.length
      exact truthy_tuple pl (by simp only [List.size_toArray]; omega) ⟨H, I.tok _, by rw [isEmpty_of r]; exact q⟩
    · subst e'
      obtain ⟨hz, hS, vs, r, m⟩ : kvs.length ≤ sizeLine ∧ (p == sysModules) = false ∧ ∃ vs, KV kvs vs ∧ s.heap.DictOf (mixKind X.prog X.w) p vs := I.hok p _ hx
      have hlen : kvs.length = vs.length := Paired.length r
      exact wpAny_truthy_dict hS m (by omega) ⟨H, I.tok _, by rw [isEmpty_kv r]; exact q⟩
  | _ => exact (show False from e).elim
theorem pt_truth (ha : PE X a ta) (he : ∀ whole, isTrue a X.env whole = (do let v ← whole; standAt a.pos; holding [v] (truthy v))) :
    PT X a (fun σ H Q => ta σ H fun x H' => ∃ k, TruV X.K x H' k ∧ Q k H') := by
  intro pins s σ H Q I h
  exact isTrue_plain (thn (ha pins s σ H _ I h) fun v s1 ⟨x, H1, I1, r1, q1⟩ => tru_ok pins s1 σ H1 x v Q I1 r1 q1) (he _)
theorem op_add_str : OpR X (binaryOp .Add) (fun x y H Q => ∃ i j, x = .str i ∧ y = .str j ∧ i.length + j.length ≤ sizeLine ∧ Q (.str (i ++ j)) H) := by
  intro pins s σ H x y v u Q I rx ry h
  obtain ⟨i, j, rfl, rfl, hz, q⟩ := h
  obtain ⟨t, rfl⟩ := rx
  obtain ⟨t', rfl⟩ := ry
  exact add_str (fun t' tk => ⟨.str (i ++ j), H, I.tok _, ⟨_, rfl⟩, q⟩) hz
theorem vals1 {x : V} {us : List Value} (r : Vals [x] us) : ∃ u, us = [u] ∧ RelV x u := by
  cases r with
  | cons r1 r2 => cases r2; exact ⟨_, rfl, r1⟩
theorem vals2 {x y : V} {us : List Value} (r : Vals [x, y] us) : ∃ u w', us = [u, w'] ∧ RelV x u ∧ RelV y w' := by
  cases r with
  | cons r1 r2 =>
    cases r2 with
    | cons r3 r4 => cases r4; exact ⟨_, _, rfl, r1, r3⟩
theorem call_max2 (hc : X.calm = true) : CallR X (.builtin "max") (fun xs H Q => ∃ i j, xs = [.int i, .int j] ∧ Q (.int (if j > i then j else i)) H) := by
  intro pins s σ H xs us Q I r h
  obtain ⟨i, j, rfl, q⟩ := h
  obtain ⟨u, w', rfl, ⟨t, rfl⟩, ⟨t', rfl⟩⟩ := vals2 r
  refine max_two_ints (I.ok.hd hc) fun h' tk k => ⟨_, H, I.kept k, ?_, q⟩
  by_cases hj : j > i
  · rw [if_pos hj, if_pos hj]; exact ⟨_, rfl⟩
  · rw [if_neg hj, if_neg hj]; exact ⟨_, rfl⟩
theorem call_int1 : CallR X (.type "int") (fun xs H Q => (∃ i, xs = [.int i] ∧ Q (.int i) H) ∨ ∃ k, xs = [.bl k] ∧ Q (.int (if k then 1 else 0)) H) := by
  intro pins s σ H xs us Q I r h
  rcases h with ⟨i, rfl, q⟩ | ⟨k, rfl, q⟩
  · obtain ⟨u, rfl, t, rfl⟩ := vals1 r
    exact call_int_int ⟨.int i, H, I, ⟨_, rfl⟩, q⟩
  · obtain ⟨u, rfl, r1⟩ := vals1 r
    cases r1
    exact call_int_bool ⟨.int (if k then 1 else 0), H, I.tok _, ⟨_, rfl⟩, q⟩
end
end L2
namespace L2
open PySem PySem.Spec PyProof.Rows
section
variable {prog : Program} {w : World} {A : Around} {E : Value → Shared → Prop} {s : Shared} {K : PySem.W.Frag} {x dx C f : Addr} {mA : Str → Option Value} {name : Str} {v : Value}
end
section
variable {P : Program} {w : World} {H H' : Hp} {h h' : Heap} {a C dx : Addr} {fs fs' : List (Str × V)}
end
section
variable {X : Cx} {pins : List (Addr × Obj)} {σ : St} {H : Hp} {s : Shared} {a C dx : Addr} {fs : List (Str × V)} {f : Str} {v : V} {A : Around} {E : Value → Shared → Prop}
end
section
variable {X : Cx} {o e value : Expr} {f : Str} {pos pos' tpos : Pos} {ta tv : TE}
end
section
variable {X : Cx} {pins : List (Addr × Obj)} {σ : St} {H : Hp} {s : Shared} {A : Around} {E : Value → Shared → Prop} {Q : Value → Shared → Prop} {c : Value} {b : Bool}
end
end L2
namespace L2
open PySem PySem.Spec PyProof.Rows
structure Room (k : Nat) (A : Around) : Prop where
  hd : A.handled = none
  dp : A.depth + 3 * k + 5 < recursionLimit
  un : A.units + 16 * k + 200 < cLine
theorem Room.mono {j k : Nat} {A : Around} (r : Room k A) (h : j ≤ k) : Room j A := ⟨r.hd, by have := r.dp; omega, by have := r.un; omega⟩
theorem Room.deeper {k : Nat} {A : Around} (r : Room (k + 1) A) (env : Env) : Room k (A.deeper env) :=
  ⟨r.hd, by have := r.dp; show A.depth + 1 + 3 * k + 5 < _; omega, by have := r.un; show A.units + 3 + 16 * k + 200 < _; omega⟩
theorem Room.depth {k : Nat} {A : Around} (r : Room k A) : A.depth < recursionLimit := by have := r.dp; omega
theorem Room.units {k : Nat} {A : Around} (r : Room k A) : A.units + 64 < cLine := by have := r.un; omega
def tNil : TA := fun _ H Q => Q [] H
def tCons (ta : TE) (tr : TA) : TA := fun σ H Q => ta σ H fun x H1 => tr σ H1 fun xs H2 => Q (x :: xs) H2
section
variable {X : Cx} {e : Expr} {es : List Expr} {te : TE} {t : TA} {pos : Pos}
theorem pa_nil : PA X [] tNil := fun _ _ _ _ H Q I h => Calls.spliced_nil ⟨[], H, I, .nil, h⟩
theorem pa_cons (ha : PE X e te) (hr : PA X es t) (hs : starEach (e :: es) X.env = (false, eval e X.env) :: starEach es X.env := by rfl) : PA X (e :: es) (tCons te t) := by
  intro pos pins s σ H Q I h
  rw [hs]
  show wpAny _ _ (spliced ((false, eval e X.env) :: backTo pos (starEach es X.env))) _ _ s
  refine Calls.spliced_cons (thn (ha pins s σ H _ I h) fun u s1 ⟨x, H1, I1, r1, q1⟩ => ?_)
  exact thn (hr pos pins s1 σ H1 _ I1 q1) fun us s2 ⟨xs, H2, I2, r2, q2⟩ => ⟨x :: xs, H2, I2, .cons r1 r2, q2⟩
def tTup (t : TA) : TE := fun σ H Q => t σ H fun xs H1 => xs.length ≤ sizeLine ∧ ∀ p, H1 p = none → Q (.ref p) (upd H1 p (.tup xs))
def tLst (t : TA) : TE := fun σ H Q => t σ H fun xs H1 => xs.length ≤ sizeLine ∧ ∀ p, H1 p = none → Q (.ref p) (upd H1 p (.lst xs))
theorem pe_tup {x1} (h : PA X es t) : PE X (.Tuple es x1 pos) (tTup t) := by
  intro pins s σ H Q I hq
  refine wpAny_Tuple_spliced (thn (h pos pins s σ H _ I hq) fun us s1 ⟨xs, H1, I1, r, z, q⟩ => ⟨by rw [← r.length]; exact z, ?_⟩)
  have hf : H1 s1.heap.objs.size = none := I1.hok.fresh (Nat.le_refl _)
  refine ⟨.ref s1.heap.objs.size, upd H1 s1.heap.objs.size (.tup xs), I1.laid (t' := s1.toks) (fun b u e => Heap.get?_push_of_some _ e) (Nat.le_refl _) ?_, rfl, q _ hf⟩
  exact ⟨z, us, 0, r, Heap.get?_push_size _ rfl⟩
theorem pe_lst (h : PA X es t) : PE X (.List es pos) (tLst t) := by
  intro pins s σ H Q I hq
  refine wpAny_List_spliced (thn (h pos pins s σ H _ I hq) fun us s1 ⟨xs, H1, I1, r, z, q⟩ => ⟨by rw [← r.length]; exact z, ?_⟩)
  have hf : H1 s1.heap.objs.size = none := I1.hok.fresh (Nat.le_refl _)
  refine ⟨.ref s1.heap.objs.size, upd H1 s1.heap.objs.size (.lst xs), I1.laid (t' := s1.toks) (fun b u e => Heap.get?_push_of_some _ e) (Nat.le_refl _) ?_, rfl, q _ hf⟩
  exact ⟨z, us, 0, r, Heap.get?_push_size _ rfl⟩
end
abbrev Sp := List V → Hp → VK → XK → Prop
abbrev CXT := List Env → Hp → Shared → XK → Value → Shared → Prop
structure Env0 (P : Program) (w : World) (K : PySem.W.Frag) (mg : Str → Option Value) (base : Heap) (A : Around) (outer : List Env) (s : Shared) (H : Hp) : Prop where
  frames : A.frames = some outer
  mod : Mod K mg base
  bs : ∀ b o, base.get? b = some o → s.heap.get? b = some o ∧ H b = none
  bsz : base.objs.size ≤ s.heap.objs.size
  funs : s.heap.FunFrames base outer
  frf : ∀ b ∈ frs outer, H b = none
  hok : HOk P w H s.heap
  bare : AllBare s.gens
def CE (outer : List Env) (P : Program) (w : World) (H : Hp) (s : Shared) (Q : VK) (u : Value) (s' : Shared) : Prop :=
  ∃ v H', s'.os = s.os ∧ AllBare s'.gens ∧ Un (frs outer) [] H H' s.heap s'.heap ∧ HOk P w H' s'.heap ∧ RelV v u ∧ Q v H'
def CR (CX : CXT) (outer : List Env) (P : Program) (w : World) (H : Hp) (s : Shared) (Q : VK) (E : XK) (r : Result) (s' : Shared) : Prop :=
  match r with
  | .ok (.ret u) => CE outer P w H s Q u s'
  | .ok _ => False
  | .error e => CX outer H s E e s'
structure FnOk (P : Program) (w : World) (K : PySem.W.Frag) (mg : Str → Option Value) (base : Heap) (CX : CXT) (k : Nat) (f : Addr) (fd : FuncData) (ps : List Str) (sp : Sp) : Prop where
  len : ∀ vs H Q E, sp vs H Q E → vs.length = ps.length
  run : ∀ (A : Around) (outer : List Env) (s : Shared) (H : Hp) (args : Args) (us : List Value) (vs : List V) (Q : VK) (E : XK), Room k A → Env0 P w K mg base A outer s H → BindsTo s fd args (ps.zip us) → Vals vs us → sp vs H Q E →
    codeAny (model P w) A (.call (.ref f) args) (CR CX outer P w H s Q E) s
section
variable {X : Cx} {pins : List (Addr × Obj)} {σ : St} {H : Hp} {s s' : Shared}
theorem Inv.env0 (I : Inv X pins σ H s) : Env0 X.prog X.w X.K X.mg X.base X.A X.stack s H :=
  ⟨I.ok.frames, I.ok.mod, I.bs, Nat.le_trans I.ok.bsz I.sz, I.stack, I.stkFree, I.hok, I.bare⟩
theorem Inv.after {Q : VK} {u : Value} (I : Inv X pins σ H s) (h : CE X.stack X.prog X.w H s Q u s') : EP X pins σ Q u s' := by
  obtain ⟨v, H', os, bare, un, hok, r, q⟩ := h
  obtain ⟨hh, g, d, t, os'⟩ := s'
  obtain rfl : os' = s.os := os
  exact ⟨v, H', I.call (h' := hh) (g' := g) (d' := d) (t' := t) (ch := []) un hok bare (fun b z => absurd z (by simp)), r, q⟩
end
def tCall (sp : Sp) (dvs : List V) (E : XK) (t : TA) : TE := fun σ H Q => t σ H fun vs H1 => sp (vs ++ dvs) H1 Q E
def Binds (K : PySem.W.Frag) (fd : FuncData) (ps : List Str) (ds : List Value) : Prop :=
  ∀ (s : Shared) (us : List Value), K.In s.heap → (us ++ ds).length = ps.length → BindsTo s fd ⟨us, []⟩ (ps.zip (us ++ ds))
theorem Binds.all {K : PySem.W.Frag} {fd : FuncData} {ps : List Str} (h : ∀ us : List Value, us.length = ps.length → bindArgs fd ⟨us, []⟩ = pure (ps.zip us)) : Binds K fd ps [] := fun s us _ hl => by
  rw [List.append_nil] at hl ⊢
  exact .of_eq (h us hl)
def Passes (CX : CXT) (X : Cx) (E : XK) : Prop := ∀ (pins : List (Addr × Obj)) (σ : St) (H : Hp) (s : Shared) (e : Value) (s' : Shared), Inv X pins σ H s → CX X.stack H s E e s' → X.xe e s'
section
variable {X : Cx} {CX : CXT} {k : Nat} {f C : Addr} {fd : FuncData} {ps : List Str} {sp : Sp} {dvs : List V} {ds : List Value} {E : XK} {x m : Str} {p pos apos : Pos} {e o : Expr} {es : List Expr} {ta : TE} {t : TA}
theorem run_fn {pins : List (Addr × Obj)} {σ : St} {H : Hp} {s : Shared} {Q : VK} {us : List Value} {vs : List V} (F : FnOk X.prog X.w X.K X.mg X.base CX k f fd ps sp) (hr : Room k X.A) (hb : Binds X.K fd ps ds) (hd : Vals dvs ds) (hx : Passes CX X E)
    (I : Inv X pins σ H s) (r : Vals vs us) (h : sp (vs ++ dvs) H Q E) : wpAny (model X.prog X.w) X.A (call (.ref f) us) (EP X pins σ Q) X.xe s := by
  have r2 : Vals (vs ++ dvs) (us ++ ds) := r.append hd
  have hl : (us ++ ds).length = ps.length := by rw [← r2.length]; exact F.len _ _ _ _ h
  refine wpAny_call (codeAny_mono (F.run X.A X.stack s H ⟨us, []⟩ (us ++ ds) (vs ++ dvs) Q E hr I.env0 (hb s us I.kIn hl) r2 h) fun r s' hq => ?_)
  cases r with
  | error e => exact hx pins σ H s e s' I hq
  | ok fl =>
    cases fl with
    | ret u => exact I.after hq
    | next => exact False.elim hq
    | brk => exact False.elim hq
    | cont => exact False.elim hq
theorem pe_call (F : FnOk X.prog X.w X.K X.mg X.base CX k f fd ps sp) (hr : Room k X.A) (hg : Gl X x) (hm : X.mg x = some (.ref f)) (hk : PySem.W.keepIn X.K (.ref f) = true) (hb : Binds X.K fd ps ds) (hd : Vals dvs ds) (hx : Passes CX X E)
    (ha : PA X (e :: es) t) (hdb : (x == ("__debug__" : Str)) = false := by decide) (he : starEach (e :: es) X.env = (false, eval e X.env) :: starEach es X.env := by rfl) (hpl : (backTo pos (starEach es X.env)).any (·.1) = false := by rfl) :
    PE X (.Call (.Name x p) (e :: es) [] pos) (tCall sp dvs E t) := by
  intro pins s σ H Q I h
  refine wpAny_Call_Name_kw (ld_glob I hg hm ?_ hdb)
  refine PySem.W.callWith_K (h₀ := X.base) I.ok.mod.kin hk (thn (ha pos pins s σ H _ I h) fun us s1 ⟨vs, H1, I1, r, q⟩ => ⟨I1.kIn, ?_⟩) he hpl
  exact run_fn F hr hb hd hx I1 r q
end
section
variable {X : Cx} {CX : CXT} {k : Nat} {f C : Addr} {fd : FuncData} {ps ks : List Str} {sp : Sp} {E : XK} {x m : Str} {p pos apos kpos : Pos} {e o : Expr} {es : List Expr} {kws : List Keyword} {te ta : TE} {t tk : TA} {nm : Option Str}
variable {g : List Value → List Value → List Value} {gV : List V → List V → List V}
end
structure FnScope (N P : List Str) (sc : Scope) : Prop where
  kind : sc.kind = .function
  co : sc.isCoroutine = false
  gen : sc.isGenerator = false
  nd : N.Nodup
  pre : N.take P.length = P
  par : ∀ x ∈ P, sc.names.lookup x = some .local ∨ sc.names.lookup x = some .cell
  nofree : ∀ y ∈ sc.names, y.2 ≠ .free
theorem bindL_out {kindOf : Str → Option NameKind} {x : Str} : ∀ {binds : List (Str × Value)} {m : Str → Option Value}, (∀ v, (x, v) ∉ binds) → bindL kindOf binds m x = m x
  | [], _, _ => rfl
  | (n, v) :: r, m, h => by
    unfold bindL
    rw [bindL_out fun w hw => h w (List.mem_cons_of_mem _ hw)]
    split
    · have : x ≠ n := by rintro rfl; exact h v List.mem_cons_self
      simp [this]
    · rfl
theorem bindC_out {kindOf : Str → Option NameKind} {x : Str} : ∀ {binds : List (Str × Value)} {m : Str → Option Value}, (∀ v, (x, v) ∉ binds) → bindC kindOf binds m x = m x
  | [], _, _ => rfl
  | (n, v) :: r, m, h => by
    unfold bindC
    rw [bindC_out fun w hw => h w (List.mem_cons_of_mem _ hw)]
    split
    · rfl
    · have : x ≠ n := by rintro rfl; exact h v List.mem_cons_self
      simp [this]
theorem bindL_get {kindOf : Str → Option NameKind} {x : Str} {v : Value} : ∀ {P : List Str} {vs : List Value} {i : Nat} {m : Str → Option Value}, P.Nodup → P[i]? = some x → vs[i]? = some v → kindOf x = some .local →
    bindL kindOf (P.zip vs) m x = some v
  | [], _, _, _, _, h, _, _ => by simp at h
  | _ :: _, [], _, _, _, _, h, _ => by simp at h
  | p :: P, w :: vs, 0, m, nd, h1, h2, hk => by
    simp at h1 h2; subst h1; subst h2
    show bindL kindOf ((p, w) :: P.zip vs) m p = _
    unfold bindL
    rw [bindL_out fun v hv => (List.nodup_cons.mp nd).1 (List.of_mem_zip hv).1, if_pos hk]
    simp
  | p :: P, w :: vs, i + 1, m, nd, h1, h2, hk => by
    show bindL kindOf ((p, w) :: P.zip vs) m x = _
    unfold bindL
    exact bindL_get (i := i) (List.nodup_cons.mp nd).2 (by simpa using h1) (by simpa using h2) hk
theorem bindC_get {kindOf : Str → Option NameKind} {x : Str} {v : Value} : ∀ {P : List Str} {vs : List Value} {i : Nat} {m : Str → Option Value}, P.Nodup → P[i]? = some x → vs[i]? = some v → kindOf x ≠ some .local →
    bindC kindOf (P.zip vs) m x = some v
  | [], _, _, _, _, h, _, _ => by simp at h
  | _ :: _, [], _, _, _, _, h, _ => by simp at h
  | p :: P, w :: vs, 0, m, nd, h1, h2, hk => by
    simp at h1 h2; subst h1; subst h2
    show bindC kindOf ((p, w) :: P.zip vs) m p = _
    unfold bindC
    rw [bindC_out fun v hv => (List.nodup_cons.mp nd).1 (List.of_mem_zip hv).1, if_neg hk]
    simp
  | p :: P, w :: vs, i + 1, m, nd, h1, h2, hk => by
    show bindC kindOf ((p, w) :: P.zip vs) m x = _
    unfold bindC
    exact bindC_get (i := i) (List.nodup_cons.mp nd).2 (by simpa using h1) (by simpa using h2) hk
def start (N : List Str) (vs : List V) : St := vs.map some ++ List.replicate (N.length - vs.length) none
def cxOf (CX : CXT) (P : Program) (w : World) (K : PySem.W.Frag) (mg : Str → Option Value) (base : Heap) (N : List Str) (qual : Str) (scope : Scope) (f : Addr) (cd : Value) (A : Around) (outer : List Env) (s : Shared) (H : Hp) (E : XK) : Cx where
  prog := P
  w := w
  K := K
  mg := mg
  base := base
  A := A.deeper (envOfC qual scope s.heap.objs.size f cd)
  N := N
  s₀ := s
  H₀ := H
  env := envOfC qual scope s.heap.objs.size f cd
  outer := outer
  stack := envOfC qual scope s.heap.objs.size f cd :: outer
  ex := []
  calm := true
  fn := fun _ => true
  pn := []
  xe := fun e s' => wpAny (model P w) (A.deeper (envOfC qual scope s.heap.objs.size f cd)) (leaving (envOfC qual scope s.heap.objs.size f cd) e) (fun _ s'' => CX outer H s E e s'') (fun e' s'' => CX outer H s E e' s'') s'
theorem cell_has {sc : Scope} {n : Nat} {x : Str} (h : sc.names.lookup x = some .cell) : ∃ c, (cellsFrom n sc.names []).lookup x = some c := by
  have q := PySem.W.cellsFrom_some sc.names n [] (.inl h)
  exact Option.isSome_iff_exists.mp q
theorem inv_start {CX : CXT} {P : Program} {w : World} {K : PySem.W.Frag} {mg : Str → Option Value} {base : Heap} {N ps : List Str} {qual : Str} {scope : Scope} {f : Addr} {cd : Value} {A : Around} {outer : List Env} {s s1 : Shared} {H : Hp} {E : XK} {us : List Value} {vs : List V}
    (S : FnScope N ps scope) (hd : A.handled = none) (e0 : Env0 P w K mg base A outer s H) (hl : vs.length = ps.length) (r : Vals vs us)
    (x : InCallC s s.heap.objs.size (bindL (envOfC qual scope s.heap.objs.size f cd).kindOf (ps.zip us) fun _ => none) (cellsFrom (s.heap.objs.size + 1) scope.names []) (bindC (envOfC qual scope s.heap.objs.size f cd).kindOf (ps.zip us) fun _ => none) s1) :
    Inv (cxOf CX P w K mg base N qual scope f cd A outer s H E) [] (start N vs) H s1 := by
  have hpl : ps.length ≤ N.length := by have := congrArg List.length S.pre; rw [List.length_take] at this; omega
  obtain ⟨h1, tk, rfl, hk⟩ := x.done
  have noA : ∀ b : Addr, b ∉ (cxOf CX P w K mg base N qual scope f cd A outer s H E).ex := fun b z => absurd (show b ∈ ([] : List Addr) from z) (by simp)
  refine ⟨⟨e0.mod, S.kind, rfl, rfl, Nat.le_refl _, fun y z c h1 h2 => ?_, fun y hy => ?_, fun y c _ h => ?_, fun _ => hd, Around.frames_deeper e0.frames, .inr ⟨rfl, rfl⟩, fun b z => absurd z (noA b), e0.bs, e0.bsz, fun b _ _ => noA b, fun b z => absurd z (noA b), e0.funs, e0.frf⟩,
    rfl, e0.bare, Un.kept hk, ⟨_, x.toInCall.ns, fun i y v h1 h2 h3 => ?_⟩, fun y c h => ⟨_, x.cell y c h⟩, e0.hok.fresh (Nat.le_refl _), fun y c h => ?_, fun p hp => absurd (show p ∈ ([] : List (Addr × Obj)) from hp) (by simp), e0.hok.kept hk, ?_⟩
  · exact name_of_addr x.apart (PySem.mem_of_lookup h1) (PySem.mem_of_lookup h2)
  · have hy : scope.names.lookup y = some .cell ∨ scope.names.lookup y = some .free := hy
    rcases hy with hy | hy
    · exact cell_has hy
    · exact absurd rfl (S.nofree _ (PySem.mem_of_lookup hy))
  · exact Nat.le_of_lt (x.above y c (PySem.mem_of_lookup h))
  · have hi : i < vs.length := by
      unfold start at h2
      by_cases hi : i < vs.length
      · exact hi
      · rw [List.getElem?_append_right (by simpa using hi)] at h2
        rw [List.getElem?_replicate] at h2
        split at h2 <;> cases h2
    have ha : vs[i]? = some v := by
      unfold start at h2
      rw [List.getElem?_append_left (by simpa using hi), List.getElem?_map] at h2
      cases e : vs[i]? with
      | none => rw [e] at h2; cases h2
      | some a => rw [e] at h2; cases h2; rfl
    obtain ⟨u, hu, rv⟩ := r.get ha
    have hp : ps[i]? = some y := by
      rw [← S.pre, List.getElem?_take_of_lt (by omega)]; exact h1
    have ndP : ps.Nodup := by rw [← S.pre]; exact S.nd.sublist (List.take_sublist _ _)
    refine ⟨u, rv, ?_⟩
    rcases S.par y (List.mem_of_getElem? hp) with k | k
    · exact .inl ⟨k, bindL_get ndP hp hu k⟩
    · obtain ⟨c, e⟩ := cell_has (n := s.heap.objs.size + 1) k
      refine .inr ⟨.inl k, c, e, ?_⟩
      have q := x.cell y c e
      rw [bindC_get ndP hp hu (by show scope.names.lookup y ≠ _; rw [k]; decide)] at q
      exact q
  · exact e0.hok.fresh (Nat.le_of_lt (x.above y c (PySem.mem_of_lookup h)))
  · unfold start
    show _ = N.length
    rw [List.length_append, List.length_map, List.length_replicate]
    omega
theorem fn_of {CX : CXT} {P : Program} {w : World} {K : PySem.W.Frag} {mg : Str → Option Value} {base : Heap} {k : Nat} {f : Addr} {name qual : Str} {params : Arguments} {body : List Stmt} {scope : Scope} {dV kV doc pm cdv ct oc : Value} {an od : Option Addr}
    {osl : Array (Option Value)} {N ps : List Str} {sp : Sp} (lk : K.lookup f = some ⟨oc, od, .func (PySem.W.fnOf name qual params body scope dV kV doc pm an cdv ct), osl⟩) (hcd : PySem.W.codeIn K cdv qual = true) (S : FnScope N ps scope)
    (len : ∀ vs H Q E, sp vs H Q E → vs.length = ps.length)
    (hbody : ∀ (A : Around) (outer : List Env) (s : Shared) (H : Hp) (vs : List V) (Q : VK) (E : XK), Room k (A.deeper (envOfC qual scope s.heap.objs.size f cdv)) → sp vs H Q E →
      ∃ t, PSs (cxOf CX P w K mg base N qual scope f cdv A outer s H E) body t ∧ t { nx := fun _ H' => Q .non H', rt := Q } (start N vs) H) :
    FnOk P w K mg base CX (k + 1) f (PySem.W.fnOf name qual params body scope dV kV doc pm an cdv ct) ps sp := by
  refine ⟨len, fun A outer s H args us vs Q E hr e0 hb r hsp => ?_⟩
  have hl := len _ _ _ _ hsp
  have KX : K.In s.heap := e0.mod.kin.keeps fun b o e => (e0.bs b o e).1
  have lim : s.heap.NoLimit := e0.mod.nolimit.keeps fun b o e => (e0.bs b o e).1
  have hkind : ∀ y ∈ ps.zip us, scope.names.lookup y.1 = some .local ∨ (scope.names.lookup y.1 = some .cell ∧ ((cellsFrom (s.heap.objs.size + 1) scope.names []).lookup y.1).isSome = true) := fun ⟨n, v⟩ hy => by
    rcases S.par n (List.of_mem_zip hy).1 with q | q
    · exact .inl q
    · exact .inr ⟨q, PySem.W.cellsFrom_some _ _ _ (.inl q)⟩
  refine codeAny_call_function hr.depth (KX _ _ lk) rfl S.co S.gen rfl (PySem.W.codeRec_of KX hcd) (hb _ _ _ _ ?_)
  refine wpAny_newFunctionEnv_cells S.kind hkind fun env he s1 x => ?_
  subst he
  refine ⟨lim.keeps x.toInCall.keep, codeAny_func ?_⟩
  obtain ⟨t, ht, hq⟩ := hbody A outer s H vs Q E (hr.deeper _) hsp
  have I : Inv (cxOf CX P w K mg base N qual scope f cdv A outer s H E) [] (start N vs) H s1 := inv_start S hr.hd e0 hl r x
  refine wpAny_mono (ht [] s1 (start N vs) H _ I hq) (fun fl s' hs => ?_) fun e s' hs => hs
  have fin : ∀ {σ' : St} {H' : Hp} {v : V} {u : Value}, Inv (cxOf CX P w K mg base N qual scope f cdv A outer s H E) [] σ' H' s' → RelV v u → Q v H' → CE outer P w H s Q u s' :=
    fun {σ' H' v u} J rv q => ⟨v, H', J.os, J.bare, J.base, J.hok, rv, q⟩
  cases fl with
  | ret u =>
    obtain ⟨v, σ', H', J, rv, q⟩ := hs
    exact fin J rv q
  | next =>
    obtain ⟨σ', H', J, q⟩ := hs
    exact fin (v := V.non) (u := Value.none) J rfl q
  | brk =>
    obtain ⟨_, _, _, q⟩ := hs
    exact False.elim q
  | cont =>
    obtain ⟨_, _, _, q⟩ := hs
    exact False.elim q
end L2
namespace L2
open PySem PySem.Spec PyProof.Rows
section
variable {X : Cx} {x : Str} {p pos : Pos} {e : Expr} {es : List Expr} {t : TA} {id T : String} {r : List V → Hp → VK → Prop}
def tCB (r : List V → Hp → VK → Prop) (t : TA) : TE := fun σ H Q => t σ H fun vs H1 => r vs H1 Q
theorem pe_callB (hc : CallR X (.builtin id) r) (hg : Gl X x) (hm : X.mg x = none) (hv : bootBuiltins x = some (.builtin id)) (ha : PA X (e :: es) t) (hn : x ≠ "__name__" := by decide) (hdb : (x == ("__debug__" : Str)) = false := by decide)
    (he : starEach (e :: es) X.env = (false, eval e X.env) :: starEach es X.env := by rfl) (hpl : (backTo pos (starEach es X.env)).any (·.1) = false := by rfl) : PE X (.Call (.Name x p) (e :: es) [] pos) (tCB r t) := by
  intro pins s σ H Q I h
  refine wpAny_Call_Name_kw (ld_blt I hg hm hv ?_ hn hdb)
  exact PyProof.Rows.callWith_builtin1 (thn (ha pos pins s σ H _ I h) fun us s1 ⟨vs, H1, I1, r1, q1⟩ => hc pins s1 σ H1 vs us Q I1 r1 q1) he hpl
theorem pe_callTy (hc : CallR X (.type T) r) (hg : Gl X x) (hm : X.mg x = none) (hv : bootBuiltins x = some (.type T)) (ha : PA X (e :: es) t) (hn : x ≠ "__name__" := by decide) (hdb : (x == ("__debug__" : Str)) = false := by decide)
    (he : starEach (e :: es) X.env = (false, eval e X.env) :: starEach es X.env := by rfl) (hpl : (backTo pos (starEach es X.env)).any (·.1) = false := by rfl) : PE X (.Call (.Name x p) (e :: es) [] pos) (tCB r t) := by
  intro pins s σ H Q I h
  refine wpAny_Call_Name_kw (ld_blt I hg hm hv ?_ hn hdb)
  exact PyProof.Rows.callWith_type1 (thn (ha pos pins s σ H _ I h) fun us s1 ⟨vs, H1, I1, r1, q1⟩ => hc pins s1 σ H1 vs us Q I1 r1 q1) he hpl
end
end L2
namespace HT
open PySem PyProof.Rows
section
open PySem.SeqAt
open PySem.AutoSeq1 (wpAny_loadPart')
open PySem.MeetsSeq PySem.MeetsSeq2 PySem.MeetsSeq3
end
section
variable {prog : Program} {w : World} {A : Around} {E : Value → Shared → Prop} {s : Shared}
theorem cat_tup {t b : Addr} {vs ws : List Value} {Q : Value → Shared → Prop} (ht : IsTup s.heap t vs.toArray) (hb : IsTup s.heap b ws.toArray) (hv : vs ≠ [])
    (h1 : ws = [] → Q (.ref t) s) (h2 : ws ≠ [] → Q (.ref s.heap.objs.size) { s with heap := s.heap.push { cls := .type "tuple", data := .seq (vs ++ ws).toArray } })
    (hsz : vs.length + ws.length ≤ sizeLine) : wpAny (model prog w) A (binaryOp .Add (.ref t) (.ref b)) Q E s := by
  obtain ⟨⟨cls, dd, data, sl⟩, ho, hc, n, hd⟩ := id ht
  obtain ⟨⟨cls2, dd2, data2, sl2⟩, ho2, hc2, n2, hd2⟩ := id hb
  simp only at hc hd hc2 hd2
  subst hc hd hc2 hd2
  have e : vs.toArray ++ ws.toArray = (vs ++ ws).toArray := by simp
  by_cases hw : ws = []
  · exact concat_meets ⟨_, ho, rfl⟩ ⟨_, ho2, rfl⟩ noFill_tuple_add seq_tuple_add PySem.F.slot_tuple_add PySem.F.entry_tuple_add (PySem.F.args_tuple_add_2 _ _)
      (tuple_addW1 t b vs.toArray ws.toArray n n2 dd dd2 sl sl2 (by simpa using hv) (by simp [hw])) ⟨ho, ho2, h1 hw⟩
  · refine concat_meets ⟨_, ho, rfl⟩ ⟨_, ho2, rfl⟩ noFill_tuple_add seq_tuple_add PySem.F.slot_tuple_add PySem.F.entry_tuple_add (PySem.F.args_tuple_add_2 _ _)
      (tuple_addW2 t b vs.toArray ws.toArray n n2 dd dd2 sl sl2 (by simpa using hv) (by simpa using hw) (by rw [List.size_toArray, List.size_toArray]; exact hsz)) ⟨ho, ho2, ?_⟩
    rw [e]
    exact h2 hw
def sIx (n d : Nat) : Option Int → Nat
  | none => d
  | some v => if v < 0 then (v + (n : Int)).toNat else min v.toNat n
theorem sIx_none (n d : Nat) : sIx n d none = d := rfl
theorem sIx_nat (n d k : Nat) : sIx n d (some (k : Int)) = min k n := by
  show (if (k : Int) < 0 then ((k : Int) + (n : Int)).toNat else min (k : Int).toNat n) = min k n
  rw [if_neg (by omega), Int.toNat_natCast]
theorem sIx_le (n d : Nat) (hd : d ≤ n) (o : Option Int) : sIx n d o ≤ n := by
  cases o with
  | none => exact hd
  | some v =>
    show (if v < 0 then (v + (n : Int)).toNat else min v.toNat n) ≤ n
    by_cases hv : v < 0
    · rw [if_pos hv]; omega
    · rw [if_neg hv]; exact Nat.min_le_right _ _
theorem clip_eq (v : Int) (n d : Nat) : (if v < 0 then max (v + (n : Int)) 0 else min v (n : Int)) = ((sIx n d (some v) : Nat) : Int) := by
  show (if v < 0 then max (v + (n : Int)) 0 else min v (n : Int)) = (((if v < 0 then (v + (n : Int)).toNat else min v.toNat n) : Nat) : Int)
  by_cases hv : v < 0
  · simp only [if_pos hv]; omega
  · simp only [if_neg hv]; omega
theorem adjust_gen (lo hi : Option Int) (n : Nat) : Builtin.Slice.sliceAdjust lo hi 1 (n : Int) = (((sIx n 0 lo : Nat) : Int), ((sIx n n hi : Nat) : Int)) := by
  have h1 : ¬ ((1 : Int) < 0) := by omega
  unfold Builtin.Slice.sliceAdjust
  simp only [h1, if_false]
  refine Prod.ext ?_ ?_
  · cases lo with
    | none => rfl
    | some v => exact clip_eq v n 0
  · cases hi with
    | none => rfl
    | some v => exact clip_eq v n n
theorem places_gen (i j : Nat) : Builtin.Slice.slicePlaces (i : Int) (j : Int) 1 = j - i := by
  unfold Builtin.Slice.slicePlaces
  have h1 : (1 : Int) > 0 := by omega
  simp only [h1, if_true, Int.ediv_one]
  split <;> omega
theorem slicePart_ {v : Value} {o : Option Int} {Q : Option Int → Shared → Prop} (p : IsPart v o) (h : Q o s) : wpAny (model prog w) A (Builtin.Slice.slicePartIndex v) Q E s := by
  cases p with
  | none => exact slicePart_none h
  | int i t => exact slicePart_int h
theorem sliceApplied_gen {sl : Addr} {vl vu : Value} {lo hi : Option Int} {n : Nat} {Q : Int × Int × Nat → Shared → Prop} (hs : s.heap.IsSliceOf sl vl vu .none) (pl : IsPart vl lo) (pu : IsPart vu hi)
    (h : Q (((sIx n 0 lo : Nat) : Int), 1, sIx n n hi - sIx n 0 lo) s) : wpAny (model prog w) A (Builtin.Slice.sliceApplied (.ref sl) (pure (n : Int))) Q E s := by
  obtain ⟨os, hos, hcs, hds⟩ := id hs
  unfold Builtin.Slice.sliceApplied Builtin.Slice.sliceFields
  refine wpAny_bind (wpAny_bind (wpAny_field hos hds (x := vl) rfl (wpAny_bind (wpAny_field hos hds (x := vu) rfl (wpAny_bind (wpAny_field hos hds (x := .none) rfl (wpAny_pure ?_)))))))
  refine wpAny_bind (slicePart_none ?_)
  show wpAny _ _ (if ((1 : Int) == 0) = true then _ else _) _ _ s
  rw [if_neg (by decide)]
  refine wpAny_bind (slicePart_ pl (wpAny_bind (slicePart_ pu (wpAny_bind (wpAny_pure ?_)))))
  show wpAny _ _ (match Builtin.Slice.sliceAdjust lo hi 1 (n : Int) with | (lo, hi) => pure (lo, (1 : Int), Builtin.Slice.slicePlaces lo hi 1)) _ _ s
  rw [adjust_gen lo hi n]
  show wpAny _ _ (pure (((sIx n 0 lo : Nat) : Int), (1 : Int), Builtin.Slice.slicePlaces ((sIx n 0 lo : Nat) : Int) ((sIx n n hi : Nat) : Int) 1)) _ _ s
  rw [places_gen]
  exact wpAny_pure h
theorem pick_gen (xs : Array Value) (i k : Nat) : ((List.range k).filterMap fun (m : Nat) => xs[((i : Int) + (m : Int) * 1).toNat]?).toArray = ((xs.toList.drop i).take k).toArray := by
  have e : (fun (m : Nat) => xs[((i : Int) + (m : Int) * 1).toNat]?) = fun m => xs[i + m]? := by
    funext m
    have : ((i : Int) + (m : Int) * 1).toNat = i + m := by omega
    rw [this]
  rw [e]
  have := pick_run xs i k
  rw [List.filterMap_map] at this
  have e2 : ((fun x => xs[x]?) ∘ fun x => i + x) = fun m => xs[i + m]? := rfl
  rw [e2] at this
  rw [this]
theorem getItem_tuple_cut {t sl : Addr} {items : Array Value} {vl vu : Value} {lo hi : Option Int} {Q : Value → Shared → Prop} (ht : IsTup s.heap t items) (hs : s.heap.IsSliceOf sl vl vu .none) (pl : IsPart vl lo) (pu : IsPart vu hi)
    (hw : ¬ (sIx items.size 0 lo = 0 ∧ sIx items.size items.size hi = items.size))
    (h : Q (.ref s.heap.objs.size) { s with heap := s.heap.push { cls := .type "tuple", data := .seq ((items.toList.drop (sIx items.size 0 lo)).take (sIx items.size items.size hi - sIx items.size 0 lo)).toArray } })
    (hsz : items.size ≤ sizeLine) : wpAny (model prog w) A (getItem (.ref t) (.ref sl)) Q E s := by
  have htake : sizeOk (.seq ((items.toList.drop (sIx items.size 0 lo)).take (sIx items.size items.size hi - sIx items.size 0 lo)).toArray) := by
    show ((items.toList.drop (sIx items.size 0 lo)).take (sIx items.size items.size hi - sIx items.size 0 lo)).toArray.size ≤ sizeLine
    rw [List.size_toArray, List.length_take, List.length_drop, Array.length_toList]
    omega
  have hj : sIx items.size items.size hi ≤ items.size := sIx_le _ _ (Nat.le_refl _) hi
  obtain ⟨os, hos, hcs, hds⟩ := id hs
  have hTs : s.TypeIs (.ref sl) "slice" := ⟨os, hos, hcs⟩
  unfold getItem
  try with_reducible refine wpAny_holding ?_
  first | refine wpAny_bind (wpAny_pure ?_) | skip
  refine wpAny_bind (wpAny_sequenceKey ht.typeIs (by decide) ?_)
  refine wpAny_bind (wpAny_callSpecial?_slot (name := Str.ofString "__getitem__") ht.typeIs PyProof.Rows.slot_tuple_getitem
    (wpAny_call_entry PyProof.Rows.slot_tuple_getitem ht.typeIs entry_tuple_getitem ?_ (args_tuple_getitem _ _)))
  show wpAny _ _ (Builtin.Tuple.tupleItemsOf (.ref t) >>= _) _ _ s
  refine wpAny_bind (tupleItemsOf_ ht ?_)
  refine wpAny_bind (wpAny_typeOf hTs ?_)
  rw [if_pos (by decide)]
  refine wpAny_bind (sliceApplied_gen hs pl pu ?_)
  have hno : ¬ ((((sIx items.size 0 lo : Nat) : Int) == 0 && (1 : Int) == 1 && (sIx items.size items.size hi - sIx items.size 0 lo) == items.size) = true) := by
    intro q
    rw [Bool.and_eq_true, Bool.and_eq_true] at q
    have q1 : ((sIx items.size 0 lo : Nat) : Int) = 0 := eq_of_beq q.1.1
    have q2 : sIx items.size items.size hi - sIx items.size 0 lo = items.size := eq_of_beq q.2
    exact hw ⟨by omega, by omega⟩
  show wpAny _ _ (if (((sIx items.size 0 lo : Nat) : Int) == 0 && (1 : Int) == 1 && (sIx items.size items.size hi - sIx items.size 0 lo) == items.size) = true then _ else _) _ _ s
  rw [if_neg hno, pick_gen]
  first
    | exact wpAny_bind (m := Builtin.Tuple.tupleExact _) (wpAny_newObj_type (wpAny_pure ⟨_, rfl, wpAny_pure h⟩) htake)
    | exact wpAny_bind (m := Builtin.Tuple.tupleExact _) (wpAny_newObj_type (wpAny_bind (wpAny_pure (wpAny_pure ⟨_, rfl, wpAny_pure h⟩))) htake)
    | exact wpAny_bind (wpAny_bind (m := Builtin.Tuple.tupleExact _) (wpAny_newObj_type (wpAny_pure (wpAny_pure ⟨_, rfl, wpAny_pure h⟩)) htake))
    | exact wpAny_bind (wpAny_bind (m := Builtin.Tuple.tupleExact _) (wpAny_newObj_type (wpAny_pure ⟨_, rfl, wpAny_pure h⟩) htake))
end
end HT
namespace L2
open PySem PySem.Spec PyProof.Rows
abbrev TO := St → Hp → (Option Int → Hp → Prop) → Prop
def PO (X : Cx) (e : Option Expr) (t : TO) : Prop :=
  ∀ (pins : List (Addr × Obj)) (s : Shared) (σ : St) (H : Hp) (Q : Option Int → Hp → Prop), Inv X pins σ H s → t σ H Q →
    wpAny (model X.prog X.w) X.A (evalPart e X.env) (fun u s' => ∃ o H', Inv X pins σ H' s' ∧ IsPart u o ∧ Q o H') X.xe s
def tNoPart : TO := fun _ H Q => Q none H
def tPart (t : TE) : TO := fun σ H Q => t σ H fun x H1 => ∃ i, x = .int i ∧ Q (some i) H1
theorem intsAre_of {ns : List Int} : ∀ {us : List Value}, Vals (ns.map V.int) us → IntsAre us ns := by
  induction ns with
  | nil => intro us r; rw [List.map_nil] at r; cases r; exact .nil
  | cons n ns ih =>
    intro us r
    rw [List.map_cons] at r
    cases r with
    | cons r1 r2 =>
      obtain ⟨t, e⟩ := r1
      subst e
      exact .cons n t (ih r2)
section
variable {X : Cx} {e : Expr} {te : TE} {lo hi : Option Expr} {tl th : TO} {pos p2 : Pos}
theorem po_none : PO X none tNoPart := by
  intro pins s σ H Q I h
  rw [evalPart_none]
  exact wpAny_pure ⟨none, H, I, .none, h⟩
theorem po_some (h : PE X e te) : PO X (some e) (tPart te) := by
  intro pins s σ H Q I hw
  rw [evalPart_some]
  refine thn (h pins s σ H _ I hw) fun u s1 ⟨x, H1, I1, r1, q1⟩ => ?_
  obtain ⟨i, rfl, q⟩ := q1
  obtain ⟨t, rfl⟩ := r1
  exact ⟨some i, H1, I1, .int i t, q⟩
def SlR (X : Cx) (r : V → Option Int → Option Int → Hp → VK → Prop) : Prop :=
  ∀ (pins : List (Addr × Obj)) (s : Shared) (σ : St) (H : Hp) (x : V) (v vl vu : Value) (lo hi : Option Int) (sl : Addr) (Q : VK), Inv X pins σ H s → RelV x v → s.heap.IsSliceOf sl vl vu .none → IsPart vl lo → IsPart vu hi → r x lo hi H Q →
    ∃ T id, typeLookup (.type T) "__getitem__" = pure (some (.builtin id)) ∧ s.TypeIs v T ∧ wpAny (model X.prog X.w) X.A (getItem v (.ref sl)) (EP X pins σ Q) X.xe s
def tSl (r : V → Option Int → Option Int → Hp → VK → Prop) (te : TE) (tl th : TO) : TE := fun σ H Q => te σ H fun x H1 => tl σ H1 fun l H2 => th σ H2 fun u H3 => r x l u H3 Q
theorem pe_slice {r : V → Option Int → Option Int → Hp → VK → Prop} (hr : SlR X r) (he : PE X e te) (hl : PO X lo tl) (hu : PO X hi th) : PE X (.Subscript e (.Slice lo hi none p2) pos) (tSl r te tl th) := by
  intro pins s σ H Q I h
  refine Subscript_ (thn (he pins s σ H _ I h) fun v s1 ⟨x, H1, I1, r1, q1⟩ => ?_)
  refine wpAny_Slice (thn (hl pins s1 σ H1 _ I1 q1) fun vl s2 ⟨l, H2, I2, pl, q2⟩ => thn (hu pins s2 σ H2 _ I2 q2) fun vu s3 ⟨u, H3, I3, pu, q3⟩ => ?_)
  rw [evalPart_none]
  refine wpAny_pure ?_
  have I4 : Inv X pins σ H3 { s3 with heap := s3.heap.push { cls := .type "slice", data := .fields #[vl, vu, .none] } } := I3.kept (t' := s3.toks) fun b ob q => Heap.get?_push_of_some _ q
  obtain ⟨T, id, hT, ht, hg⟩ := hr pins { s3 with heap := s3.heap.push { cls := .type "slice", data := .fields #[vl, vu, .none] } } σ H3 x v vl vu l u s3.heap.objs.size Q I4 r1 (Heap.IsSliceOf.new ..) pl pu q3
  show wpAny (model X.prog X.w) X.A (subscriptTail e (.Slice lo hi none p2) v (.ref s3.heap.objs.size)) (EP X pins σ Q) X.xe { s3 with heap := s3.heap.push { cls := .type "slice", data := .fields #[vl, vu, .none] } }
  exact tail_any (ops := [.ref s3.heap.objs.size, v]) ht hT hg (by with_unfolding_all rfl)
def cutV (xs : List V) (lo hi : Option Int) : List V := (xs.drop (HT.sIx xs.length 0 lo)).take (HT.sIx xs.length xs.length hi - HT.sIx xs.length 0 lo)
theorem cutV_length (xs : List V) (lo hi : Option Int) : (cutV xs lo hi).length ≤ xs.length := by
  unfold cutV
  rw [List.length_take, List.length_drop]
  omega
def rSlT (K : PySem.W.Frag) : V → Option Int → Option Int → Hp → VK → Prop := fun x lo hi H Q => ∃ a xs, x = .ref a ∧ SqT K H a xs ∧
  ¬ (HT.sIx xs.length 0 lo = 0 ∧ HT.sIx xs.length xs.length hi = xs.length) ∧ ∀ p, H p = none → Q (.ref p) (upd H p (.tup (cutV xs lo hi)))
theorem sl_tup : SlR X (rSlT X.K) := by
  intro pins s σ H x v vl vu lo hi sl Q I rx hs pl pu h
  obtain ⟨a, xs, rfl, hx, hw, q⟩ := h
  cases rx
  obtain ⟨its, r, ht, hz⟩ := I.tuple hx
  have hlen : its.toArray.size = xs.length := by rw [List.size_toArray]; exact r.length.symm
  refine ⟨"tuple", _, PyProof.Rows.slot_tuple_getitem.lookup, ht.typeIs, ?_⟩
  refine HT.getItem_tuple_cut ht hs pl pu (by rw [hlen]; exact hw) ?_ (by rw [hlen]; exact hz)
  rw [hlen]
  refine ⟨.ref s.heap.objs.size, _, I.laid (t' := s.toks) (o := .tup (cutV xs lo hi)) (fun b ob q => Heap.get?_push_of_some _ q) (Nat.le_refl _) ?_, rfl, q _ (I.hok.fresh (Nat.le_refl _))⟩
  exact ⟨Nat.le_trans (cutV_length xs lo hi) hz, _, 0, (r.drop (HT.sIx xs.length 0 lo)).take (HT.sIx xs.length xs.length hi - HT.sIx xs.length 0 lo), Heap.get?_push_size _ rfl⟩
def rCatT (K : PySem.W.Frag) : R2 := fun x y H Q => ∃ a b xs ys, x = .ref a ∧ y = .ref b ∧ SqT K H a xs ∧ SqT K H b ys ∧ xs ≠ [] ∧ xs.length + ys.length ≤ sizeLine ∧
  (ys = [] → Q (.ref a) H) ∧ (ys ≠ [] → ∀ p, H p = none → Q (.ref p) (upd H p (.tup (xs ++ ys))))
theorem Vals.nil_iff {xs : List V} {us : List Value} (r : Vals xs us) : us = [] ↔ xs = [] := by
  cases r with
  | nil => simp
  | cons _ _ => simp
theorem op_catT : OpR X (binaryOp .Add) (rCatT X.K) := by
  intro pins s σ H x y v u Q I rx ry h
  obtain ⟨a, b, xs, ys, rfl, rfl, ha, hb, hx, hz, q1, q2⟩ := h
  cases rx
  cases ry
  obtain ⟨its, r1, p1, _⟩ := I.tuple ha
  obtain ⟨its2, r2, p2, _⟩ := I.tuple hb
  refine HT.cat_tup p1 p2 (fun z => hx (r1.nil_iff.mp z)) (fun z => ⟨.ref a, H, I, rfl, q1 (r2.nil_iff.mp z)⟩) (fun z => ?_) (by rw [← r1.length, ← r2.length]; exact hz)
  refine ⟨.ref s.heap.objs.size, _, I.laid (t' := s.toks) (o := .tup (xs ++ ys)) (fun b ob q => Heap.get?_push_of_some _ q) (Nat.le_refl _) ?_, rfl, q2 (fun w => z (r2.nil_iff.mpr w)) _ (I.hok.fresh (Nat.le_refl _))⟩
  exact ⟨by rw [List.length_append]; exact hz, _, 0, r1.append r2, Heap.get?_push_size _ rfl⟩
end
end L2
namespace L2
open PySem PySem.Spec PyProof.Rows
def ixN (n : Nat) (i : Int) : Option Nat := if 0 ≤ i then (if i < n then some i.toNat else none) else if -(n : Int) ≤ i then some (i + n).toNat else none
def atI {α : Type} (xs : List α) (i : Int) : Option α := (ixN xs.length i).bind fun j => xs[j]?
theorem ixN_seq {n : Nat} {i : Int} {j : Nat} (h : ixN n i = some j) : seqIndex? i n = some j ∧ j < n ∧ -(n : Int) ≤ i ∧ i < n := by
  unfold ixN at h
  by_cases h0 : 0 ≤ i
  · rw [if_pos h0] at h
    by_cases h1 : i < n
    · rw [if_pos h1] at h
      have e : i.toNat = j := Option.some.inj h
      exact ⟨by rw [seqIndex_of h0 h1, e], by omega, by omega, h1⟩
    · rw [if_neg h1] at h; cases h
  · rw [if_neg h0] at h
    by_cases h1 : -(n : Int) ≤ i
    · rw [if_pos h1] at h
      have e : (i + n).toNat = j := Option.some.inj h
      exact ⟨by rw [seqIndex_neg (by omega) h1, e], by omega, h1, by omega⟩
    · rw [if_neg h1] at h; cases h
theorem atI_get {α : Type} {xs : List α} {i : Int} {v : α} (h : atI xs i = some v) : ∃ j, seqIndex? i xs.length = some j ∧ xs[j]? = some v ∧ j < xs.length ∧ -(xs.length : Int) ≤ i ∧ i < xs.length := by
  unfold atI at h
  cases e : ixN xs.length i with
  | none => rw [e] at h; cases h
  | some j =>
    rw [e] at h
    obtain ⟨h1, h2, h3, h4⟩ := ixN_seq e
    exact ⟨j, h1, h, h2, h3, h4⟩
theorem atI_nat {α : Type} {xs : List α} {j : Nat} {v : α} (h : xs[j]? = some v) : atI xs (j : Int) = some v := by
  have hj : j < xs.length := (List.getElem?_eq_some_iff.mp h).1
  have e : ixN xs.length (j : Int) = some j := by
    unfold ixN
    rw [if_pos (by omega), if_pos (by omega)]; simp
  unfold atI; rw [e]; exact h
def PlainIx (b : Expr) : Prop := ∀ o i, subscripted b false o i = operate [o, i] (getItem o i)
def IxR (X : Cx) (r : R2) : Prop :=
  ∀ (value slice : Expr) (pins : List (Addr × Obj)) (s : Shared) (σ : St) (H : Hp) (x y : V) (v u : Value) (Q : VK), Inv X pins σ H s → RelV x v → RelV y u → r x y H Q →
    subscripted slice false v u = operate [v, u] (getItem v u) → wpAny (model X.prog X.w) X.A (subscriptTail value slice v u) (EP X pins σ Q) X.xe s
def MtR (X : Cx) (id : String) (r : V → List V → Hp → VK → Prop) : Prop :=
  ∀ (pins : List (Addr × Obj)) (s : Shared) (σ : St) (H : Hp) (x : V) (xs : List V) (v : Value) (us : List Value) (Q : VK), Inv X pins σ H s → RelV x v → Vals xs us → r x xs H Q →
    wpAny (model X.prog X.w) X.A (call (.builtin id) (v :: us)) (EP X pins σ Q) X.xe s
section
variable {X : Cx} {a b : Expr} {ta tb : TE} {pos : Pos}
theorem pe_ix {r : R2} (hr : IxR X r) (ha : PE X a ta) (hb : PE X b tb) (hs : PlainIx b) : PE X (.Subscript a b pos) (tOp r ta tb) := by
  intro pins s σ H Q I h
  exact Subscript_ (binT ha hb I h fun v u s2 x y H2 I2 rx ry q => hr a b pins s2 σ H2 x y v u Q I2 rx ry q (hs _ _))
def rIxL (K : PySem.W.Frag) : R2 := fun x y H Q => ∃ p xs i v, x = .ref p ∧ y = .int i ∧ SqL K H p xs ∧ atI xs i = some v ∧ Q v H
def rIxT (K : PySem.W.Frag) : R2 := fun x y H Q => ∃ p xs i v, x = .ref p ∧ y = .int i ∧ SqT K H p xs ∧ atI xs i = some v ∧ Q v H
def rIxS : R2 := fun x y H Q => ∃ z i c, x = .str z ∧ y = .int i ∧ z.length ≤ sizeLine ∧ atI z.cps.toList i = some c ∧ Q (.str ⟨#[c]⟩) H
theorem ix_list : IxR X (rIxL X.K) := by
  intro value slice pins s σ H x y v u Q I rx ry h hs
  obtain ⟨p, xs, i, z, rfl, rfl, hq, he, q⟩ := h
  cases rx
  obtain ⟨t, rfl⟩ := ry
  obtain ⟨its, r, pl, hz⟩ := I.list hq
  obtain ⟨j, h1, h2, h3, h4, h5⟩ := atI_get he
  obtain ⟨w, ew, rw'⟩ := r.get h2
  have hl := r.length
  have hn := line63
  have fin : EP X pins σ Q w s := ⟨z, H, I, rw', q⟩
  by_cases h0 : 0 ≤ i
  · have hj : i.toNat = j := by
      rw [seqIndex_of h0 h5] at h1
      exact Option.some.inj h1
    exact item_listR pl.isList h0 (by omega) (by rw [hj]; simpa using ew) fin hs
  · have hj : (i + (its.toArray.size : Int)).toNat = j := by
      rw [seqIndex_neg (by omega) h4] at h1
      rw [List.size_toArray, ← hl]
      exact Option.some.inj h1
    exact subscriptTail_builtinR (x := w) pl.isList.typeIs slot_list_getitem.lookup
      (wpAny_getItem_list_neg (Q := fun r s' => r = w ∧ EP X pins σ Q r s') pl.isList (by omega) (by rw [List.size_toArray] <;> omega) (by omega) (by rw [hj]; simpa using ew) ⟨rfl, fin⟩) hs
theorem ix_tup : IxR X (rIxT X.K) := by
  intro value slice pins s σ H x y v u Q I rx ry h hs
  obtain ⟨p, xs, i, z, rfl, rfl, hq, he, q⟩ := h
  cases rx
  obtain ⟨t, rfl⟩ := ry
  obtain ⟨its, r, pl, hz⟩ := I.tuple hq
  obtain ⟨j, h1, h2, h3, h4, h5⟩ := atI_get he
  obtain ⟨w, ew, rw'⟩ := r.get h2
  have hl := r.length
  have hn := line63
  have fin : EP X pins σ Q w s := ⟨z, H, I, rw', q⟩
  exact subscriptTail_builtinR (x := w) pl.typeIs slot_tuple_getitem.lookup
    (getItem_tuple (j := j) (Q := fun r s' => r = w ∧ EP X pins σ Q r s') pl (by omega) (by omega) (by rw [List.size_toArray, ← hl]; exact h1) (by simpa using ew) ⟨rfl, fin⟩) hs
theorem ix_str : IxR X rIxS := by
  intro value slice pins s σ H x y v u Q I rx ry h hs
  obtain ⟨z, i, c, rfl, rfl, hz, he, q⟩ := h
  obtain ⟨t, rfl⟩ := rx
  obtain ⟨t', rfl⟩ := ry
  obtain ⟨j, h1, h2, h3, h4, h5⟩ := atI_get he
  have hl : z.cps.toList.length = z.length := by simp [Str.length]
  rw [hl] at h1 h4 h5
  have hn := line63
  exact tail_any (typeIs_str s z t) slot_str_getitem.lookup (getItem_str (c := c) (by
    have e1 : decide (i < -(2 ^ 63 : Int)) = false := decide_eq_false (by omega)
    have e2 : decide (i ≥ 2 ^ 63) = false := decide_eq_false (by omega)
    rw [e1, e2, Bool.or_false]) (by rw [h1]; simpa using h2) ⟨.str ⟨#[c]⟩, H, I.tok _, ⟨_, rfl⟩, q⟩) hs
theorem mapSeq_set (its : List Value) (n j : Nat) (u : Value) : Obj.mapSeq (·.setIfInBounds j u) { cls := .type "list", data := .seq its.toArray n } = { cls := .type "list", data := .seq (its.set j u).toArray n } := by
  simp [Obj.mapSeq]
theorem Inv.lst {pins : List (Addr × Obj)} {σ : St} {H : Hp} {s : Shared} {p : Addr} {xs : List V} (I : Inv X pins σ H s) (h : H p = some (.lst xs)) :
    ∃ (its : List Value) (n : Nat), Vals xs its ∧ s.heap.get? p = some { cls := .type "list", data := .seq its.toArray n } ∧ xs.length ≤ sizeLine := by
  obtain ⟨z, its, n, r, e⟩ := I.hok p _ h
  exact ⟨its, n, r, e, z⟩
theorem Inv.lstUpd {pins : List (Addr × Obj)} {σ : St} {H : Hp} {s : Shared} {p : Addr} {xs ys : List V} {its its' : List Value} {n n' : Nat} {f : Obj → Obj} (I : Inv X pins σ H s) (h : H p = some (.lst xs))
    (ho : s.heap.get? p = some { cls := .type "list", data := .seq its.toArray n }) (hf : f { cls := .type "list", data := .seq its.toArray n } = { cls := .type "list", data := .seq its'.toArray n' }) (r : Vals ys its') (hz : ys.length ≤ sizeLine) (t : Nat) :
    Inv X pins σ (upd H p (.lst ys)) { s with heap := s.heap.update p f, toks := t } := by
  have e : (s.heap.update p f).get? p = some { cls := .type "list", data := .seq its'.toArray n' } := by
    rw [Heap.get?_update_self f ho (by rw [hf] <;> rfl), hf]
  refine I.write (x := p) (e := p) (by rw [h]; trivial) (.inl rfl) (fun b u hb q => (Heap.get?_update_other _ _ (Ne.symm hb)).trans q) ⟨_, e⟩ ?_
  exact ⟨hz, its', n', r, e⟩
def rSetL : V → V → V → Hp → (Hp → Prop) → Prop := fun o i v H Q => ∃ p xs k j, o = .ref p ∧ i = .int k ∧ H p = some (.lst xs) ∧ ixN xs.length k = some j ∧ Q (upd H p (.lst (xs.set j v)))
theorem set_list : PSet X rSetL := by
  intro pins s σ H o i v ov iv u Q I ro ri rv h
  obtain ⟨p, xs, k, j, rfl, rfl, hp, hj, q⟩ := h
  cases ro
  obtain ⟨t, rfl⟩ := ri
  obtain ⟨its, n, r, ho, hz⟩ := I.lst hp
  obtain ⟨h1, h2, h3, h4⟩ := ixN_seq hj
  have hl := r.length
  have hn := line63
  have I' : Inv X pins σ (upd H p (.lst (xs.set j v))) { s with heap := s.heap.update p (Obj.mapSeq (·.setIfInBounds j u)) } :=
    I.lstUpd hp ho (mapSeq_set its n j u) (r.set rv j) (by rw [List.length_set]; exact hz) s.toks
  by_cases h0 : 0 ≤ k
  · have hk : k.toNat = j := by
      rw [seqIndex_of h0 h4] at h1
      exact Option.some.inj h1
    exact PySem.W.ki_setAt ho h0 (by omega) (by rw [List.size_toArray, ← hl]; exact h4) (by rw [hk]; exact ⟨_, I', q⟩)
  · have hk : (k + (its.toArray.size : Int)).toNat = j := by
      rw [seqIndex_neg (by omega) h3] at h1
      rw [List.size_toArray, ← hl]
      exact Option.some.inj h1
    exact PySem.W.ki_setBack ho (by omega) (by rw [List.size_toArray, ← hl]; exact h3) (by omega) (by rw [hk]; exact ⟨_, I', q⟩)
theorem slice_bounds (lo hi : Option Int) (n : Nat) : (sliceBounds lo hi none n).1 = ((HT.sIx n 0 lo : Nat) : Int) ∧ (sliceBounds lo hi none n).2.1 = ((HT.sIx n n hi : Nat) : Int) ∧ (sliceBounds lo hi none n).2.2 = 1 := by
  refine ⟨?_, ?_, rfl⟩
  · cases lo with
    | none => simp [sliceBounds, HT.sIx]
    | some i =>
      simp only [sliceBounds, HT.sIx, Option.getD_none, show (1 : Int) > 0 by decide, if_true]
      by_cases h : i < 0
      · simp only [h, if_true] <;> omega
      · simp only [h, if_false] <;> omega
  · cases hi with
    | none => simp [sliceBounds, HT.sIx]
    | some i =>
      simp only [sliceBounds, HT.sIx, Option.getD_none, show (1 : Int) > 0 by decide, if_true]
      by_cases h : i < 0
      · simp only [h, if_true] <;> omega
      · simp only [h, if_false] <;> omega
theorem slicePick_cut (its : List Value) (lo hi : Option Int) : slicePick its.toArray lo hi none = ((its.drop (HT.sIx its.length 0 lo)).take (HT.sIx its.length its.length hi - HT.sIx its.length 0 lo)).toArray := by
  obtain ⟨h1, h2, h3⟩ := slice_bounds lo hi its.toArray.size
  unfold slicePick
  rw [h1, h2, h3]
  simp only [sliceRange_one, pick_run, List.size_toArray] <;> rfl
def rSlL (K : PySem.W.Frag) : V → Option Int → Option Int → Hp → VK → Prop := fun x lo hi H Q => ∃ a xs, x = .ref a ∧ SqL K H a xs ∧ ∀ p, H p = none → Q (.ref p) (upd H p (.lst (cutV xs lo hi)))
theorem sl_list : SlR X (rSlL X.K) := by
  intro pins s σ H x v vl vu lo hi sl Q I rx hs pl pu h
  obtain ⟨a, xs, rfl, hx, q⟩ := h
  cases rx
  obtain ⟨its, r, ht, hz⟩ := I.list hx
  have hlen := r.length
  refine ⟨"list", _, slot_list_getitem.lookup, ht.isList.typeIs, ?_⟩
  refine wpAny_getItem_list_slice ht.isList hs pl pu .none (by simp) ?_ (by rw [List.size_toArray] <;> omega)
  rw [slicePick_cut, ← hlen]
  refine ⟨.ref s.heap.objs.size, _, I.laid (t' := s.toks) (o := .lst (cutV xs lo hi)) (fun b ob q => Heap.get?_push_of_some _ q) (Nat.le_refl _) ?_, rfl, q _ (I.hok.fresh (Nat.le_refl _))⟩
  exact ⟨Nat.le_trans (cutV_length xs lo hi) hz, _, 0, (r.drop (HT.sIx xs.length 0 lo)).take (HT.sIx xs.length xs.length hi - HT.sIx xs.length 0 lo), Heap.get?_push_size _ rfl⟩
theorem call_len_seq : CallR X (.builtin "len") (fun xs H Q => ∃ p ys, xs = [.ref p] ∧ (SqL X.K H p ys ∨ SqT X.K H p ys) ∧ Q (.int ys.length) H) := by
  intro pins s σ H xs us Q I r h
  obtain ⟨p, ys, rfl, hq, q⟩ := h
  obtain ⟨u, rfl, rx⟩ := vals1 r
  cases rx
  have hn := line63
  rcases hq with hq | hq
  · obtain ⟨its, r', pl, hz⟩ := I.list hq
    have hlen := r'.length
    exact Calls.call_len_list pl.isList (by simp only [List.size_toArray] <;> omega) ⟨.int ys.length, H, I.tok _, ⟨s.toks + 1, by rw [List.size_toArray, hlen]⟩, q⟩
  · obtain ⟨its, r', pl, hz⟩ := I.tuple hq
    have hlen := r'.length
    exact len_tuple pl (by simp only [List.size_toArray] <;> omega) ⟨.int ys.length, H, I.tok _, ⟨s.toks + 1, by rw [List.size_toArray, hlen]⟩, q⟩
theorem call_len_str : CallR X (.builtin "len") (fun xs H Q => ∃ z, xs = [.str z] ∧ z.length ≤ sizeLine ∧ Q (.int z.length) H) := by
  intro pins s σ H xs us Q I r h
  obtain ⟨z, rfl, hz, q⟩ := h
  obtain ⟨u, rfl, t, rfl⟩ := vals1 r
  have hn := line63
  exact len_str (by omega) ⟨.int z.length, H, I.tok _, ⟨_, rfl⟩, q⟩
theorem call_tuple_of : CallR X (.type "tuple") (fun xs H Q => ∃ p ys, xs = [.ref p] ∧ ((SqL X.K H p ys ∧ ∀ l, H l = none → Q (.ref l) (upd H l (.tup ys))) ∨ (SqT X.K H p ys ∧ Q (.ref p) H))) := by
  intro pins s σ H xs us Q I r h
  obtain ⟨p, ys, rfl, h⟩ := h
  obtain ⟨u, rfl, rx⟩ := vals1 r
  cases rx
  rcases h with ⟨hq, q⟩ | ⟨hq, q⟩
  · obtain ⟨its, r', pl, hz⟩ := I.list hq
    have hlen := r'.length
    refine call_tuple_list pl.isList (fun h' kp => ?_) (by simp only [List.size_toArray] <;> omega)
    have I1 : Inv X pins σ H { s with heap := h' } := I.kept (t' := s.toks) kp
    have I2 : Inv X pins σ (upd H h'.objs.size (.tup ys)) { s with heap := h'.push { cls := .type "tuple", data := .seq its.toArray } } :=
      I1.laid (t' := s.toks) (fun b o e => Heap.get?_push_of_some _ e) (Nat.le_refl _) (show ObjOk X.prog X.w _ _ _ (.tup ys) from ⟨hz, its, 0, r', Heap.get?_push_size _ rfl⟩)
    exact ⟨.ref h'.objs.size, _, I2, rfl, q _ (I1.hok.fresh (Nat.le_refl _))⟩
  · obtain ⟨its, r', pl, hz⟩ := I.tuple hq
    exact call_tuple_same pl ⟨.ref p, H, I, rfl, q⟩
def tyV (K : PySem.W.Frag) (T : String) (x : V) (H : Hp) : Prop := match x with
  | .str _ => T = "str"
  | .int _ => T = "int"
  | .ref p => (T = "list" ∧ ∃ xs, SqL K H p xs) ∨ (T = "tuple" ∧ ∃ o, K.lookup p = some o ∧ o.cls = .type "tuple" ∧ o.dict = none) ∨
      (T = "dict" ∧ ((∃ kvs, H p = some (.dK kvs)) ∨ ∃ kvs, H p = some (.dT kvs))) ∨ (T = "set" ∧ ∃ S n, H p = some (.set S n))
  | _ => False
theorem tyV_is {pins : List (Addr × Obj)} {σ : St} {H : Hp} {s : Shared} {T : String} {x : V} {v : Value} (I : Inv X pins σ H s) (r : RelV x v) (ty : tyV X.K T x H) :
    s.TypeIs v T ∧ ∀ a, v = .ref a → ∃ ob, s.heap.get? a = some ob ∧ ob.dict = none := by
  cases x with
  | str z =>
    obtain ⟨t, rfl⟩ := r
    cases (show T = "str" from ty)
    exact ⟨typeIs_str s z t, fun _ e => nomatch e⟩
  | int i =>
    obtain ⟨t, rfl⟩ := r
    cases (show T = "int" from ty)
    exact ⟨typeIs_int s i t, fun _ e => nomatch e⟩
  | ref p =>
    cases r
    rcases ty with ⟨rfl, xs, hq⟩ | ⟨rfl, o, hk, hc, hd⟩ | ⟨rfl, hk⟩ | ⟨rfl, S, n, hk⟩
    · obtain ⟨its, _, pl, _⟩ := I.list hq
      refine ⟨pl.isList.typeIs, fun a e => ?_⟩
      cases e
      obtain ⟨o, n, e, c, hd, _⟩ := pl
      exact ⟨o, e, hd⟩
    · refine ⟨⟨o, I.kIn p o hk, hc⟩, fun a e => ?_⟩
      cases e
      exact ⟨o, I.kIn _ o hk, hd⟩
    · have z : ∃ o, s.heap.get? p = some o ∧ o.ExactDict := by
        rcases hk with ⟨kvs, hk⟩ | ⟨kvs, hk⟩
        · obtain ⟨_, _, _, _, o, _, _, e, ex, _⟩ := I.hok p _ hk
          exact ⟨o, e, ex⟩
        · obtain ⟨_, _, _, _, o, _, _, e, ex, _⟩ := I.hok p _ hk
          exact ⟨o, e, ex⟩
      obtain ⟨o, e, ex⟩ := z
      refine ⟨⟨o, e, ex.1⟩, fun a e2 => ?_⟩
      cases e2
      exact ⟨o, e, ex.2.1⟩
    · obtain ⟨o, _, _, _, e, ex, _⟩ := I.hok p _ hk
      refine ⟨⟨o, e, ex.1⟩, fun a e2 => ?_⟩
      cases e2
      exact ⟨o, e, ex.2.1⟩
  | _ => exact False.elim ty
def tBM0 (K : PySem.W.Frag) (T : String) (r : V → List V → Hp → VK → Prop) (to : TE) : TE := fun σ H Q => to σ H fun x H1 => tyV K T x H1 ∧ r x [] H1 Q
def tBM (K : PySem.W.Frag) (T : String) (r : V → List V → Hp → VK → Prop) (to : TE) (t : TA) : TE := fun σ H Q => to σ H fun x H1 => tyV K T x H1 ∧ t σ H1 fun xs H2 => r x xs H2 Q
variable {o e : Expr} {es : List Expr} {to : TE} {t : TA} {name : Str} {apos cpos : Pos} {T id : String} {r : V → List V → Hp → VK → Prop}
theorem pe_bm0 (pa : PlainAttrs T) (slot : Slot T name id) (hty : typeOf (.builtin id) = pure (.type "method_descriptor")) (hm : MtR X id r) (ho : PE X o to)
    (hbase : attributeBase o name X.env (eval o X.env) = eval o X.env := by rfl) (hline : (apos.endLine == cpos.line) = true := by rfl) : PE X (.Call (.Attribute o name apos) [] [] cpos) (tBM0 X.K T r to) := by
  intro pins s σ H Q I h
  refine wpAny_Call_method0_late hbase hline (thn (ho pins s σ H _ I h) fun v s1 ⟨x, H1, I1, r1, ty, q1⟩ => ?_)
  obtain ⟨h1, h2⟩ := tyV_is I1 r1 ty
  exact ⟨T, id, pa, slot, hty, h1, h2, Calls.callWith_builtin rfl (PySem.evalArgs_none (hm pins s1 σ H1 x [] v [] Q I1 r1 .nil q1))⟩
theorem pe_bm (pa : PlainAttrs T) (slot : Slot T name id) (hty : typeOf (.builtin id) = pure (.type "method_descriptor")) (hm : MtR X id r) (ho : PE X o to) (ha : PA X (e :: es) t)
    (hbase : attributeBase o name X.env (eval o X.env) = eval o X.env := by rfl)
    (hfew : ((backTo cpos (starEach (e :: es) X.env)).all (fun x => !x.1) && (backToKw cpos (keywordEach [] X.env)).all (fun x => x.1.isSome)
      && decide ((e :: es).length + ([] : List Keyword).length + (if ([] : List Keyword).isEmpty then 0 else 1) < 30)) = true := by rfl)
    (hline : (apos.endLine == cpos.line) = true := by rfl) (hs : starEach (e :: es) X.env = (false, eval e X.env) :: starEach es X.env := by rfl) (hplain : (backTo cpos (starEach es X.env)).any (·.1) = false := by rfl) :
    PE X (.Call (.Attribute o name apos) (e :: es) [] cpos) (tBM X.K T r to t) := by
  intro pins s σ H Q I h
  refine wpAny_Call_method_late hbase hfew hline rfl (thn (ho pins s σ H _ I h) fun v s1 ⟨x, H1, I1, r1, ty, q1⟩ => ?_)
  obtain ⟨h1, h2⟩ := tyV_is I1 r1 ty
  refine ⟨T, id, pa, slot, hty, h1, h2, ?_⟩
  have hA := ha cpos pins s1 σ H1 _ I1 q1
  rw [hs] at hA ⊢
  refine Calls.callWith_builtin (by show (false || (backTo cpos (starEach es X.env)).any (·.1)) = false; rw [hplain] <;> rfl) (Calls.evalArgs_plain ?_)
  exact thn hA fun us s2 ⟨vs, H2, I2, r2, q2⟩ => hm pins s2 σ H2 x vs v us Q I2 r1 r2 q2
end
end L2
namespace L2
open PySem PySem.Spec PyProof.Rows
def MtM (X : Cx) (id : String) (r : V → List V → Hp → VK → Prop) : Prop :=
  ∀ (pins : List (Addr × Obj)) (s : Shared) (σ : St) (H : Hp) (x : V) (xs : List V) (v : Value) (us : List Value) (Q : VK), Inv X pins σ H s → RelV x v → Vals xs us → r x xs H Q →
    wpAny (model X.prog X.w) X.A (call (.builtin id) (v :: us)) (EP X pins σ Q) X.xe s
theorem Vals.one : ∀ {x : V} {us : List Value}, Vals [x] us → ∃ u, us = [u] ∧ RelV x u
  | _, _, .cons r .nil => ⟨_, rfl, r⟩
theorem Vals.zero : ∀ {us : List Value}, Vals [] us → us = []
  | _, .nil => rfl
theorem Vals.dropLast {xs : List V} {us : List Value} (h : Vals xs us) : Vals xs.dropLast us.dropLast := by
  induction h with
  | nil => exact .nil
  | cons r t ih =>
    cases t with
    | nil => exact .nil
    | cons q t' => exact .cons r ih
theorem Vals.rep {xs : List V} {us : List Value} (h : Vals xs us) : ∀ k : Nat, Vals (List.replicate k xs).flatten (List.replicate k us).flatten
  | 0 => .nil
  | k + 1 => by
    rw [List.replicate_succ, List.replicate_succ, List.flatten_cons, List.flatten_cons]
    exact Vals.append h (Vals.rep h k)
theorem erase_last {α : Type} (l : List α) : l.eraseIdx (l.length - 1) = l.dropLast := by
  induction l with
  | nil => rfl
  | cons a r ih =>
    cases r with
    | nil => rfl
    | cons b r =>
      have e : (a :: b :: r).length - 1 = ((b :: r).length - 1) + 1 := by
        have h1 : (a :: b :: r).length = r.length + 2 := rfl
        have h2 : (b :: r).length = r.length + 1 := rfl
        omega
      rw [e, List.eraseIdx_cons_succ, ih]
      all_goals rfl
theorem foldl_rep (its : List Value) : ∀ (k : Nat) (acc : List Value),
    List.foldl (fun x1 x2 => x1 ++ x2) acc.toArray (List.replicate k its.toArray) = (acc ++ (List.replicate k its).flatten).toArray
  | 0, acc => by simp
  | k + 1, acc => by
    have e : acc.toArray ++ its.toArray = (acc ++ its).toArray := by simp
    have e2 : (acc ++ its) ++ (List.replicate k its).flatten = acc ++ (List.replicate (k + 1) its).flatten := by
      rw [List.replicate_succ, List.flatten_cons, List.append_assoc]
    rw [← e2, ← foldl_rep its k (acc ++ its), ← e, List.replicate_succ, List.foldl_cons]
section
variable {X : Cx} {pins : List (Addr × Obj)} {σ : St} {H : Hp} {s : Shared} {l b : Addr} {xs ys zs : List V}
theorem Inv.lset {its its' : List Value} {n : Nat} {f : Array Value → Array Value} {t' : Nat} (I : Inv X pins σ H s) (hH : H l = some (.lst xs))
    (e : s.heap.get? l = some { cls := .type "list", data := .seq its.toArray n }) (hf : f its.toArray = its'.toArray) (hv : Vals ys its') (hz : ys.length ≤ sizeLine) :
    Inv X pins σ (upd H l (.lst ys)) { s with heap := s.heap.update l (Obj.mapSeq f), toks := t' } := by
  have q := PySem.IsL.update e f
  rw [hf] at q
  refine I.write (x := l) (e := l) (by rw [hH]; exact trivial) (.inl rfl) (fun b' u hb hu => (Heap.get?_update_other s.heap (Obj.mapSeq f) (Ne.symm hb)).trans hu) ⟨_, q⟩ ?_
  exact ⟨hz, its', _, hv, q⟩
theorem Inv.lnew {its : List Value} {t' : Nat} (I : Inv X pins σ H s) (hv : Vals ys its) (hz : ys.length ≤ sizeLine) :
    Inv X pins σ (upd H s.heap.objs.size (.lst ys)) { s with heap := s.heap.push { cls := .type "list", data := .seq its.toArray }, toks := t' } :=
  I.laid (fun _ _ q => Heap.get?_push_of_some _ q) (Nat.le_refl _) ⟨hz, its, 0, hv, Heap.get?_push_size _ rfl⟩
theorem Inv.fresh (I : Inv X pins σ H s) : H s.heap.objs.size = none := I.hok.fresh (Nat.le_refl _)
theorem Inv.lstM (I : Inv X pins σ H s) (hH : H l = some (.lst xs)) : xs.length ≤ sizeLine ∧ ∃ (its : List Value) (n : Nat), Vals xs its ∧ xs.length = its.length ∧ s.heap.get? l = some { cls := .type "list", data := .seq its.toArray n } := by
  obtain ⟨z, its, n, r, e⟩ := I.hok l _ hH
  exact ⟨z, its, n, r, r.length, e⟩
theorem notLongL {n : Nat} (h : n ≤ sizeLine) : Builtin.List.listTooLong n = false := by
  unfold Builtin.List.listTooLong
  exact decide_eq_false (by omega)
end
section
variable {X : Cx}
def rAppend : V → List V → Hp → VK → Prop := fun x vs H Q => ∃ l xs y, x = .ref l ∧ vs = [y] ∧ H l = some (.lst xs) ∧ xs.length < sizeLine ∧ Q .non (upd H l (.lst (xs ++ [y])))
theorem mt_append : MtM X "list.append" rAppend := by
  intro pins s σ H x vs v us Q I rx rv h
  obtain ⟨l, xs, y, rfl, rfl, hH, hz, q⟩ := h
  cases rx
  obtain ⟨u, rfl, ru⟩ := rv.one
  obtain ⟨z, its, n, r, hl, e⟩ := I.lstM hH
  refine call_meets F.slot_list_append ⟨_, e, rfl⟩ F.entry_list_append (F.args_list_append_2 _ _) (PySem.list_append l its.toArray n u (by rw [List.size_toArray]; omega)) ⟨e, ?_⟩
  refine ⟨.non, _, I.lset (its' := its ++ [u]) hH e (by simp) (r.append (.cons ru .nil)) ?_, rfl, q⟩
  rw [List.length_append, List.length_singleton]
  omega
def rExtend : V → List V → Hp → VK → Prop := fun x vs H Q => ∃ l b xs zs, x = .ref l ∧ vs = [.ref b] ∧ H l = some (.lst xs) ∧ H b = some (.lst zs) ∧ xs.length + zs.length ≤ sizeLine ∧ Q .non (upd H l (.lst (xs ++ zs)))
theorem mt_extend : MtM X "list.extend" rExtend := by
  intro pins s σ H x vs v us Q I rx rv h
  obtain ⟨l, b, xs, zs, rfl, rfl, hH, hB, hz, q⟩ := h
  cases rx
  obtain ⟨u, rfl, ru⟩ := rv.one
  cases ru
  obtain ⟨z, its, n, r, hl, e⟩ := I.lstM hH
  obtain ⟨z2, its2, n2, r2, hl2, e2⟩ := I.lstM hB
  have hsz : its.toArray.size + its2.toArray.size ≤ sizeLine := by rw [List.size_toArray, List.size_toArray]; omega
  have hlong : ¬ (!its.toArray.isEmpty && Builtin.List.listTooLong (its.toArray.size + its2.toArray.size)) = true := by
    rw [notLongL hsz, Bool.and_false]
    exact Bool.false_ne_true
  refine call_meets F.slot_list_extend ⟨_, e, rfl⟩ F.entry_list_extend (F.args_list_extend_2 _ _)
    (AutoSeq1.list_extend_list_list_0 l its.toArray n b its2.toArray n2 hlong (by rw [List.size_toArray]; omega) (by omega)) ⟨e, e2, ?_⟩
  refine ⟨.non, _, I.lset (its' := its ++ its2) hH e (by simp) (r.append r2) ?_, rfl, q⟩
  rw [List.length_append]
  omega
def rPop : V → List V → Hp → VK → Prop := fun x vs H Q => ∃ l xs y, x = .ref l ∧ vs = [] ∧ H l = some (.lst xs) ∧ xs[xs.length - 1]? = some y ∧ Q y (upd H l (.lst xs.dropLast))
theorem mt_pop : MtM X "list.pop" rPop := by
  intro pins s σ H x vs v us Q I rx rv h
  obtain ⟨l, xs, y, rfl, rfl, hH, hy, q⟩ := h
  cases rx
  have hus := rv.zero
  subst hus
  obtain ⟨z, its, n, r, hl, e⟩ := I.lstM hH
  obtain ⟨u, hu, ru⟩ := r.get hy
  have hy' : its.toArray[its.toArray.size - 1]? = some u := by
    show its.toArray[its.length - 1]? = some u
    rw [← Array.getElem?_toList, ← hl]
    exact hu
  refine call_meets F.slot_list_pop ⟨_, e, rfl⟩ F.entry_list_pop (F.args_list_pop_1 _) (MeetsSeq.list_pop_last l its.toArray n u hy' (by rw [List.size_toArray]; omega)) ⟨e, ?_⟩
  refine ⟨y, _, I.lset (its' := its.dropLast) hH e ?_ r.dropLast ?_, ru, q⟩
  · show its.toArray.eraseIdxIfInBounds (its.toArray.size - 1) = its.dropLast.toArray
    rw [List.size_toArray, List.eraseIdxIfInBounds_toArray, erase_last]
  · rw [List.length_dropLast]
    omega
def rCat : R2 := fun x y H Q => ∃ l b xs zs, x = .ref l ∧ y = .ref b ∧ H l = some (.lst xs) ∧ H b = some (.lst zs) ∧ xs.length + zs.length ≤ sizeLine ∧ ∀ p, H p = none → Q (.ref p) (upd H p (.lst (xs ++ zs)))
theorem op_cat : OpR X (binaryOp .Add) rCat := by
  intro pins s σ H x y v u Q I rx ry h
  obtain ⟨l, b, xs, zs, rfl, rfl, hH, hB, hz, q⟩ := h
  cases rx
  cases ry
  obtain ⟨z, its, n, r, hl, e⟩ := I.lstM hH
  obtain ⟨z2, its2, n2, r2, hl2, e2⟩ := I.lstM hB
  refine PySem.P.add_list e e2 ?_ (by rw [List.size_toArray, List.size_toArray]; omega)
  have ea : its.toArray ++ its2.toArray = (its ++ its2).toArray := by simp
  rw [ea]
  exact ⟨.ref _, _, I.lnew (t' := s.toks) (r.append r2) (by rw [List.length_append]; omega), rfl, q _ I.fresh⟩
def rRep : R2 := fun x y H Q => ∃ l k xs, x = .ref l ∧ y = .int k ∧ H l = some (.lst xs) ∧ -(2 ^ 63) ≤ k ∧ k < 2 ^ 63 ∧ xs.length * k.toNat ≤ sizeLine ∧
  ∀ p, H p = none → Q (.ref p) (upd H p (.lst (List.replicate k.toNat xs).flatten))
theorem len_rep {α : Type} (xs : List α) (k : Nat) : (List.replicate k xs).flatten.length = k * xs.length := by
  induction k with
  | zero => simp
  | succ k ih => rw [List.replicate_succ, List.flatten_cons, List.length_append, ih, Nat.succ_mul, Nat.add_comm]
theorem op_rep : OpR X (binaryOp .Mult) rRep := by
  intro pins s σ H x y v u Q I rx ry h
  obtain ⟨l, k, xs, rfl, rfl, hH, h1, h2, hz, q⟩ := h
  cases rx
  obtain ⟨t, rfl⟩ := ry
  obtain ⟨z, its, n, r, hl, e⟩ := I.lstM hH
  have hlen : its.toArray.size * k.toNat ≤ sizeLine := by rw [List.size_toArray, ← hl]; exact hz
  have hcap : ¬ its.toArray.size * k.toNat > (2 ^ 63 - 1) / 8 := by
    have : (sizeLine : Nat) ≤ (2 ^ 63 - 1) / 8 := by decide
    omega
  have hfit : ¬ (!Builtin.List.listFitsIndex k) = true := by
    rw [fitsIndex_both h1 h2]
    exact Bool.false_ne_true
  have hlong : ¬ Builtin.List.listTooLong (its.toArray.size * k.toNat) = true := by
    rw [notLongL hlen]
    exact Bool.false_ne_true
  have hnew : List.foldl (fun x1 x2 => x1 ++ x2) #[] (List.replicate (if its.toArray.isEmpty = true then 0 else k.toNat) its.toArray) = (List.replicate k.toNat its).flatten.toArray := by
    have f0 : ∀ m : Nat, List.foldl (fun x1 x2 => x1 ++ x2) #[] (List.replicate m its.toArray) = (List.replicate m its).flatten.toArray := fun m => by
      have := foldl_rep its m []
      rw [List.nil_append] at this
      exact this
    rw [f0]
    cases its with
    | nil => simp
    | cons a r' => rw [if_neg (by simp)]
  refine wpAny_binaryOp_repeat_ref (T := "list") (U := "int") (by decide) ⟨_, e, rfl⟩ (fun s' => typeIs_int s' k t) noFill_list_mul F.fills_int_mul F.slot_int_rmul repeat_list F.slot_int_index.lookup
    (call_meets F.slot_int_rmul (typeIs_int s k t) F.entry_int_rmul (F.args_int_rmul_2 _ _) (int___rmul___int_list k t l its.toArray n)
      ⟨e, rfl, ⟨_, e, rfl⟩, call_meets F.slot_list_mul ⟨_, e, rfl⟩ F.entry_list_mul (F.args_list_mul_2 _ _) (AutoListH.list___mul___list_int_3 l its.toArray n k t hfit hcap hlong) ⟨e, ?_⟩⟩)
  rw [hnew]
  exact ⟨.ref _, _, I.lnew (t' := s.toks) (r.rep k.toNat) (by rw [len_rep, Nat.mul_comm]; exact hz), rfl, q _ I.fresh⟩
end
section
variable {prog : Program} {w : World} {A : Around} {E : Value → Shared → Prop} {s : Shared}
end
section
variable {X : Cx}
end
end L2
namespace Att
open PySem PySem.W PySem.Calls PyProof.Rows
theorem ints_of_wellAll {P : Params} {h : Heap} : ∀ (ns : List Int) (vs : List Value), WellAll P h vs (ns.map WData.int) → IntsAre vs ns := by
  intro ns
  induction ns with
  | nil =>
    intro vs w
    rw [List.map_nil] at w
    cases w
    exact .nil
  | cons n ns ih =>
    intro vs w
    rw [List.map_cons] at w
    cases w with
    | cons a b =>
      cases a
      exact .cons _ _ (ih _ b)
theorem script_of {l : OpenLaw} {n : Nat} (hn : l.most = some n) {P : Params} {h : Heap} {args : List WData} {vals : List Value}
    (hpre : l.row.toRowW.claim.pre args = true) (hwl : WellAll P h vals args) :
    ∃ a vs ns, vals = [Value.ref a] ∧ args = [WData.list (ns.map WData.int)] ∧ h.get? a = some { cls := .type "list", data := .seq vs.toArray } ∧ IntsAre vs ns ∧ ns.length ≤ n := by
  have hsh : WShape.hasAll [] args [.list .int] = true := (pre_splitW hpre).1
  have hc : l.pre.holds [] { args := args } = true := (pre_splitW hpre).2
  obtain ⟨d, r, rfl, h1, h2⟩ := hasAllW_cons hsh
  obtain rfl := hasAllW_nil h2
  obtain ⟨xs, rfl, h3⟩ := hasW_list h1
  obtain ⟨ns, rfl⟩ := items_int h3
  have hlen : ns.length ≤ n := by
    unfold OpenLaw.pre at hc
    have h4 : (WTm.not (.lt (.lit (.int (n : Int))) (.len (.arg 0)))).holds [] { args := [.list (ns.map .int)] } = true := by
      have h4 := (holds_andW hc).1
      rw [hn] at h4
      exact h4
    have h5 := condW_of h4 (w_not (w_lt w_lit (w_len_list (w_arg rfl))))
    rw [List.length_map] at h5
    refine Nat.le_of_not_lt fun q => ?_
    have q' : (n : Int) < ((ns.length : Nat) : Int) := by omega
    first
      | (rw [decide_eq_true q'] at h5; exact absurd h5 (by decide))
      | (simp at h5; omega)
  cases hwl with
  | cons w1 w2 =>
    cases w2
    cases w1 with
    | list ho hall => exact ⟨_, _, ns, rfl, rfl, ho, ints_of_wellAll ns _ hall, hlen⟩
theorem post_true (l : OpenLaw) (args : List WData) : l.row.toRowW.claim.post args (.bool true) args = true :=
  postW_of (r := l.row.toRowW) (X := (true == true))
    (show WShape.has [] (.bool true) .bool = true by first | rfl | decide | simp [WShape.has, WShape.arms, WShape.armsAll])
    (show (WTm.eq .res (.lit (.bool true))).value [] { args := args, res := some (.bool true), after := args } = some (.bool (true == true)) from w_eq_bool (w_res rfl) w_lit) rfl
theorem attach_call {l : OpenLaw} {n : Nat} {q : Program} {loose : List Str} {XP : (Str → Option Value) → Heap → Prop} {YP : World → Heap → Prop} {d : DefRec}
    (hn : l.most = some n) (hdf : d.params.defaults = [])
    (call : ∀ (w : World) (s₀ s₁ : Shared) (mg mb : Str → Option Value) (fa : Addr) (o : Obj) (pm cd doc : Value) (a : Addr) (vs : List Value) (ns : List Int),
      Ground q loose [] XP w s₀ mg mb s₁.heap → YP w s₁.heap →
      s₁.heap.get? fa = some o → o.data = .func (docDef d.name d.params d.body d.scope pm cd doc) → s₁.heap.CodeRec cd d.name → mg d.name = some (.ref fa) →
      s₁.heap.get? a = some { cls := .type "list", data := .seq vs.toArray } → IntsAre vs ns → ns.length ≤ n → s₁.gens = #[] →
      codeAny (model l.prog w) callerA (.call (.ref fa) ⟨[.ref a], []⟩) (fun r s' => r = .ok (.ret (.bool true)) ∧ OldK s₁.heap s'.heap ∧ s'.os = s₁.os ∧ AllBare s'.gens) s₁) :
    WalkO q loose XP YP l.row.toRowW d [] (fun f vs => PySem.call f vs) := by
  intro w s₀ s₁ mg mb G Y fa o pm cd doc dV kV ho hd hcd hD hmg hg args vals as hpre hlay hrd hwl hlo
  obtain rfl : dV = .none := Dflts.none hD hdf
  obtain rfl : kV = .none := Dflts.noKw hD
  obtain ⟨a, vs, ns, rfl, rfl, hobj, hints, hlen⟩ := script_of hn hpre hwl
  refine enter_call (codeAny_mono (call w s₀ s₁ mg mb fa o pm cd doc a vs ns G Y ho (fd_plain hd) hcd hmg hobj hints hlen hg) fun r s' hq => ?_)
  obtain ⟨rfl, h2, h3, h4⟩ := hq
  exact ⟨.inl ⟨.bool true, .bool true, [], rfl, fun _ => rfl, .bool true, post_true l _, fun _ => ⟨List.Pairwise.nil, fun _ hm => (nomatch hm)⟩⟩, h2, h3, h4⟩
section
variable {prog : Program} {w : World} {A : Around} {E : Value → Shared → Prop} {s : Shared} {K : Frag}
end
end Att
namespace L2
open PySem PySem.Spec PyProof.Rows
theorem vals_ints : ∀ {vs : List Value} {ns : List Int}, IntsAre vs ns → Vals (ns.map V.int) vs
  | _, _, .nil => .nil
  | _, _, .cons n t h => .cons ⟨t, rfl⟩ (vals_ints h)
def Only (H : Hp) : Prop := ∀ b, H b = none ∨ ∃ o xs, H b = some (.frz o (.lst xs))
theorem law_call {P : Program} {w : World} {K : PySem.W.Frag} {mg mb : Str → Option Value} {CX : CXT} {k : Nat} {fa a : Addr} {fd : FuncData} {x : Str} {sp : Sp} {s₁ : Shared} {vs : List Value} {ns : List Int}
    (KX : K.In s₁.heap) (hns : s₁.heap.Ns mainGlobals mg) (hb : s₁.heap.Ns builtinsNs mb) (hbb : ∀ x : Str, x ≠ "__name__" → mb x = bootBuiltins x) (hlim : s₁.heap.NoLimit) (hg : s₁.gens = #[])
    (ha : s₁.heap.get? a = some { cls := .type "list", data := .seq vs.toArray }) (hi : IntsAre vs ns) (hl : ns.length ≤ sizeLine) (hr : Room k callerA)
    (F : ∀ base : Heap, K.In base → base.Ns mainGlobals mg → FnOk P w K mg base CX k fa fd [x] sp) (hbind : ∀ (s : Shared) (u : Value), BindsTo s fd ⟨[u], []⟩ [(x, u)])
    (hsp : ∀ H : Hp, Only H → SqL K H a (ns.map V.int) → sp [.ref a] H (fun v _ => v = .bl true) fun _ _ _ => False)
    (hCX : ∀ H e s', CX [] H s₁ (fun _ _ _ => False) e s' → False) :
    codeAny (model P w) callerA (.call (.ref fa) ⟨[.ref a], []⟩) (fun r s' => r = .ok (.ret (.bool true)) ∧ OldK s₁.heap s'.heap ∧ s'.os = s₁.os ∧ AllBare s'.gens) s₁ := by
  have rv := vals_ints hi
  have lenV := hi.length
  -- from an abstract heap in which nothing but the script may be tracked
  have core : ∀ H : Hp, Only H → SqL K H a (ns.map V.int) → HOk P w H s₁.heap → (∀ b, H b ≠ none → b = a) → (H a ≠ none → K.lookup a = none) →
      codeAny (model P w) callerA (.call (.ref fa) ⟨[.ref a], []⟩) (fun r s' => r = .ok (.ret (.bool true)) ∧ OldK s₁.heap s'.heap ∧ s'.os = s₁.os ∧ AllBare s'.gens) s₁ := by
    intro H hO hS hok hA hK
    have base_of : ∀ {b : Addr} {o : Obj}, s₁.heap.get? b = some o → H b = none → (hidT s₁.heap H).get? b = some o := fun e n => hidT_get e n
    have noA : ∀ {b : Addr} {o : Obj} {es : Array DictEntry} {ep : Nat}, s₁.heap.get? b = some o → o.data = .dict es ep → H b = none := fun {b o es ep} e d => by
      cases q : H b with
      | none => rfl
      | some u =>
        have e' : b = a := hA b (by rw [q]; simp)
        subst e'
        rw [ha] at e; cases e
        have d' : Data.seq vs.toArray _ = Data.dict es ep := d
        cases d'
    have nsK : ∀ {b : Addr} {m : Str → Option Value}, s₁.heap.Ns b m → (hidT s₁.heap H).Ns b m := fun {b m} ⟨o, es, ep, e, d, r⟩ => ⟨o, es, ep, base_of e (noA e d), d, r⟩
    have hKb : K.In (hidT s₁.heap H) := fun b o e => base_of (KX b o e) (by
      cases q : H b with
      | none => rfl
      | some u =>
        have e' : b = a := hA b (by rw [q]; simp)
        subst e'
        rw [hK (by rw [q]; simp)] at e; cases e)
    have hM : Mod K mg (hidT s₁.heap H) := ⟨hKb, nsK hns, ⟨mb, nsK hb, hbb⟩, let ⟨mc, h1, h2⟩ := hlim; ⟨mc, nsK h1, h2⟩⟩
    have e0 : Env0 P w K mg (hidT s₁.heap H) callerA [] s₁ H := ⟨rfl, hM, fun b o e => of_hidT e, Nat.le_of_eq (hidT_size _ _), trivial, fun b hb => absurd (show b ∈ ([] : List Addr) from hb) (by simp), hok, .of_eq hg⟩
    refine codeAny_mono ((F _ hKb (nsK hns)).run callerA [] s₁ H ⟨[.ref a], []⟩ [.ref a] [.ref a] _ _ hr e0 (hbind s₁ (.ref a)) (.cons rfl .nil) (hsp H hO hS)) fun r s' h => ?_
    cases r with
    | error e => exact (hCX H e s' h).elim
    | ok fl =>
      cases fl with
      | next => exact False.elim h
      | brk => exact False.elim h
      | cont => exact False.elim h
      | ret u =>
        obtain ⟨v, H', os, bare, un, hok', r', q⟩ := h
        have q' : v = .bl true := q
        subst q'
        obtain rfl : u = Value.bool true := r'
        refine ⟨rfl, OldK.of_keep fun b o e => ?_, os, bare⟩
        cases q : H b with
        | none => exact un.keep b o e q (by intro z; exact absurd (show b ∈ ([] : List Addr) from z) (by simp)) (by simp)
        | some u =>
          rcases hO b with z | ⟨ob, xs, z⟩
          · rw [q] at z; cases z
          · have z2 := un.frzs b ob _ z
            obtain ⟨e1, _⟩ := hok b _ z
            obtain ⟨e2, _⟩ := hok' b _ z2
            rw [e] at e1; cases e1
            exact e2
  cases hk : K.lookup a with
  | some o =>
    -- the script is one of the module's own objects
    have e := KX a o hk
    rw [ha] at e
    cases e
    refine core (fun _ => none) (fun _ => .inl rfl) (.inr ⟨_, vs.toArray, _, hk, rfl, rfl, rfl, by rw [List.size_toArray, lenV]; exact hl, by simpa using rv⟩) (fun b u z => by have z' : (none : Option HO) = some u := z; cases z') (fun b z => absurd rfl z) fun z => absurd rfl z
  | none =>
    refine core (fun b => if b = a then some (.frz { cls := .type "list", data := .seq vs.toArray } (.lst (ns.map V.int))) else none) (fun b => ?_) (.inl (.inr ⟨{ cls := .type "list", data := .seq vs.toArray }, if_pos rfl⟩)) (fun b u z => ?_) (fun b z => ?_) fun _ => hk
    · by_cases hb : b = a
      · exact .inr ⟨_, _, if_pos hb⟩
      · exact .inl (if_neg hb)
    · by_cases hb : b = a
      · have z' := (if_pos hb).symm.trans z
        cases z'
        subst hb
        exact ⟨ha, by rw [List.length_map]; exact hl, vs, _, rv, ha⟩
      · have z' := (if_neg hb).symm.trans z
        cases z'
    · by_cases hb : b = a
      · exact hb
      · exact absurd (if_neg hb) z
end L2
namespace L2
open PySem PySem.Spec PyProof.Rows
theorem walk_of {l : PySem.W.OpenLaw} {n k : Nat} {q : Program} {loose : List Str} {XP : (Str → Option Value) → Heap → Prop} {YP : World → Heap → Prop} {d : DefRec} {K : Params → PySem.W.Frag} {CX : World → CXT} {sp : World → Sp} {x : Str}
    (hn : l.most = some n) (hn2 : n ≤ sizeLine) (hdf : d.params.defaults = []) (hr : Room k callerA)
    (hY : ∀ (w : World) (h : Heap), YP w h → (K w.params).In h)
    (F : ∀ (w : World) (mg : Str → Option Value) (fa : Addr) (h : Heap), (K w.params).In h → h.Ns mainGlobals mg → mg d.name = some (.ref fa) →
      ∃ fd : FuncData, (∀ (s : Shared) (u : Value), BindsTo s fd ⟨[u], []⟩ [(x, u)]) ∧
        ∀ base : Heap, (K w.params).In base → base.Ns mainGlobals mg → FnOk l.prog w (K w.params) mg base (CX w) k fa fd [x] (sp w))
    (hsp : ∀ (w : World) (H : Hp) (a : Addr) (ns : List Int), ns.length ≤ n → Only H → SqL (K w.params) H a (ns.map V.int) → sp w [.ref a] H (fun v _ => v = .bl true) fun _ _ _ => False)
    (hCX : ∀ (w : World) (H : Hp) (s : Shared) (e : Value) (s' : Shared), CX w [] H s (fun _ _ _ => False) e s' → False) :
    PySem.W.WalkO q loose XP YP l.row.toRowW d [] (fun f vs => PySem.call f vs) := by
  refine Att.attach_call hn hdf fun w s₀ s₁ mg mb fa o pm cd doc a vs ns G Y ho hd hcd hmg hobj hints hlen hg => ?_
  have KX := hY w _ Y
  obtain ⟨fd, hb, hF⟩ := F w mg fa _ KX G.T.g hmg
  exact law_call KX G.T.g G.T.b G.T.builtins G.T.nolimit hg hobj hints (Nat.le_trans hlen hn2) hr hF hb (fun H hO hS => hsp w H a ns hlen hO hS) fun H e s' => hCX w H s₁ e s'
end L2
namespace L2
open PySem PySem.Spec PyProof.Rows
def defArgs (s : Stmt) : Arguments := match s with
  | .FunctionDef _ a _ _ _ _ _ _ _ _ => a
  | _ => { posonlyargs := [], args := [], vararg := none, kwonlyargs := [], kw_defaults := [], kwarg := none, defaults := [] }
def defBody (s : Stmt) : List Stmt := match s with
  | .FunctionDef _ _ b _ _ _ _ _ _ _ => b
  | _ => []
def defScope (s : Stmt) : Scope := match s with
  | .FunctionDef _ _ _ _ _ _ sc _ _ _ => sc
  | _ => { kind := .function, names := [], isGenerator := false, isCoroutine := false }
abbrev CX0 : CXT := fun _ _ _ _ _ _ => False
abbrev E0 : XK := fun _ _ _ => False
theorem pass0 {X : Cx} : Passes CX0 X E0 := fun _ _ _ _ _ _ _ h => h.elim
structure Fun (K : PySem.W.Frag) (x qual : Str) (st : Stmt) (f : Addr) (fd : FuncData) : Prop where
  ex : ∃ (oc : Value) (od : Option Addr) (kV doc pm : Value) (an : Option Addr) (cdv ct : Value) (osl : Array (Option Value)),
    fd = PySem.W.fnOf x qual (defArgs st) (defBody st) (defScope st) .none kV doc pm an cdv ct ∧ K.lookup f = some ⟨oc, od, .func fd, osl⟩ ∧ PySem.W.codeIn K cdv qual = true
  kp : PySem.W.keepIn K (.ref f) = true
section
variable {P : Program} {w : World} {K : PySem.W.Frag} {mg : Str → Option Value} {base : Heap}
theorem Fun.ok {x qual : Str} {st : Stmt} {f : Addr} {fd : FuncData} {N ps : List Str} {k : Nat} {sp : Sp} (F : Fun K x qual st f fd) (S : FnScope N ps (defScope st)) (len : ∀ vs H Q E, sp vs H Q E → vs.length = ps.length)
    (hbody : ∀ (cdv : Value) (A : Around) (outer : List Env) (s : Shared) (H : Hp) (vs : List V) (Q : VK) (E : XK), Room k (A.deeper (envOfC qual (defScope st) s.heap.objs.size f cdv)) → sp vs H Q E →
      ∃ t, PSs (cxOf CX0 P w K mg base N qual (defScope st) f cdv A outer s H E).nox (defBody st) t ∧ t { nx := fun _ H' => Q .non H', rt := Q } (start N vs) H) : FnOk P w K mg base CX0 (k + 1) f fd ps sp := by
  obtain ⟨oc, od, kV, doc, pm, an, cdv, ct, osl, rfl, lk, hcd⟩ := F.ex
  refine fn_of lk hcd S len fun A outer s H vs Q E hr hsp => ?_
  obtain ⟨t, h, q⟩ := hbody cdv A outer s H vs Q E hr hsp
  exact ⟨t, h.nox, q⟩
theorem Fun.binds {x qual : Str} {st : Stmt} {f : Addr} {fd : FuncData} {ps : List Str} (F : Fun K x qual st f fd)
    (h : ∀ (kV doc pm : Value) (an : Option Addr) (cdv ct : Value) (us : List Value), us.length = ps.length → bindArgs (PySem.W.fnOf x qual (defArgs st) (defBody st) (defScope st) .none kV doc pm an cdv ct) ⟨us, []⟩ = pure (ps.zip us)) : Binds K fd ps [] := by
  obtain ⟨oc, od, kV, doc, pm, an, cdv, ct, osl, rfl, lk, hcd⟩ := F.ex
  exact .all (h kV doc pm an cdv ct)
theorem fun_mk {x qual : Str} {st : Stmt} {f : Addr} {oc : Value} {od an : Option Addr} {osl : Array (Option Value)} {kV doc pm cdv ct : Value} (l : K.lookup f = some ⟨oc, od, .func (PySem.W.fnOf x qual (defArgs st) (defBody st) (defScope st) .none kV doc pm an cdv ct), osl⟩)
    (c : PySem.W.codeIn K cdv qual = true) (k : PySem.W.keepIn K (.ref f) = true) : Fun K x qual st f (PySem.W.fnOf x qual (defArgs st) (defBody st) (defScope st) .none kV doc pm an cdv ct) := ⟨⟨oc, od, kV, doc, pm, an, cdv, ct, osl, rfl, l, c⟩, k⟩
end
section
variable {X : Cx}
theorem pv (i : Nat) {x : Str} {pos : Pos} (hN : X.N[i]? = some x := by rfl) (hv : Vis X.env.scope x := by first | exact Or.inl rfl | exact Or.inr (Or.inl rfl) | exact Or.inr (Or.inr rfl)) (hd : (x == ("__debug__" : Str)) = false := by decide)
    (hcd : (x == ("__classdict__" : Str)) = false := by decide) : PE X (.Name x pos) (tVar i) := pe_var hN hv hd hcd
end
theorem iteF {A B : Prop} (h : B) : if false = true then A else B := by
  rw [if_neg Bool.false_ne_true]
  exact h
theorem iteT {A B : Prop} (h : A) : if true = true then A else B := by
  rw [if_pos rfl]
  exact h
theorem ite2 {c A B : Prop} [Decidable c] (h1 : c → A) (h2 : ¬ c → B) : if c then A else B := by
  by_cases h : c
  · rw [if_pos h]
    exact h1 h
  · rw [if_neg h]
    exact h2 h
def Same (H H' : Hp) : Prop := ∀ b o, H b = some o → H' b = some o
theorem Same.refl (H : Hp) : Same H H := fun _ _ h => h
theorem Same.trans {H H1 H2 : Hp} (a : Same H H1) (b : Same H1 H2) : Same H H2 := fun c o h => b c o (a c o h)
theorem Same.free {H H' : Hp} (e : Same H H') {l : Addr} (h : H' l = Option.none) : H l = Option.none := by
  cases q : H l with
  | none => rfl
  | some o =>
    rw [e l o q] at h
    cases h
theorem Same.seq {K : PySem.W.Frag} {H H' : Hp} {a : Addr} {xs : List V} (e : Same H H') (h : SqL K H a xs) : SqL K H' a xs := by
  rcases h with (h | ⟨o, h⟩) | h
  · exact .inl (.inl (e _ _ h))
  · exact .inl (.inr ⟨o, e _ _ h⟩)
  · exact .inr h
end L2
namespace L2
open PySem PySem.Spec PyProof.Rows
theorem closure_go (env : Env) : ∀ (ns : List (Str × NameKind)) (acc : List (Str × Addr)), (∀ n, (n, NameKind.free) ∈ ns → ∃ c, env.cells.lookup n = some c) →
    (∀ x c, acc.lookup x = some c → env.cells.lookup x = some c) →
    ∃ cl, (forIn ns acc fun (x : Str × NameKind) (cs : List (Str × Addr)) => (if (x.2 == NameKind.free) = true then (do let a ← cellOf env x.1; pure (ForInStep.yield ((x.1, a) :: cs))) else pure (ForInStep.yield cs) : Sem _)) = pure cl ∧
      (∀ x c, cl.lookup x = some c → env.cells.lookup x = some c) ∧ (∀ n, (n, NameKind.free) ∈ ns → ∃ c, cl.lookup n = some c) ∧ ∀ n c, acc.lookup n = some c → cl.lookup n = some c
  | [], acc, _, ha => ⟨acc, rfl, ha, fun _ h => by simp at h, fun _ _ h => h⟩
  | (n, k) :: r, acc, hf, ha => by
    by_cases hk : k = NameKind.free
    · subst hk
      obtain ⟨c, hc⟩ := hf n List.mem_cons_self
      have ha' : ∀ x c', ((n, c) :: acc).lookup x = some c' → env.cells.lookup x = some c' := fun x c' e => by
        rw [List.lookup_cons] at e
        cases hx : x == n with
        | true =>
          rw [hx] at e
          have e1 : x = n := by simpa using hx
          cases e
          rw [e1]; exact hc
        | false => rw [hx] at e; exact ha x c' e
      obtain ⟨cl, h1, h2, h3, h4⟩ := closure_go env r ((n, c) :: acc) (fun m hm => hf m (List.mem_cons_of_mem _ hm)) ha'
      have up : ∀ m c', ((n, c) :: acc).lookup m = some c' → cl.lookup m = some c' := h4
      refine ⟨cl, ?_, h2, ?_, ?_⟩
      · rw [List.forIn_cons]
        have e0 : cellOf env n = pure c := by unfold cellOf; rw [hc]
        simp only [beq_self_eq_true, if_true, e0, pure_bind]
        exact h1
      · intro m hm
        rcases List.mem_cons.mp hm with e | e
        · have : m = n := by simpa using (Prod.mk.inj e).1
          subst this
          exact ⟨c, up m c (by rw [List.lookup_cons]; simp)⟩
        · exact h3 m e
      · intro m c' e
        by_cases hm : m = n
        · subst hm
          have := ha m c' e
          rw [hc] at this
          cases this
          exact up m c (by rw [List.lookup_cons]; simp)
        · have hmn : (m == n) = false := by simpa using hm
          exact up m c' (by rw [List.lookup_cons, hmn]; exact e)
    · have hb : (k == NameKind.free) = false := by simpa using hk
      obtain ⟨cl, h1, h2, h3, h4⟩ := closure_go env r acc (fun m hm => hf m (List.mem_cons_of_mem _ hm)) ha
      refine ⟨cl, ?_, h2, ?_, h4⟩
      · rw [List.forIn_cons]
        simp only [hb, Bool.false_eq_true, if_false, pure_bind]
        exact h1
      · intro m hm
        rcases List.mem_cons.mp hm with e | e
        · exact absurd (Prod.mk.inj e).2.symm hk
        · exact h3 m e
theorem closure_ok {env : Env} {sc : Scope} (hf : ∀ n, (n, NameKind.free) ∈ sc.names → ∃ c, env.cells.lookup n = some c) :
    ∃ cl, closureFor sc env = pure cl ∧ (∀ x c, cl.lookup x = some c → env.cells.lookup x = some c) ∧ ∀ n, (n, NameKind.free) ∈ sc.names → ∃ c, cl.lookup n = some c := by
  obtain ⟨cl, h1, h2, h3, _⟩ := closure_go env sc.names [] hf (fun x c e => by simp at e)
  refine ⟨cl, ?_, h2, h3⟩
  unfold closureFor
  have e : (forIn sc.names ([] : List (Str × Addr)) fun (x : Str × NameKind) (cs : List (Str × Addr)) => (do if (x.2 == NameKind.free) = true then (do let a ← cellOf env x.1; pure (ForInStep.yield ((x.1, a) :: cs))) else pure (ForInStep.yield cs) : Sem _)) = pure cl := h1
  first
    | (rw [show (forIn sc.names ([] : List (Str × Addr)) _ : Sem _) = pure cl from h1]; rfl)
    | (simp only [h1, pure_bind])
theorem lookup_map {f : Str × NameKind → Str × NameKind} (hf : ∀ p, (f p).1 = p.1) : ∀ {l : List (Str × NameKind)} {x : Str} {k : NameKind}, l.lookup x = some k → (l.map f).lookup x = some (f (x, k)).2
  | [], _, _, h => by simp at h
  | (n, k0) :: r, x, k, h => by
    have ih := @lookup_map f hf r x k
    rw [List.map_cons]
    obtain ⟨a, b, e⟩ : ∃ a b, f (n, k0) = (a, b) := ⟨_, _, rfl⟩
    have ea : a = n := by have := hf (n, k0); rw [e] at this; exact this
    subst ea
    rw [e, List.lookup_cons]
    cases hx : x == a with
    | true =>
      rw [List.lookup_cons, hx] at h
      cases h
      have : x = a := by simpa using hx
      subst this
      rw [e]
    | false => rw [List.lookup_cons, hx] at h; exact ih h
theorem of_lookup_map {f : Str × NameKind → Str × NameKind} (hf : ∀ p, (f p).1 = p.1) : ∀ {l : List (Str × NameKind)} {x : Str} {k : NameKind}, (l.map f).lookup x = some k → ∃ k0, (x, k0) ∈ l ∧ (f (x, k0)).2 = k
  | [], _, _, h => by simp at h
  | (n, k0) :: r, x, k, h => by
    have ih := @of_lookup_map f hf r x k
    rw [List.map_cons] at h
    obtain ⟨a, b, e⟩ : ∃ a b, f (n, k0) = (a, b) := ⟨_, _, rfl⟩
    have ea : a = n := by have := hf (n, k0); rw [e] at this; exact this
    subst ea
    rw [e, List.lookup_cons] at h
    cases hx : x == a with
    | true =>
      rw [hx] at h
      cases h
      have : x = a := by simpa using hx
      subst this
      exact ⟨k0, List.mem_cons_self, by rw [e]⟩
    | false =>
      rw [hx] at h
      obtain ⟨k1, h1, h2⟩ := ih h
      exact ⟨k1, List.mem_cons_of_mem _ h1, h2⟩
def rlb (env : Env) (p : Str × NameKind) : Str × NameKind := if (p.2 == NameKind.free && env.scope.kind == .function && env.kindOf p.1 == some .cell) then (p.1, NameKind.cell) else (p.1, p.2)
theorem rlb_fst (env : Env) (p : Str × NameKind) : (rlb env p).1 = p.1 := by unfold rlb; split <;> rfl
theorem relabel_names (sc : Scope) (env : Env) : (relabel sc env).names = sc.names.map (rlb env) := rfl
theorem relabel_free {sc : Scope} {env : Env} {x : Str} (h : sc.names.lookup x = some .free) : (relabel sc env).names.lookup x = some .cell ∨ (relabel sc env).names.lookup x = some .free := by
  rw [relabel_names, lookup_map (rlb_fst env) h]
  unfold rlb
  split
  · exact .inl rfl
  · exact .inr rfl
theorem of_relabel {sc : Scope} {env : Env} {x : Str} (hn : ∀ y ∈ sc.names, y.2 ≠ NameKind.cell) (h : (relabel sc env).names.lookup x = some .cell ∨ (relabel sc env).names.lookup x = some .free) : (x, NameKind.free) ∈ sc.names := by
  rw [relabel_names] at h
  have : ∃ k0, (x, k0) ∈ sc.names ∧ ((rlb env (x, k0)).2 = .cell ∨ (rlb env (x, k0)).2 = .free) := by
    rcases h with h | h
    · obtain ⟨k0, a, b⟩ := of_lookup_map (rlb_fst env) h; exact ⟨k0, a, .inl b⟩
    · obtain ⟨k0, a, b⟩ := of_lookup_map (rlb_fst env) h; exact ⟨k0, a, .inr b⟩
  obtain ⟨k0, hm, hk⟩ := this
  have nc := hn _ hm
  cases k0 with
  | free => exact hm
  | cell => exact absurd rfl nc
  | _ => simp [rlb] at hk
def cxComp (X : Cx) (N : List Str) (sc : Scope) (cl : List (Str × Addr)) (C : Addr) (s : Shared) (H : Hp) (fp : List Addr) (pins : List (Addr × Obj)) : Cx :=
  { X with N := N, s₀ := s, H₀ := H, env := compEnvC sc cl C X.env, outer := X.stack, ex := fp, fn := fun _ => false, pn := X.pn ++ pins, xe := fun _ _ => False }
def cσ (js : List (Option Nat)) (σ : St) : St := js.map fun o => o.bind fun j => (σ[j]?).join
structure CompScope (X : Cx) (sc : Scope) (N : List Str) (js : List (Option Nat)) : Prop where
  kind : sc.kind = .function
  nocell : ∀ y ∈ sc.names, y.2 ≠ NameKind.cell
  names : ∀ y ∈ sc.names, y.2 = NameKind.local → sc.names.lookup y.1 = some .local
  frees : ∀ y ∈ sc.names, y.2 = NameKind.free → X.env.kindOf y.1 = some .cell ∨ X.env.kindOf y.1 = some .free
  len : js.length = N.length
  slots : ∀ (i j : Nat) (x : Str), js[i]? = some (some j) → N[i]? = some x → X.N[j]? = some x ∧ sc.names.lookup x = some .free ∧ (X.env.kindOf x = some .cell ∨ X.env.kindOf x = some .free)
theorem cs_mk {X : Cx} {sc : Scope} {N : List Str} {js : List (Option Nat)} (k : sc.kind = .function) (nc : ∀ y ∈ sc.names, y.2 ≠ NameKind.cell) (nm : ∀ y ∈ sc.names, y.2 = NameKind.local → sc.names.lookup y.1 = some .local)
    (fr : (sc.names.all fun y => y.2 != NameKind.free || X.env.kindOf y.1 == some NameKind.cell || X.env.kindOf y.1 == some NameKind.free) = true) (ln : js.length = N.length)
    (sl : ((js.zip N).all fun p => match p.1 with | none => true | some j => X.N[j]? == some p.2 && sc.names.lookup p.2 == some NameKind.free && (X.env.kindOf p.2 == some NameKind.cell || X.env.kindOf p.2 == some NameKind.free)) = true) : CompScope X sc N js := by
  refine ⟨k, nc, nm, fun y hy hf => ?_, ln, fun i j x e1 e2 => ?_⟩
  · have h := List.all_eq_true.mp fr y hy
    rw [hf] at h
    simpa using h
  · have hm : (some j, x) ∈ js.zip N := by
      have : (js.zip N)[i]? = some (some j, x) := by rw [List.getElem?_zip_eq_some]; exact ⟨e1, e2⟩
      exact List.mem_of_getElem? this
    have h := List.all_eq_true.mp sl _ hm
    simp at h
    exact ⟨h.1.1, h.1.2, h.2⟩
def PTs (X : Cx) (ifs : List Expr) (t : TT) : Prop :=
  ∀ (pins : List (Addr × Obj)) (s : Shared) (σ : St) (H : Hp) (Q : Bool → Hp → Prop), Inv X pins σ H s → t σ H Q →
    wpAny (model X.prog X.w) X.A (forIn ifs true fun c r => if r = true then do let ok ← isTrue c X.env (eval c X.env); pure (ForInStep.yield ok) else pure (ForInStep.yield r)) (TP X pins σ Q) X.xe s
def tNoTest : TT := fun _ H Q => Q true H
theorem pts_nil {X : Cx} : PTs X [] tNoTest := fun _ _ _ H _ I h => wpAny_tests_nil ⟨H, I, h⟩
theorem pts_one {X : Cx} {c : Expr} {t : TT} (h : PT X c t) : PTs X [c] t := fun pins s σ H Q I q => wpAny_tests_one (h pins s σ H Q I q)
def Keep (σ σ' : St) : Prop := σ.length = σ'.length ∧ ∀ (i : Nat) (v : V), σ[i]? = some (some v) → σ'[i]? = some (some v)
def GKeep (js : List (Option Nat)) (g : TG) : Prop := ∀ (σ σ1 : St) (x : V) (H : Hp) (Q : St → Hp → Prop), Keep (cσ js σ) σ1 → g x σ1 H Q → g x σ1 H fun σ2 H2 => Keep (cσ js σ) σ2 ∧ Q σ2 H2
theorem Keep.refl (σ : St) : Keep σ σ := ⟨rfl, fun _ _ h => h⟩
theorem cσ_none {js : List (Option Nat)} {σ : St} {i : Nat} (h : js[i]? = some none) : (cσ js σ)[i]? = some none := by
  unfold cσ
  rw [List.getElem?_map, h]; rfl
theorem gk_name {js : List (Option Nat)} {i : Nat} (h : js[i]? = some none) : GKeep js (gName i) := fun σ σ1 x H Q k q => by
  refine ⟨⟨by rw [List.length_set]; exact k.1, fun j v e => ?_⟩, q⟩
  by_cases hj : i = j
  · subst hj; rw [cσ_none h] at e; cases e
  · rw [List.getElem?_set_ne hj]; exact k.2 j v e
def cTurn (js : List (Option Nat)) (g : TG) (tt : TT) (te : TE) (σ : St) (J : It) (D : Addr) (n : Nat) (W : Nat → Hp → Prop) (fin : Hp → Prop) : Prop :=
  ∀ i H, W i H → (J.stop i H ∧ fin H) ∨ (i < n ∧ J.go i H ∧ ∀ x H1, J.yld i H x H1 → g x (cσ js σ) H1 fun σ2 H2 => tt σ2 H2 fun b H3 =>
    if b = true then te σ2 H3 fun v H4 => ∃ ys, H4 D = some (.lst ys) ∧ ys.length < sizeLine ∧ W (i + 1) (upd H4 D (.lst (ys ++ [v]))) else W (i + 1) H3)
def tComp (js : List (Option Nat)) (wi : TI) (g : TG) (tt : TT) (te : TE) : TE := fun σ H Q => wi σ H fun J H1 => ∀ D, H1 D = none →
  ∃ (n : Nat) (W : Nat → Hp → Prop), W 0 (upd H1 D (.lst [])) ∧ cTurn js g tt te σ J D n W fun H' => Q (.ref D) H'
section
variable {X : Cx} {pins : List (Addr × Obj)} {σ : St} {s : Shared} {H : Hp}
theorem comp_inv {sc : Scope} {N : List Str} {js : List (Option Nat)} {cl : List (Str × Addr)} {fp : List Addr} {h1 : Heap} {t' : Nat} (S : CompScope X sc N js) (I : Inv X pins σ H s)
    (hcl : ∀ x c, cl.lookup x = some c → X.env.cells.lookup x = some c) (hcl2 : ∀ n, (n, NameKind.free) ∈ sc.names → ∃ c, cl.lookup n = some c)
    (hf : ∀ b ∈ fp, FpOk X pins H b) (hlt : ∀ b ∈ fp, b < s.heap.objs.size) (hns : h1.Ns s.heap.objs.size fun x => List.lookup x ([] : List (Str × Value)))
    (hsb : ∀ b o, s.heap.get? b = some o → h1.get? b = some o) :
    Inv (cxComp X N sc cl s.heap.objs.size s H fp pins) [] (cσ js σ) H { s with heap := h1, toks := t' } := by
  have hok : (cxComp X N sc cl s.heap.objs.size s H fp pins).Ok :=
    { mod := I.ok.mod
      kind := S.kind
      glob := I.ok.glob
      blt := I.ok.blt
      above := Nat.le_refl _
      inj := fun x y c a b => I.ok.inj x y c (hcl x c a) (hcl y c b)
      has := fun x h => hcl2 x (of_relabel S.nocell h)
      cab := fun x c h => by cases h
      hd := I.ok.hd
      frames := I.ok.frames
      stk := .inl rfl
      exf := fun b hb => ⟨fun e => absurd (hlt b hb) (by rw [e]; exact Nat.lt_irrefl _), fun x c e z => (hf b hb).2.2.2.2.1 x c (hcl x c e) z⟩
      bs := I.bs
      bsz := Nat.le_trans I.ok.bsz I.sz
      noex := fun b o e hb => by
        rcases (hf b hb).2.2.2.1 with h | h
        · exact I.ok.noex b o e h
        · exact absurd (Nat.lt_of_lt_of_le (Nat.lt_of_lt_of_le (Heap.lt_size e) I.ok.bsz) h) (Nat.lt_irrefl _)
      exfs := fun b hb hm => by
        rcases List.mem_cons.mp (I.stkSub b hm) with e | e
        · exact (hf b hb).2.1 e
        · exact (hf b hb).2.2.1 e
      funs := I.stack
      frf := I.stkFree }
  have hC : H s.heap.objs.size = none := I.hok.fresh (Nat.le_refl _)
  obtain ⟨m0, hn0, hl0⟩ := I.loc
  exact
    { ok := hok
      os := rfl
      bare := I.bare
      base := Un.kept hsb
      loc := ⟨_, hns, fun i x v e1 e2 vis => by
        have e2' : ∃ j, js[i]? = some (some j) ∧ σ[j]? = some (some v) := by
          unfold cσ at e2
          rw [List.getElem?_map] at e2
          cases q : js[i]? with
          | none => rw [q] at e2; cases e2
          | some o =>
            rw [q] at e2
            cases o with
            | none => cases e2
            | some j =>
              refine ⟨j, rfl, ?_⟩
              have e3 : (σ[j]?).join = some v := Option.some.inj e2
              cases r : σ[j]? with
              | none => rw [r] at e3; cases e3
              | some z => rw [r] at e3; exact congrArg some e3
        obtain ⟨j, q1, q2⟩ := e2'
        obtain ⟨n1, n2, n3⟩ := S.slots i j x q1 e1
        obtain ⟨u, ru, look⟩ := hl0 j x v n1 q2 (by rcases n3 with z | z; exact .inr (.inl z); exact .inr (.inr z))
        refine ⟨u, ru, .inr ⟨relabel_free n2, ?_⟩⟩
        have hm : (x, NameKind.free) ∈ sc.names := of_relabel (env := X.env) S.nocell (relabel_free n2)
        obtain ⟨c, hc⟩ := hcl2 x hm
        refine ⟨c, hc, ?_⟩
        rcases look with ⟨k1, _⟩ | ⟨_, c', hc', ic⟩
        · rcases n3 with z | z <;> (rw [k1] at z; cases z)
        · have := hcl x c hc
          rw [hc'] at this
          cases this
          exact ic.keeps hsb⟩
      cell := fun x c e => by
        obtain ⟨v, q⟩ := I.cell x c (hcl x c e)
        exact ⟨v, q.keeps hsb⟩
      free := hC
      freeC := fun x c e => I.freeC x c (hcl x c e)
      pin := fun p hp => by
        have hp' : p ∈ X.pn ++ pins := by simpa [cxComp] using hp
        obtain ⟨a1, a2, a3, a4, a5⟩ := I.pin p hp'
        refine ⟨hsb _ _ a1, a2, fun e => ?_, fun hm => ?_, a5⟩
        · have e' : p.1 = s.heap.objs.size := e
          exact absurd (Heap.lt_size a1) (by rw [e']; exact Nat.lt_irrefl _)
        · rcases List.mem_cons.mp (I.stkSub p.1 hm) with e | e
          · exact a3 e
          · exact a4 e
      hok := I.hok.kept hsb
      len := by
        show (cσ js σ).length = N.length
        unfold cσ
        rw [List.length_map]
        exact S.len }
theorem comp_turn {prog : Program} {w : World} {A : Around} {R : Result → Shared → Prop} {elt target iter : Expr} {ifs : List Expr} {scope : Scope} {pos : Pos} {it acc : Value} {env : Env} (J : Nat → Shared → Prop)
    (turn : ∀ n s, J n s → wpAny (model prog w) A (pyNext it) (fun r s₁ => (r = none ∧ R (.ok .next) s₁) ∨ ∃ v, r = some v ∧
      wpAny (model prog w) A (letOwnedTupleGo target it v) (fun _ s₂ => wpAny (model prog w) A (assign target env v) (fun _ s₃ =>
        wpAny (model prog w) A (forIn ifs true fun c r => if r = true then do let ok ← isTrue c env (eval c env); pure (ForInStep.yield ok) else pure (ForInStep.yield r)) (fun ok s₄ =>
          (ok = false ∧ ∃ m, m < n ∧ J m s₄) ∨ (ok = true ∧ wpAny (model prog w) A (eval elt env) (fun x s₅ => wpAny (model prog w) A (call (.builtin "list.append") [acc, x]) (fun _ s₆ => ∃ m, m < n ∧ J m s₆) (fun _ _ => False) s₅) (fun _ _ => False) s₄))
          (fun _ _ => False) s₃) (fun _ _ => False) s₂) (fun _ _ => False) s₁) (fun _ _ => False) s)
    {s : Shared} (n : Nat) (h : J n s) : codeAny (model prog w) A (.compLoop (.ListComp elt [⟨target, iter, ifs, 0⟩] scope pos) 0 it acc env) R s := by
  refine codeAny_loop rfl J (fun n s hJ => ?_) n h
  show wpAny _ A ((compTurn (.ListComp elt [⟨target, iter, ifs, 0⟩] scope pos) 0 it acc env).onRaise _) _ _ s
  refine wpAny_noted ?_
  rw [compTurn_list]
  have up : ∀ {α : Type} {m : Sem α} {Q : α → Shared → Prop} {E : Value → Shared → Prop} {s : Shared}, wpAny (model prog w) A m Q (fun _ _ => False) s → wpAny (model prog w) A m Q E s := fun q => wpAny_mono q (fun _ _ z => z) fun _ _ z => z.elim
  refine wpAny_bind (wpAny_standAt (wpAny_bind (wpAny_mono (up (turn n s hJ)) (fun r s₁ h₁ => ?_) fun _ _ z => z)))
  rcases h₁ with ⟨rfl, h₁⟩ | ⟨v, rfl, h₁⟩
  · exact wpAny_pure h₁
  · refine wpAny_bind (wpAny_mono (up h₁) (fun _ s₂ h₂ => ?_) fun _ _ z => z)
    refine wpAny_bind (wpAny_mono (up h₂) (fun _ s₃ h₃ => ?_) fun _ _ z => z)
    refine wpAny_bind (wpAny_mono (up h₃) (fun ok s₄ h₄ => ?_) fun _ _ z => z)
    rcases h₄ with ⟨rfl, h₄⟩ | ⟨rfl, h₄⟩
    · exact wpAny_pure ⟨rfl, h₄⟩
    · exact wpAny_bind (wpAny_bind (wpAny_mono (up h₄) (fun x s₅ h₅ => wpAny_bind (wpAny_mono (up h₅) (fun _ s₆ h₆ => wpAny_pure (wpAny_pure ⟨rfl, h₆⟩)) fun _ _ z => z)) fun _ _ z => z))
theorem comp_block {elt tg iter : Expr} {ifs : List Expr} {sc : Scope} {pos : Pos} {N : List Str} {js : List (Option Nat)} {g : TG} {tt : TT} {te : TE} {cl : List (Str × Addr)} {fp : List Addr} {it : Addr} {tn : Nat → Heap → Prop} {J : It} {n : Nat} {W : Nat → Hp → Prop} {fin : Hp → Prop}
    {R : Value → Addr → Result → Shared → Prop} (hc : X.calm = true) (S : CompScope X sc N js) (I : Inv X pins σ H s) (T : Turn X.prog X.w X.K tg J fp it tn) (st : tn 0 s.heap) (hf : ∀ b ∈ fp, FpOk X pins H b)
    (hcl : ∀ x c, cl.lookup x = some c → X.env.cells.lookup x = some c) (hcl2 : ∀ n, (n, NameKind.free) ∈ sc.names → ∃ c, cl.lookup n = some c)
    (hg : ∀ cl C s H fp pins, PG (cxComp X N sc cl C s H fp pins) tg g) (gk : GKeep js g) (ht : ∀ cl C s H fp pins, PTs (cxComp X N sc cl C s H fp pins) ifs tt) (he : ∀ cl C s H fp pins, PE (cxComp X N sc cl C s H fp pins) elt te)
    (w0 : W 0 (upd H s.heap.objs.size (.lst []))) (turn : cTurn js g tt te σ J s.heap.objs.size n W fin)
    (hR : ∀ C H' s', C ≠ X.env.locals → s.heap.objs.size < C → (∃ m, s'.heap.Ns C m) → H' C = none → (∀ h' t', Heap.SameBut C s'.heap h' → Inv X pins σ H' { s' with heap := h', toks := t' }) → fin H' → R (.ref s.heap.objs.size) C (.ok .next) s') {E : Value → Shared → Prop} :
    wpAny (model X.prog X.w) X.A (newList []) (fun acc s₃ => wpAny (model X.prog X.w) X.A (newFunctionEnv sc X.env.globals cl [] X.env.qual none .none (some X.env)) (fun cenv s₄ =>
      codeAny (model X.prog X.w) X.A (.compStart (.ListComp elt [⟨tg, iter, ifs, 0⟩] sc pos) 0 (.ref it) acc { cenv with scope := relabel sc X.env }) (R acc cenv.locals) s₄) E s₃) E s := by
  refine wpAny_newObj_type (wpAny_newFunctionEnv S.nocell (by intro y hy; simp at hy) (fun h₁ hns₁ hsb₁ => ?_) S.kind)
  dsimp only at hns₁ hsb₁ ⊢
  have I3 : Inv X pins σ (upd H s.heap.objs.size (.lst [])) { s with heap := s.heap.push { cls := .type "list", dict := none, data := .seq ([] : List Value).toArray } } := I.lnew (t' := s.toks) (its := []) .nil (by decide)
  have hlt : ∀ b ∈ fp, b < s.heap.objs.size := fun b hb => by
    obtain ⟨o, ho, _⟩ := T.obj _ _ st b hb
    exact Heap.lt_size ho
  have hpush : ∀ b o, s.heap.get? b = some o → (s.heap.push { cls := .type "list", dict := none, data := .seq ([] : List Value).toArray }).get? b = some o := fun b o e => Heap.get?_push_of_some _ e
  have hsz : (s.heap.push { cls := .type "list", dict := none, data := .seq ([] : List Value).toArray }).objs.size = s.heap.objs.size + 1 := Heap.size_push ..
  generalize hs3 : ({ s with heap := s.heap.push { cls := .type "list", dict := none, data := .seq ([] : List Value).toArray } } : Shared) = s3 at I3
  have hs3h : s.heap.push { cls := .type "list", dict := none, data := .seq ([] : List Value).toArray } = s3.heap := by rw [← hs3]
  rw [hs3h] at hns₁ hsb₁ hpush hsz
  rw [hs3h]
  have est : ∀ t', ({ s with heap := h₁, toks := t' } : Shared) = { s3 with heap := h₁, toks := t' } := fun t' => by rw [← hs3]
  rw [est]
  have hsb : ∀ b o, s3.heap.get? b = some o → h₁.get? b = some o := fun b o e => hsb₁.extBut b o (Nat.ne_of_lt (Heap.lt_size e)) (Heap.get?_push_of_some _ e)
  have hf3 : ∀ b ∈ fp, FpOk X pins (upd H s.heap.objs.size (.lst [])) b := fun b hb => ⟨by rw [upd_ne (Nat.ne_of_lt (hlt b hb))]; exact (hf b hb).1, (hf b hb).2⟩
  have I4 := comp_inv (t' := s.toks + ([] : List (Str × Value)).length) S I3 hcl hcl2 hf3 (fun b hb => by rw [hsz]; exact Nat.lt_succ_of_lt (hlt b hb)) hns₁ hsb
  generalize hH3 : upd H s.heap.objs.size (.lst []) = H3 at I3 I4 hf3 w0
  have hst : tn 0 h₁ := T.keep _ _ _ st fun b hb o e => hsb _ _ (hpush _ _ e)
  have stat : ∀ {H' : Hp}, (∀ b ∈ fp, H' b = none) → ∀ b ∈ fp, FpOk (cxComp X N sc cl s3.heap.objs.size s3 H3 fp pins) [] H' b := fun {H'} hn b hb => by
    obtain ⟨f0, f1, f2, f3, f4, f5⟩ := hf b hb
    refine ⟨hn b hb, fun e => ?_, fun hm => ?_, .inl hb, fun x c e => f4 x c (hcl x c e), fun p hp => f5 p (by simpa [cxComp] using hp)⟩
    · have e' : b = s3.heap.objs.size := e
      have h9 : b < s.heap.objs.size := hlt b hb
      rw [e', hsz] at h9
      exact absurd h9 (Nat.not_lt.mpr (Nat.le_succ _))
    · rcases List.mem_cons.mp (I.stkSub b hm) with e | e
      · exact f1 e
      · exact f2 e
  have loop : codeAny (model X.prog X.w) X.A (.compLoop (.ListComp elt [⟨tg, iter, ifs, 0⟩] sc pos) 0 (.ref it) (.ref s.heap.objs.size) (compEnvC sc cl s3.heap.objs.size X.env)) (R (.ref s.heap.objs.size) s3.heap.objs.size)
      { s3 with heap := h₁, toks := s.toks + ([] : List (Str × Value)).length } := by
    refine comp_turn (fun k s' => ∃ i H', Inv (cxComp X N sc cl s3.heap.objs.size s3 H3 fp pins) [] (cσ js σ) H' s' ∧ tn i s'.heap ∧ (∀ b ∈ fp, H' b = none) ∧ W i H' ∧ k = n - i) ?_ n ⟨0, H3, I4, hst, fun b hb => (hf3 b hb).1, w0, rfl⟩
    rintro k s5 ⟨i, H5, I5, st5, fr5, w5, rfl⟩
    rcases turn i H5 w5 with ⟨stop, qn⟩ | ⟨hin, go, step⟩
    · refine thn (T.done (cxComp X N sc cl s3.heap.objs.size s3 H3 fp pins) rfl rfl rfl hc i [] s5 (cσ js σ) H5 _ I5 (stat fr5) st5 stop) fun r s6 ⟨hr, I6⟩ => .inl ⟨hr, ?_⟩
      have I7 : Inv X pins σ H5 s6 := I3.call' (ch := fp) (I6.os.trans rfl) I6.base I6.hok I6.bare fun b hb => ⟨(hf b hb).2.2.2.1, (hf b hb).2.1, (hf b hb).2.2.2.2.1, (hf b hb).2.2.2.2.2⟩
      have hC5 : H5 s3.heap.objs.size = none := I6.free
      have hCl : s3.heap.objs.size ≠ X.env.locals := Nat.ne_of_gt I3.lt
      obtain ⟨m6, hn6, _⟩ := I6.loc
      refine hR s3.heap.objs.size H5 s6 hCl (by omega) ⟨m6, hn6⟩ hC5 (fun h' t' sb => ?_) qn
      refine I7.turned (it := s3.heap.objs.size) (fun b o hb e => sb.extBut b o hb e) hC5 hCl (.inr I3.sz) (fun x c e z => ?_) fun p hp z => ?_
      · obtain ⟨v, q⟩ := I3.cell x c e
        exact absurd q.lt (by rw [z]; exact Nat.lt_irrefl _)
      · exact absurd (Heap.lt_size (I3.pin p hp).1) (by rw [z]; exact Nat.lt_irrefl _)
    · refine thn (T.item (cxComp X N sc cl s3.heap.objs.size s3 H3 fp pins) rfl rfl rfl hc i [] s5 (cσ js σ) H5 _ I5 (stat fr5) st5 go) fun r s6 ⟨u, hr, h6⟩ => .inr ⟨u, hr, ?_⟩
      refine thn h6 fun _ s7 ⟨x, H7, I7, r7, y7, st7, fr7⟩ => ?_
      have I7' := I7.pinned (stat fr7) (T.obj _ _ st7)
      refine thn (hg cl s3.heap.objs.size s3 H3 fp pins _ s7 (cσ js σ) H7 x u _ I7' r7 (gk σ (cσ js σ) x H7 _ (.refl _) (step x H7 y7))) fun _ s8 ⟨σ8, H8, I8, k8, q8⟩ => ?_
      refine thn (ht cl s3.heap.objs.size s3 H3 fp pins _ s8 σ8 H8 _ I8 q8) fun ok s9 ⟨H9, I9, q9⟩ => ?_
      have again : ∀ {s' : Shared} {σ' : St} {H' : Hp}, Keep (cσ js σ) σ' → Inv (cxComp X N sc cl s3.heap.objs.size s3 H3 fp pins) ([] ++ pinsAt fp s7.heap) σ' H' s' → W (i + 1) H' → ∃ m, m < n - i ∧ ∃ i H', Inv (cxComp X N sc cl s3.heap.objs.size s3 H3 fp pins) [] (cσ js σ) H' s' ∧ tn i s'.heap ∧ (∀ b ∈ fp, H' b = none) ∧ W i H' ∧ m = n - i := fun {s' σ' H'} kp I' w' => by
        refine ⟨n - (i + 1), by omega, i + 1, H', (I'.unpinned).weak kp.1 kp.2, T.keep _ _ _ st7 fun b hb o e => (I'.pin (b, o) (List.mem_append_right _ (List.mem_append_right _ (mem_pinsAt hb e)))).1, fun b hb => ?_, w', rfl⟩
        obtain ⟨o, e, d⟩ := T.obj _ _ st7 b hb
        exact (I'.pin (b, o) (List.mem_append_right _ (List.mem_append_right _ (mem_pinsAt hb e)))).2.1
      cases ok with
      | false =>
        refine .inl ⟨rfl, again k8 I9 ?_⟩
        have q9' : if false = true then _ else W (i + 1) H9 := q9
        rw [if_neg Bool.false_ne_true] at q9'
        exact q9'
      | true =>
        refine .inr ⟨rfl, ?_⟩
        rw [if_pos rfl] at q9
        refine thn (he cl s3.heap.objs.size s3 H3 fp pins _ s9 σ8 H9 _ I9 q9) fun vv s10 ⟨v, H10, I10, rv, ys, hD, hys, w10⟩ => ?_
        refine thn (mt_append _ s10 σ8 H10 (.ref s.heap.objs.size) [v] (.ref s.heap.objs.size) [vv] (fun _ H' => W (i + 1) H') I10 rfl (.cons rv .nil) ⟨_, ys, v, rfl, rfl, hD, hys, w10⟩) fun _ s11 ⟨_, H11, I11, _, w11⟩ => ?_
        exact again k8 I11 w11
  exact codeAny_compStart_list loop (T.self X.A 0 _ _ _ hst loop)
theorem pe_comp {elt tg iter : Expr} {ifs : List Expr} {sc : Scope} {pos : Pos} {N : List Str} {js : List (Option Nat)} {wi : TI} {g : TG} {tt : TT} {te : TE} (hc : X.calm = true) (S : CompScope X sc N js) (hi : PI X tg iter wi)
    (hg : ∀ cl C s H fp pins, PG (cxComp X N sc cl C s H fp pins) tg g) (gk : GKeep js g) (ht : ∀ cl C s H fp pins, PTs (cxComp X N sc cl C s H fp pins) ifs tt) (he : ∀ cl C s H fp pins, PE (cxComp X N sc cl C s H fp pins) elt te)
    (hs : ∀ x, foldedSetIterable iter X.env x = pure x := by intro _; rfl) : PE X (.ListComp elt [⟨tg, iter, ifs, 0⟩] sc pos) (tComp js wi g tt te) := by
  intro pins s σ H Q I h
  obtain ⟨cl, e1, e2, e3⟩ := closure_ok (env := X.env) (sc := sc) fun n hn => I.ok.has n (S.frees _ hn rfl)
  rw [eval_ListComp]
  refine wpAny_comprehension_free (use := none) rfl hs e1 S.kind S.names (thn (hi pins s σ H _ I h) fun v s1 h1 => thn h1 fun itv s2 h2 => ?_)
  obtain ⟨it, fp, tn, J, H2, rfl, I2, T, st2, f2, R2⟩ := h2
  obtain ⟨n, W, w0, turn⟩ := R2 s2.heap.objs.size I2.fresh
  refine comp_block (R := fun acc C => compPost (model X.prog X.w) X.A X.xe none (EP X pins σ Q) acc C) hc S I2 T st2 f2 e2 e3 hg gk ht he w0 turn fun C H' s' _ _ hn _ inv fi => ?_
  obtain ⟨m, hm⟩ := hn
  exact ⟨m, hm, fun h' sb => ⟨.ref s2.heap.objs.size, H', inv h' s'.toks sb, rfl, fi⟩⟩
theorem ps_setC {i : Nat} {y : Str} {elt tg iter : Expr} {ifs : List Expr} {sc : Scope} {pos spos py : Pos} {N : List Str} {js : List (Option Nat)} {wi : TI} {g : TG} {tt : TT} {te : TE} (hN : X.N.Nodup) (hy : X.N[i]? = some y) (hyl : Loc X.env.scope y) (hc : X.calm = true) (S : CompScope X sc N js) (hi : PI X tg iter wi)
    (hg : ∀ cl C s H fp pins, PG (cxComp X N sc cl C s H fp pins) tg g) (gk : GKeep js g) (ht : ∀ cl C s H fp pins, PTs (cxComp X N sc cl C s H fp pins) ifs tt) (he : ∀ cl C s H fp pins, PE (cxComp X N sc cl C s H fp pins) elt te)
    (hsw : swapsWith (.ListComp elt [⟨tg, iter, ifs, 0⟩] sc pos) (some (.Name y py)) spos.line X.env = pure true := by rfl)
    (hs : ∀ x, foldedSetIterable iter X.env x = pure x := by intro _; rfl) (hf : X.fn y = true ∨ X.env.scope.names.lookup y = some .local := by first | exact .inl rfl | exact .inr rfl | assumption) :
    PS X (.Assign [.Name y py] (.ListComp elt [⟨tg, iter, ifs, 0⟩] sc pos) spos) (tAsg (tComp js wi g tt te) (gName i)) := by
  intro pins s σ H D I h
  obtain ⟨cl, e1, e2, e3⟩ := closure_ok (env := X.env) (sc := sc) fun n hn => I.ok.has n (S.frees _ hn rfl)
  rw [exec_Assign_Name_used _ _ _ _ hsw]
  refine wpAny_bind (wpAny_standAt (wpAny_bind ?_))
  show wpAny _ X.A (do let _ ← comprehension (.ListComp elt [⟨tg, iter, ifs, 0⟩] sc pos) sc X.env _ (newList []) false (eval iter X.env) (some (assign (.Name y py) X.env))) _ _ s
  refine wpAny_bind (wpAny_mono (wpAny_comprehension_free (use := some (assign (.Name y py) X.env)) (Q := fun _ s' => SP X pins D .next s') rfl hs e1 S.kind S.names (thn (hi pins s σ H _ I h) fun v s1 h1 => thn h1 fun itv s2 h2 => ?_)) (fun _ s' hq => wpAny_pure (wpAny_pure hq)) fun _ _ z => z)
  obtain ⟨it, fp, tn, J, H2, rfl, I2, T, st2, f2, R2⟩ := h2
  obtain ⟨n, W, w0, turn⟩ := R2 s2.heap.objs.size I2.fresh
  refine comp_block (R := fun acc C => compPost (model X.prog X.w) X.A X.xe (some (assign (.Name y py) X.env)) (fun _ s' => SP X pins D .next s') acc C) hc S I2 T st2 f2 e2 e3 hg gk ht he w0 turn fun C H' s' hCL hC hn hC' inv fi => ?_
  obtain ⟨m, hm⟩ := hn
  have I5 : Inv X pins σ H' s' := by
    have q := inv s'.heap s'.toks (.refl ..)
    exact q
  refine wpAny_assign_Name (store_ok2 (v := .ref s2.heap.objs.size) I5 hN hy hyl rfl (fun s6 I6 ⟨a, sb, ha⟩ => ?_) hf)
  have haC : C ≠ a := by
    rcases ha with ha | ha
    · rw [ha]; exact hCL
    · intro z
      obtain ⟨v, q⟩ := I2.cell y a ha
      exact absurd (Nat.lt_trans q.lt hC) (by rw [z]; exact Nat.lt_irrefl _)
  refine ⟨m, hm.sameBut sb haC, fun h' sb' => ⟨_, H', I6.turned (it := C) (t' := s6.toks) (fun b o hb e => sb'.extBut b o hb e) hC' hCL (.inr (Nat.le_trans I2.sz (Nat.le_of_lt hC))) (fun x c e z => ?_) fun p hp z => ?_, fi⟩⟩
  · obtain ⟨v, q⟩ := I2.cell x c e
    exact absurd (Nat.lt_trans q.lt hC) (by rw [z]; exact Nat.lt_irrefl _)
  · exact absurd (Nat.lt_trans (Heap.lt_size (I2.pin p hp).1) hC) (by rw [z]; exact Nat.lt_irrefl _)
end
end L2
namespace L2
open PySem PySem.Spec PyProof.Rows
def cutL {α : Type} (xs : List α) (lo hi : Option Int) : List α := (xs.drop (HT.sIx xs.length 0 lo)).take (HT.sIx xs.length xs.length hi - HT.sIx xs.length 0 lo)
def cutS (z : Str) (lo hi : Option Int) : Str := ⟨(cutL z.cps.toList lo hi).toArray⟩
theorem pick_map {α : Type} (xs : List α) (a n : Nat) : ((List.range n).map fun (k : Nat) => a + k).filterMap (xs[·]?) = (xs.drop a).take n := by
  induction n with
  | zero => simp
  | succ n ih =>
    rw [List.range_succ, List.map_append, List.filterMap_append, ih, List.take_add_one]
    congr 1
    rw [List.getElem?_drop]
    cases h : xs[a + n]? <;> simp [h]
theorem clip_some (n d : Nat) (i : Int) : max 0 (min (if i < 0 then i + (n : Int) else i) (n : Int)) = ((HT.sIx n d (some i) : Nat) : Int) := by
  show max 0 (min (if i < 0 then i + (n : Int) else i) (n : Int)) = (((if i < 0 then (i + (n : Int)).toNat else min i.toNat n) : Nat) : Int)
  by_cases h : i < 0
  · rw [if_pos h, if_pos h]; omega
  · rw [if_neg h, if_neg h]; omega
theorem range_ab (A B : Int) (a b : Nat) (hA : A = (a : Int)) (hB : B = (b : Int)) : sliceRange A B 1 = (List.range (b - a)).map fun (k : Nat) => a + k := by
  subst hA; subst hB
  unfold sliceRange
  simp only [show (1 : Int) > 0 by decide, if_true]
  have c : (if (a : Int) < (b : Int) then ((b : Int) - a + 1 - 1) / 1 else 0).toNat = b - a := by
    split
    · rw [Int.ediv_one]; omega
    · omega
  rw [c]
  refine List.map_congr_left fun k _ => ?_
  omega
theorem sliceIx (lo hi : Option Int) (n : Nat) : Builtin.Str.strSliceIndices lo hi 1 n = (List.range (HT.sIx n n hi - HT.sIx n 0 lo)).map fun (k : Nat) => HT.sIx n 0 lo + k := by
  unfold Builtin.Str.strSliceIndices
  simp only [show (1 : Int) > 0 by decide, if_true]
  cases lo <;> cases hi <;> refine range_ab _ _ _ _ ?_ ?_ <;> first | rfl | exact clip_some _ _ _
theorem cutS_length (z : Str) (lo hi : Option Int) : (cutS z lo hi).length ≤ z.length := by
  show (cutL z.cps.toList lo hi).toArray.size ≤ z.cps.size
  unfold cutL
  rw [List.size_toArray, List.length_take, List.length_drop, Array.length_toList]
  omega
theorem sliceMade_cut (x : Str) (t : Tok) (l u : Option (Int × Tok)) {Q : Value → Shared → Prop} {s : Shared} (hz : x.length ≤ sizeLine) (h : ∀ t' k, Q (.str (cutS x (l.map (·.1)) (u.map (·.1))) t') { s with toks := k }) : (sliceMade x t l u none).post Q s := by
  have e : (slicePicked x l u none).filterMap (x.cps[·]?) = cutL x.cps.toList (l.map (·.1)) (u.map (·.1)) := by
    unfold slicePicked cutL
    show (Builtin.Str.strSliceIndices (l.map (·.1)) (u.map (·.1)) 1 x.length).filterMap (x.cps[·]?) = _
    rw [sliceIx, show (x.cps[·]?) = (x.cps.toList[·]?) from funext fun i => (Array.getElem?_toList ..).symm, pick_map, Array.length_toList]
    rfl
  unfold sliceMade
  split
  · rename_i hc
    have hl : (slicePicked x l u none).length = x.length := by
      have := (Bool.and_eq_true _ _ ▸ hc).2
      simpa using this
    have hw : cutS x (l.map (·.1)) (u.map (·.1)) = x := by
      have e2 : (cutL x.cps.toList (l.map (·.1)) (u.map (·.1))) = x.cps.toList := by
        have hp : slicePicked x l u none = (List.range (HT.sIx x.length x.length (u.map (·.1)) - HT.sIx x.length 0 (l.map (·.1)))).map fun (k : Nat) => HT.sIx x.length 0 (l.map (·.1)) + k := sliceIx _ _ _
        rw [hp, List.length_map, List.length_range] at hl
        have b1 := HT.sIx_le x.length x.length (Nat.le_refl _) (u.map (·.1))
        have hx : x.cps.toList.length = x.length := Array.length_toList
        unfold cutL
        rw [hx, hl]
        have hz0 : HT.sIx x.length 0 (l.map (·.1)) = 0 ∨ x.length = 0 := by omega
        rcases hz0 with h0 | h0
        · rw [h0, List.drop_zero, List.take_of_length_le (by rw [hx]; exact Nat.le_refl _)]
        · have : x.cps.toList = [] := List.length_eq_zero_iff.mp (by rw [hx]; exact h0)
          rw [this]; simp
      unfold cutS
      rw [e2]
    have := h t s.toks
    rw [hw] at this
    exact this
  · show (⟨((slicePicked x l u none).filterMap (x.cps[·]?)).toArray⟩ : Str).length ≤ sizeLine ∧ Q _ _
    rw [e]
    exact ⟨Nat.le_trans (cutS_length x _ _) hz, h s.toks (s.toks + 1)⟩
section
variable {X : Cx}
def rSlS : V → Option Int → Option Int → Hp → VK → Prop := fun x lo hi H Q => ∃ z, x = .str z ∧ z.length ≤ sizeLine ∧ Q (.str (cutS z lo hi)) H
theorem part_of {v : Value} {o : Option Int} (h : IsPart v o) : ∃ l : Option (Int × Tok), v = partValue l ∧ l.map (·.1) = o := by
  cases h with
  | none => exact ⟨none, rfl, rfl⟩
  | int i t => exact ⟨some (i, t), rfl, rfl⟩
theorem sl_str : SlR X rSlS := by
  intro pins s σ H x v vl vu lo hi sl Q I rx hs pl pu h
  obtain ⟨z, rfl, hz, q⟩ := h
  obtain ⟨t, rfl⟩ := rx
  obtain ⟨l, rfl, rfl⟩ := part_of pl
  obtain ⟨u, rfl, rfl⟩ := part_of pu
  refine ⟨"str", _, F.slot_str_getitem.lookup, typeIs_str s z t, wpAny_getItem_str_slice (l := l) (u := u) (st := none) ?_ rfl (sliceMade_cut z t l u hz fun t' k => ?_)⟩
  · obtain ⟨o, ho, hc, hd⟩ := hs
    exact ⟨o, ho, hc, hd⟩
  · exact ⟨.str (cutS z (l.map (·.1)) (u.map (·.1))), H, I.tok k, ⟨_, rfl⟩, q⟩
theorem call_sum (hc : X.calm = true) : CallR X (.builtin "sum") (fun xs H Q => ∃ (p : Addr) (ns : List Int), xs = [.ref p] ∧ SqL X.K H p (ns.map V.int) ∧ Q (.int ns.sum) H) := by
  intro pins s σ H xs us Q I r h
  obtain ⟨p, ns, rfl, hl, q⟩ := h
  obtain ⟨u, rfl, rx⟩ := vals1 r
  cases rx
  obtain ⟨its, rv, pl, _⟩ := I.list hl
  have hi := intsAre_of rv
  obtain ⟨ys, e⟩ := (hi.allInts).items
  have hl' : s.heap.IsList p (intItems ys) := by rw [← e]; exact pl.isList
  refine sum_intListG (I.ok.hd hc) hl' fun h' tk t' hk => ?_
  have e3 : preSum (numAt ys) ys.size = ns.sum := by
    rw [preSum_eq, List.take_of_length_le (by simp), ← nums_intItems, ← e]
    show (numsOf its).sum = _
    rw [hi.numsOf]
  rw [e3]
  exact ⟨.int ns.sum, H, I.kept hk, ⟨_, rfl⟩, q⟩
theorem call_maxL (hc : X.calm = true) : CallR X (.builtin "max") (fun xs H Q => ∃ (p : Addr) (ns : List Int), xs = [.ref p] ∧ SqL X.K H p (ns.map V.int) ∧ ns ≠ [] ∧ ∀ M, M ∈ ns → (∀ a, a ∈ ns → a ≤ M) → Q (.int M) H) := by
  intro pins s σ H xs us Q I r h
  obtain ⟨p, ns, rfl, hl, hne, q⟩ := h
  obtain ⟨u, rfl, rx⟩ := vals1 r
  cases rx
  obtain ⟨its, rv, pl, _⟩ := I.list hl
  have hi := intsAre_of rv
  have hlen := hi.length
  obtain ⟨ys, e⟩ := (hi.allInts).items
  have hl' : s.heap.IsList p (intItems ys) := by rw [← e]; exact pl.isList
  have hn : ys.toList.map (·.1) = ns := by rw [← nums_intItems, ← e]; exact hi.numsOf
  have hsz : 0 < ys.size := by
    have : ns.length = ys.size := by rw [← hn]; simp
    have := List.length_pos_iff.mpr hne
    omega
  refine max_intList (I.ok.hd hc) hl' hsz fun v h' tk hv hk => ?_
  obtain ⟨t, rfl⟩ := intItems_at hv
  obtain ⟨h1, h2⟩ := argBest_gt (numAt ys) (ys.size - 1)
  refine ⟨.int _, H, I.kept hk, ⟨_, rfl⟩, q _ ?_ fun a ha => ?_⟩
  · rw [numAt_eq, ← hn]; exact getD_mem (by rw [List.length_map, Array.length_toList]; omega)
  · rw [← hn] at ha
    obtain ⟨j, hj, rfl⟩ := mem_getD ha
    rw [List.length_map, Array.length_toList] at hj
    rw [← numAt_eq]; exact h2 j (by omega)
end
end L2
namespace PySem
namespace F
theorem bb_owner_rev : Manifest.owners.lookup (String.ofList ['d', 'e', 's', 'r', 'e', 'v', 'e', 'r'].reverse) = some Manifest.sig_reversed := by kernel_rfl
theorem bb_slot_rev_next : Slot "reversed" "__next__" "reversed.__next__" :=
  .of (owner := "reversed") (n := "__next__") (by rw [typeLookup_type, builtinLookup_eq_fast]; kernel_rfl) (by decide +kernel) (by decide +kernel) (by decide +kernel)
    (by first | exact .inl (by decide +kernel) | exact .inr (by decide +kernel)) (by rw [isSubtype_type]; kernel_rfl)
theorem bb_entry_rev_next : entryFor table "reversed.__next__" = some Builtin.«reversed.__next__» := entryFor_of_tree (by kernel_rfl)
theorem bb_args_rev_next (a : Value) : argsOk "reversed.__next__" ⟨[a], []⟩ := by
  unfold argsOk; rw [signature?_of (id := "reversed.__next__") (n := ['_', '_', 't', 'x', 'e', 'n', '_', '_']) (o := ['d', 'e', 's', 'r', 'e', 'v', 'e', 'r']) (by kernel_rfl) bb_owner_rev]; kernel_rfl
theorem bb_slot_rev_iter : Slot "reversed" "__iter__" "reversed.__iter__" :=
  .of (owner := "reversed") (n := "__iter__") (by rw [typeLookup_type, builtinLookup_eq_fast]; kernel_rfl) (by decide +kernel) (by decide +kernel) (by decide +kernel)
    (by first | exact .inl (by decide +kernel) | exact .inr (by decide +kernel)) (by rw [isSubtype_type]; kernel_rfl)
theorem bb_args_rev_iter (a : Value) : argsOk "reversed.__iter__" ⟨[a], []⟩ := by
  unfold argsOk; rw [signature?_of (id := "reversed.__iter__") (n := ['_', '_', 'r', 'e', 't', 'i', '_', '_']) (o := ['d', 'e', 's', 'r', 'e', 'v', 'e', 'r']) (by kernel_rfl) bb_owner_rev]; kernel_rfl
theorem bb_entry_rev_iter : entryFor table "reversed.__iter__" = some Builtin.«dict_keyiterator.__iter__» :=
  entryFor_alias (id' := "dict_keyiterator.__iter__") (by kernel_rfl) (by first | rfl | decide +kernel | (unfold String.splitOn; simp +decide [String.splitOnAux])) (by decide +kernel) (by kernel_rfl)
theorem bb_tuple_norev : typeLookup (.type "tuple") "__reversed__" = pure none := by rw [typeLookup_type, builtinLookup_eq_fast]; kernel_rfl
theorem bb_sub_rev_rev : isSubtype (.type "reversed") (.type "reversed") = pure true := by rw [isSubtype_type]; kernel_rfl
theorem bb_sub_tuple_dict : isSubtype (.type "tuple") (.type "dict") = pure false := by rw [isSubtype_type]; kernel_rfl
end F
end PySem
namespace PySem
open Sem (wp)
section
variable {prog : Program} {w : World} {A : Around} {E : Value → Shared → Prop} {s : Shared}
theorem bb_slot_rev_init : Slot "reversed" "__init__" "object.__init__" :=
  .of (owner := "object") (n := "__init__") (by rw [typeLookup_type, builtinLookup_eq_fast]; kernel_rfl) (by decide +kernel) (by decide +kernel) (by decide +kernel)
    (by first | exact .inl (by decide +kernel) | exact .inr (by decide +kernel)) (by rw [isSubtype_type]; kernel_rfl)
theorem bb_called_rev : TypeCalled "reversed" "reversed.__new__" "object.__init__" :=
  ⟨by decide +kernel, by decide +kernel, ⟨_, _, F.mro_reversed⟩, F.made_reversed, by decide +kernel, F.bb_sub_rev_rev, bb_slot_rev_init⟩
def revTup (t : Addr) (i : Int) : Obj := { cls := .type "reversed", data := .fields #[.ref t, rawInt i] }
theorem bb_meets_rev_tuple (t : Addr) (items : Array Value) (hz : (items.size : Int) < 2 ^ 63) :
    Meets (Builtin.«reversed.__new__» ⟨[.type "reversed", .ref t], []⟩) (fun _ R s => PyProof.Rows.IsTup s.heap t items ∧ ∀ tk, R (.ok (.ret (.ref s.heap.objs.size))) { s with heap := s.heap.push (revTup t ((items.size : Int) - 1)), toks := tk }) := by
  refine .of_wp fun prog w A R s h => ?_
  obtain ⟨ht, h⟩ := h
  unfold Builtin.«reversed.__new__»
  refine wpAny_bind (wpAny_of_eq (newClass_reversed _) ?_)
  try dsimp only
  refine wpAny_bind (wpAny_of_eq (a := ()) (by first | rfl | kernel_rfl) ?_)
  refine wpAny_bind (wpAny_of_eq (a := ()) (by first | rfl | kernel_rfl) ?_)
  try dsimp only
  refine wpAny_bind (wpAny_specialOf ht.typeIs F.bb_tuple_norev ?_)
  try dsimp only
  have hsd := F.bb_sub_tuple_dict
  have hgi := PyProof.Rows.slot_tuple_getitem.lookup
  have hT : s.TypeIs (.ref t) "tuple" := ht.typeIs
  wp_walk using PyProof.Rows.len_tuple ht hz, wpAny_typeOf hT
  exact ⟨_, rfl, h _⟩
theorem bb_call_rev_tuple {t : Addr} {items : Array Value} {Q : Value → Shared → Prop} (ht : PyProof.Rows.IsTup s.heap t items) (hz : (items.size : Int) < 2 ^ 63)
    (h : ∀ tk, Q (.ref s.heap.objs.size) { s with heap := s.heap.push (revTup t ((items.size : Int) - 1)), toks := tk }) : wpAny (model prog w) A (call (.type "reversed") [.ref t]) Q E s :=
  callType_new bb_called_rev (by decide) (F.typeCall_reversed_1 _) (F.newCall_reversed_1 _) (fun obj => F.args_object_init_2 obj _) F.entry_reversed_new (bb_meets_rev_tuple t items hz)
    ⟨ht, fun tk => ⟨⟨_, Heap.get?_push_size _ rfl, rfl⟩, h tk⟩⟩
def IsRevT (h : Heap) (a t : Addr) (i : Int) : Prop := ∃ o, h.get? a = some o ∧ o.cls = .type "reversed" ∧ o.data = .fields #[.ref t, rawInt i]
theorem IsRevT.typeIs {a t : Addr} {i : Int} (x : IsRevT s.heap a t i) : s.TypeIs (.ref a) "reversed" := let ⟨o, ho, hc, _⟩ := x; ⟨o, ho, hc⟩
theorem IsRevT.at {h h' : Heap} {a t : Addr} {i : Int} (x : IsRevT h a t i) (e : ∀ o, h.get? a = some o → h'.get? a = some o) : IsRevT h' a t i := let ⟨o, ho, r⟩ := x; ⟨o, e _ ho, r⟩
theorem bb_rev_iter {it t : Addr} {i : Int} {Q : Value → Shared → Prop} (hit : IsRevT s.heap it t i) (h : Q (.ref it) s) : wpAny (model prog w) A (pyIter (.ref it)) Q E s := by
  refine wpAny_pyIter_slot hit.typeIs F.bb_slot_rev_iter (wpAny_call_entry F.bb_slot_rev_iter hit.typeIs F.bb_entry_rev_iter ?_ (F.bb_args_rev_iter _))
  show wpAny _ _ (ret (.ref it)) _ _ s
  exact wpAny_pure ⟨_, rfl, "reversed", _, hit.typeIs, F.bb_slot_rev_next.lookup, h⟩
theorem bb_rev_next {it t : Addr} {i : Nat} {items : Array Value} {x : Value} {Q : Option Value → Shared → Prop} (hit : IsRevT s.heap it t (i : Int)) (ht : PyProof.Rows.IsTup s.heap t items) (hx : items[i]? = some x) (hz : (items.size : Int) < 2 ^ 63)
    (hQ : ∀ h' tk, IsRevT h' it t ((i : Int) - 1) → Heap.SameBut it s.heap h' → Q (some x) { s with heap := h', toks := tk }) : wpAny (model prog w) A (pyNext (.ref it)) Q E s := by
  obtain ⟨o, ho, hc, hd⟩ := id hit
  have hi : i < items.size := (Array.getElem?_eq_some_iff.mp hx).1
  unfold pyNext
  refine wpAny_bind (wpAny_attempt (wpAny_callSpecial?_slot (name := Str.ofString "__next__") hit.typeIs F.bb_slot_rev_next
    (wpAny_call_entry F.bb_slot_rev_next hit.typeIs F.bb_entry_rev_next ?_ (F.bb_args_rev_next _))))
  unfold Builtin.«reversed.__next__»
  refine wpAny_bind (wpAny_of_eq (a := (Value.ref it, [])) rfl ?_)
  try dsimp only
  refine wpAny_bind (wpAny_field ho hd (x := .ref t) rfl ?_)
  refine wpAny_bind (wpAny_field ho hd (x := rawInt (i : Int)) rfl ?_)
  show wpAny _ _ (if (i : Int) < 0 then _ else _) _ _ s
  rw [if_neg (by omega)]
  refine wpAny_bind (wpAny_specialOf ht.typeIs PyProof.Rows.slot_tuple_getitem.lookup ?_)
  try dsimp only
  rw [if_neg (by decide)]
  refine wpAny_bind (m := mkInt (i : Int)) (wpAny_mkInt ?_)
  refine wpAny_bind (wpAny_attempt (PyProof.Rows.getItem_tuple (j := i) (x := x) ht (by omega) (by omega) ?_ hx ?_))
  · refine (L2.ixN_seq (n := items.size) (i := (i : Int)) (j := i) ?_).1
    unfold L2.ixN
    rw [if_pos (by omega), if_pos (by omega)]; simp
  · try dsimp only
    refine wpAny_bind (wpAny_field ho hd (x := rawInt (i : Int)) rfl ?_)
    try dsimp only
    refine wpAny_bind (wpAny_setField ho hd (by simp) ?_)
    refine wpAny_pure ⟨x, rfl, wpAny_pure (hQ _ _ ?_ (Heap.SameBut.update ..))⟩
    exact ⟨_, Heap.get?_update_self _ ho (Obj.isFreed_of_fields (Obj.data_mapFields hd _)), (Obj.cls_mapFields ..).trans hc, by rw [Obj.data_mapFields hd]; simp⟩
theorem bb_rev_end {it t : Addr} {Q : Option Value → Shared → Prop} (hh : A.handled = none) (hit : IsRevT s.heap it t (-1))
    (hQ : ∀ h' tk, Heap.ExtBut it s.heap h' → Q none { s with heap := h', toks := tk }) : wpAny (model prog w) A (pyNext (.ref it)) Q E s := by
  obtain ⟨o, ho, hc, hd⟩ := id hit
  unfold pyNext
  refine wpAny_bind (wpAny_attempt (wpAny_callSpecial?_slot (name := Str.ofString "__next__") hit.typeIs F.bb_slot_rev_next
    (wpAny_call_entry F.bb_slot_rev_next hit.typeIs F.bb_entry_rev_next ?_ (F.bb_args_rev_next _))))
  unfold Builtin.«reversed.__next__»
  refine wpAny_bind (wpAny_of_eq (a := (Value.ref it, [])) rfl ?_)
  try dsimp only
  refine wpAny_bind (wpAny_field ho hd (x := .ref t) rfl ?_)
  refine wpAny_bind (wpAny_field ho hd (x := rawInt (-1)) rfl ?_)
  show wpAny _ _ (if (-1 : Int) < 0 then _ else _) _ _ s
  rw [if_pos (by decide)]
  refine wpAny_bind (wpAny_rule ?_)
  refine wpAny_bind ?_
  wp_delta
  refine wpAny_bind (wpAny_setField ho hd (by simp) ?_)
  have ho2 := Heap.get?_update_self (Obj.mapFields (·.setIfInBounds 1 (rawInt (-1)))) ho (Obj.isFreed_of_fields (Obj.data_mapFields hd _))
  refine wpAny_setField ho2 (Obj.data_mapFields hd _) (by simp) ?_
  refine wpAny_bind ?_
  wp_delta
  refine wpAny_bind ?_
  simp only [newExc, newTuple]
  refine wpAny_bind (wpAny_newObj_type ?_ (by size_fits))
  refine wpAny_bind (m := firstArgMember _ _) (wpAny_of_eq (a := Value.none) (by first | rfl | (simp only [firstArgMember]; rfl)) ?_)
  refine wpAny_newObj_type ?_ (by size_fits)
  simp only [raiseNew]
  refine wpAny_bind (wpAny_handled ?_)
  first | rw [show A.in1.handled = none from hh] | rw [hh]
  refine wpAny_bind (wpAny_pure (wpAny_throw ?_))
  refine wpAny_bind (wpAny_isInstance (T := "StopIteration") (b := true) ⟨_, Heap.get?_push_size _ rfl, rfl⟩ isSubtype_stop ?_)
  refine wpAny_pure (hQ _ _ ?_)
  refine Heap.ExtBut.push (Heap.ExtBut.push ?_ _) _
  intro b o' hb e
  rw [Heap.get?_update_other _ _ (Ne.symm hb), Heap.get?_update_other _ _ (Ne.symm hb)]
  exact e
end
end PySem
namespace L2
open PySem PySem.Spec PyProof.Rows
section
variable {X : Cx} {e : Expr} {te : TE} {p p2 pos pos2 : Pos}
def Itv (K : PySem.W.Frag) (a : Addr) (n : Nat) : It := ⟨fun i H => i < n ∧ ∃ xs, SqL K H a xs ∧ xs.length = n, fun i H x H' => H' = H ∧ ∀ xs, SqL K H a xs → xs[n - 1 - i]? = some x, fun i _ => i = n⟩
theorem turn_rev {P : Program} {w : World} {K : PySem.W.Frag} {tg : Expr} (a it : Addr) (n : Nat) : Turn P w K tg (Itv K a n) [it] it (fun i h => h.IsRevIter it a ((n : Int) - 1 - (i : Nat))) where
  mem := by simp
  obj := fun i h st b hb => by
    have e : b = it := by simpa using hb
    subst e
    obtain ⟨o, e, c, d⟩ := st
    exact ⟨o, e, fun v z => by rw [d] at z; cases z⟩
  keep := fun i h h' st k => st.at fun o e => k it (by simp) o e
  item := by
    intro X hP hw hK hc i pins s σ H E I hf st hg
    subst hP hw hK
    obtain ⟨hi, xs, hq, hx⟩ := hg
    obtain ⟨its, rv, p, hz⟩ := I.list hq
    have hl := rv.length
    obtain ⟨x, hx'⟩ : ∃ x, xs[n - 1 - i]? = some x := ⟨_, List.getElem?_eq_getElem (by omega)⟩
    obtain ⟨u, hu, ru⟩ := rv.get hx'
    obtain ⟨f0, f1, f2, f3, f4, f5⟩ := hf it (by simp)
    have e1 : (n : Int) - 1 - (i : Nat) = ((n - 1 - i : Nat) : Int) := by omega
    rw [e1] at st
    refine wpAny_pyNext_rev_item st p.isList (x := u) (by simpa using hu) fun h' st' sb => ?_
    have I1 : Inv X pins σ H { s with heap := h' } := I.turned (t' := s.toks) (fun b o hb e => (sb.2 b hb).trans e) f0 f1 f3 f4 f5
    have e2 : ((n - 1 - i : Nat) : Int) - 1 = (n : Int) - 1 - ((i + 1 : Nat) : Int) := by omega
    rw [e2] at st'
    obtain ⟨o, e, c, d⟩ := id st'
    exact ⟨u, rfl, go_of (s := { s with heap := h' }) e c d (by decide) ⟨x, H, I1, ru, ⟨rfl, fun ys hy => by rw [I.list_inj hy hq]; exact hx'⟩, st', fun b hb => (hf b hb).1⟩⟩
  done := by
    intro X hP hw hK hc i pins s σ H E I hf st hg
    subst hP hw hK
    have hg' : i = n := hg
    subst hg'
    obtain ⟨f0, f1, f2, f3, f4, f5⟩ := hf it (by simp)
    rw [show (i : Int) - 1 - (i : Nat) = -1 by omega] at st
    exact wpAny_pyNext_rev_end (I.ok.hd hc) st fun h' eb => ⟨rfl, I.turned (t' := s.toks) (fun b o hb e => eb b o hb e) f0 f1 f3 f4 f5⟩
  self := fun _ _ _ _ _ st h => wpAny_pyIter_revIter st h
def iRev (K : PySem.W.Frag) (tl : TE) : TI := fun σ H R => tl σ H fun x H1 => ∃ a xs, x = .ref a ∧ SqL K H1 a xs ∧ R (Itv K a xs.length) H1
theorem pi_rev {tg : Expr} (g2 : Gl X "reversed") (m2 : X.mg "reversed" = none) (he : PE X e te) (h2 : starEach [e] X.env = [(false, eval e X.env)] := by rfl) : PI X tg (.Call (.Name "reversed" p2) [e] [] pos2) (iRev X.K te) := by
  intro pins s σ H R I h
  refine wpAny_Call_Name_kw (ld_blt I g2 m2 boot_reversed (PyProof.Rows.callWith_type1 ?_ h2 rfl))
  rw [h2]
  show wpAny _ _ (spliced ((false, eval e X.env) :: [])) _ _ s
  refine Calls.spliced_cons (thn (he pins s σ H _ I h) fun u s1 ⟨x, H1, I1, r1, a, ys, ex, hq, q⟩ => Calls.spliced_nil ?_)
  subst ex
  cases r1
  obtain ⟨its, rv, p, hz⟩ := I1.list hq
  have hl := rv.length
  refine call_reversed_list p.isList ?_
  have hit : (s1.heap.push (revObj a ((its.toArray.size : Int) - 1))).IsRevIter s1.heap.objs.size a ((ys.length : Int) - 1 - ((0 : Nat) : Int)) := by
    rw [hl, show (its.length : Int) - 1 - ((0 : Nat) : Int) = (its.toArray.size : Int) - 1 by rw [List.size_toArray]; omega]
    exact ⟨_, Heap.get?_push_size _ rfl, rfl, rfl⟩
  refine wpAny_pyIter_revIter (s := { s1 with heap := s1.heap.push (revObj a ((its.toArray.size : Int) - 1)) }) hit ?_
  refine ⟨s1.heap.objs.size, [s1.heap.objs.size], _, _, H1, rfl, I1.kept (t' := s1.toks) fun b o e => Heap.get?_push_of_some _ e, turn_rev a _ ys.length, hit, fun b hb => ?_, q⟩
  have e : b = s1.heap.objs.size := by simpa using hb
  subst e
  exact I1.fpOk (Nat.le_refl _) (I1.hok.fresh (Nat.le_refl _))
theorem for_rev {K : PySem.W.Frag} {a : Addr} {xs : List V} {g : TG} {tb : TS} {D : Ends} {σ : St} {H : Hp} (Pv : Nat → St → Hp → Prop) (h0 : Pv 0 σ H) (hl : ∀ i σ H, i ≤ xs.length → Pv i σ H → SqL K H a xs)
    (hs : ∀ i x σ H, i < xs.length → xs[xs.length - 1 - i]? = some x → Pv i σ H → g x σ H fun σ2 H2 => tb { D with nx := Pv (i + 1), ct := Pv (i + 1), bk := D.nx } σ2 H2) (hd : ∀ σ H, Pv xs.length σ H → D.nx σ H) :
    ∃ W : Nat → Nat → St → Hp → Prop, (∃ m, W 0 m σ H) ∧ ∀ i m σ H, W i m σ H →
      ((Itv K a xs.length).stop i H ∧ D.nx σ H) ∨ ((Itv K a xs.length).go i H ∧ ∃ N : St → Hp → Prop, (∀ σ' H', N σ' H' → ∃ m', m' < m ∧ W (i + 1) m' σ' H') ∧ ∀ x H', (Itv K a xs.length).yld i H x H' → g x σ H' fun σ2 H2 => tb { D with nx := N, ct := N, bk := D.nx } σ2 H2) := by
  refine ⟨fun i m σ H => i ≤ xs.length ∧ m = xs.length - i ∧ Pv i σ H, ⟨xs.length, Nat.zero_le _, rfl, h0⟩, ?_⟩
  rintro i m σ H ⟨hi, rfl, p⟩
  by_cases h : i = xs.length
  · left
    exact ⟨h, hd σ H (by rw [← h]; exact p)⟩
  · right
    have hi' : i < xs.length := by omega
    refine ⟨⟨hi', xs, hl i σ H hi p, rfl⟩, Pv (i + 1), fun σ' H' q => ⟨xs.length - (i + 1), by omega, by omega, rfl, q⟩, ?_⟩
    rintro x H' ⟨rfl, hx⟩
    exact hs i x σ H' hi' (hx xs (hl i σ H' hi p)) p
end
end L2
namespace BB
open PySem L2
inductive Th where
  | knot (n : Str) (ks : List Th)
  | call (s k : Int)
def q : Str := Str.ofString "?"
def Th.kids : Th → List Th
  | .knot _ ks => ks
  | .call _ _ => []
mutual
def Th.size : Th → Nat
  | .knot _ ks => sizes ks + 1
  | .call _ _ => 1
def sizes : List Th → Nat
  | [] => 0
  | t :: ts => t.size + sizes ts
end
mutual
def Th.tall : Th → Nat
  | .knot _ ks => talls ks + 1
  | .call _ _ => 1
def talls : List Th → Nat
  | [] => 0
  | t :: ts => max t.tall (talls ts)
end
mutual
/-- by places ascending -/
def Th.walk : Th → List Th
  | .knot n ks => .knot n ks :: walks ks
  | .call s k => [.call s k]
def walks : List Th → List Th
  | [] => []
  | t :: ts => t.walk ++ walks ts
end
theorem Th.walk_eq (t : Th) : t.walk = t :: walks t.kids := by
  cases t with
  | knot n ks => rw [Th.walk]; rfl
  | call s k => rw [Th.walk]; simp [Th.kids, walks]
theorem Th.size_eq (t : Th) : t.size = sizes t.kids + 1 := by
  cases t with
  | knot n ks => rw [Th.size]; rfl
  | call s k => rw [Th.size]; simp [Th.kids, sizes]
theorem Th.tall_eq (t : Th) : t.tall = talls t.kids + 1 := by
  cases t with
  | knot n ks => rw [Th.tall]; rfl
  | call s k => rw [Th.tall]; simp [Th.kids, talls]
theorem walks_append : ∀ a b : List Th, walks (a ++ b) = walks a ++ walks b
  | [], b => by simp [walks]
  | t :: a, b => by rw [List.cons_append, walks, walks, walks_append a b, List.append_assoc]
theorem sizes_append : ∀ a b : List Th, sizes (a ++ b) = sizes a + sizes b
  | [], b => by simp [sizes]
  | t :: a, b => by rw [List.cons_append, sizes, sizes, sizes_append a b, Nat.add_assoc]
mutual
theorem Th.walk_len : ∀ t : Th, t.walk.length = t.size
  | .knot n ks => by rw [Th.walk, Th.size, List.length_cons, walks_len ks]
  | .call s k => by rw [Th.walk, Th.size]; rfl
theorem walks_len : ∀ ts : List Th, (walks ts).length = sizes ts
  | [] => rfl
  | t :: ts => by rw [walks, sizes, List.length_append, t.walk_len, walks_len ts]
end
theorem Th.size_pos (t : Th) : 1 ≤ t.size := by rw [t.size_eq]; omega
mutual
def At (H : Hp) : Th → Addr → Prop
  | .knot n ks, a => n ≠ q ∧ ∃ as : List Addr, H a = some (.tup (.str n :: as.map V.ref)) ∧ Ats H ks as
  | .call s k, a => H a = some (.tup [.str q, .int s, .int k])
def Ats (H : Hp) : List Th → List Addr → Prop
  | [], as => as = []
  | t :: ts, as => ∃ a r, as = a :: r ∧ At H t a ∧ Ats H ts r
end
def KT (H H' : Hp) : Prop := ∀ b xs, H b = some (.tup xs) → H' b = some (.tup xs)
theorem KT.trans {H H1 H2 : Hp} (a : KT H H1) (b : KT H1 H2) : KT H H2 := fun c o h => b c o (a c o h)
theorem Same.kt {H H' : Hp} (h : L2.Same H H') : KT H H' := fun b xs e => h b _ e
theorem kt_new {H : Hp} {l : Addr} {o : HO} (h : H l = none) : KT H (upd H l o) := fun b xs e => by rw [upd_ne (ne_of_none e h)]; exact e
theorem kt_lst {H : Hp} {l : Addr} {o : HO} {xs : List V} (h : H l = some (.lst xs)) : KT H (upd H l o) := fun b ys e => by rw [upd_ne (ne_of e h (by intro z; cases z))]; exact e
mutual
theorem At.mono {H H' : Hp} (k : KT H H') : ∀ {t : Th} {a : Addr}, At H t a → At H' t a
  | .knot n ks, a, h => by
    rw [At] at h ⊢
    obtain ⟨h0, as, h1, h2⟩ := h
    exact ⟨h0, as, k _ _ h1, Ats.mono k h2⟩
  | .call s c, a, h => by
    rw [At] at h ⊢
    exact k _ _ h
theorem Ats.mono {H H' : Hp} (k : KT H H') : ∀ {ts : List Th} {as : List Addr}, Ats H ts as → Ats H' ts as
  | [], as, h => by rw [Ats] at h ⊢; exact h
  | t :: ts, as, h => by
    rw [Ats] at h ⊢
    obtain ⟨a, r, e, h1, h2⟩ := h
    exact ⟨a, r, e, At.mono k h1, Ats.mono k h2⟩
end
theorem Ats.nil {H : Hp} : Ats H [] [] := by rw [Ats]
theorem Ats.cons {H : Hp} {t : Th} {ts : List Th} {a : Addr} {as : List Addr} (h1 : At H t a) (h2 : Ats H ts as) : Ats H (t :: ts) (a :: as) := by rw [Ats]; exact ⟨a, as, rfl, h1, h2⟩
theorem Ats.append {H : Hp} : ∀ {ts us : List Th} {as bs : List Addr}, Ats H ts as → Ats H us bs → Ats H (ts ++ us) (as ++ bs)
  | [], us, as, bs, h, g => by rw [Ats] at h; subst h; exact g
  | t :: ts, us, as, bs, h, g => by
    rw [Ats] at h
    obtain ⟨a, r, rfl, h1, h2⟩ := h
    exact .cons h1 (h2.append g)
theorem Ats.length {H : Hp} : ∀ {ts : List Th} {as : List Addr}, Ats H ts as → as.length = ts.length
  | [], as, h => by rw [Ats] at h; subst h; rfl
  | t :: ts, as, h => by
    rw [Ats] at h
    obtain ⟨a, r, rfl, h1, h2⟩ := h
    rw [List.length_cons, List.length_cons, h2.length]
theorem Ats.reverse {H : Hp} : ∀ {ts : List Th} {as : List Addr}, Ats H ts as → Ats H ts.reverse as.reverse
  | [], as, h => by rw [Ats] at h; subst h; exact .nil
  | t :: ts, as, h => by
    rw [Ats] at h
    obtain ⟨a, r, rfl, h1, h2⟩ := h
    rw [List.reverse_cons, List.reverse_cons]
    exact h2.reverse.append (.cons h1 .nil)
theorem Ats.get {H : Hp} : ∀ {ts : List Th} {as : List Addr} {i : Nat} {a : Addr}, Ats H ts as → as[i]? = some a → ∃ t, ts[i]? = some t ∧ At H t a
  | [], as, i, a, h, e => by rw [Ats] at h; subst h; simp at e
  | t :: ts, as, i, a, h, e => by
    rw [Ats] at h
    obtain ⟨b, r, rfl, h1, h2⟩ := h
    cases i with
    | zero => simp at e; subst e; exact ⟨t, rfl, h1⟩
    | succ i => exact h2.get (i := i) (by simpa using e)
theorem Ats.at {H : Hp} : ∀ {ts : List Th} {as : List Addr} {i : Nat} {t : Th}, Ats H ts as → ts[i]? = some t → ∃ a, as[i]? = some a ∧ At H t a
  | [], as, i, a, h, e => by simp at e
  | t :: ts, as, i, a, h, e => by
    rw [Ats] at h
    obtain ⟨b, r, rfl, h1, h2⟩ := h
    cases i with
    | zero => simp at e; subst e; exact ⟨b, rfl, h1⟩
    | succ i => exact h2.at (i := i) (by simpa using e)
theorem Ats.snoc_inv {H : Hp} {ts : List Th} {as : List Addr} {a : Addr} (h : Ats H ts (as ++ [a])) : ∃ us t, ts = us ++ [t] ∧ Ats H us as ∧ At H t a := by
  have r := h.reverse
  rw [List.reverse_append, List.reverse_singleton, List.singleton_append] at r
  cases e : ts.reverse with
  | nil => rw [e, Ats] at r; cases r
  | cons t us =>
    rw [e, Ats] at r
    obtain ⟨b, z, e1, h1, h2⟩ := r
    cases e1
    refine ⟨us.reverse, t, ?_, ?_, h1⟩
    · rw [← List.reverse_cons, ← e, List.reverse_reverse]
    · have := h2.reverse
      rw [List.reverse_reverse] at this
      exact this
theorem At.tup {H : Hp} {t : Th} {a : Addr} (h : At H t a) : ∃ n r, H a = some (.tup (.str n :: r)) := by
  cases t with
  | knot n ks => rw [At] at h; obtain ⟨_, as, h1, _⟩ := h; exact ⟨n, _, h1⟩
  | call s k => rw [At] at h; exact ⟨q, _, h⟩
end BB
namespace BB
open PySem L2
end BB
namespace BB
open PySem L2
theorem at_nonneg {α : Type} {xs : List α} {i : Int} {v : α} (h0 : 0 ≤ i) (h : xs[i.toNat]? = some v) : atI xs i = some v := by
  have e : i = ((i.toNat : Nat) : Int) := by omega
  rw [e]; exact atI_nat h
def Low (x : Str) : Prop := ∀ c ∈ x.cps.toList, 97 ≤ c ∧ c ≤ 122
theorem low_cut {x : Str} (h : Low x) (lo hi : Option Int) : Low (cutS x lo hi) := by
  intro c hc
  have hc' : c ∈ cutL x.cps.toList lo hi := by simpa [cutS] using hc
  exact h c (List.mem_of_mem_drop (List.mem_of_mem_take hc'))
theorem low_app {x y : Str} (hx : Low x) (hy : Low y) : Low (x ++ y) := by
  intro c hc
  have hc' : c ∈ (x.cps ++ y.cps).toList := hc
  rw [Array.toList_append, List.mem_append] at hc'
  rcases hc' with h | h
  · exact hx c h
  · exact hy c h
theorem low_one {c : Nat} (h1 : 97 ≤ c) (h2 : c ≤ 122) : Low ⟨#[c]⟩ := by
  intro d hd
  have : d = c := by simpa using hd
  omega
theorem low_q {x : Str} (h : Low x) : x ≠ q := by
  intro e
  subst e
  have := h 63 (by decide +kernel)
  omega
end BB
namespace L2
open PySem PySem.Spec PyProof.Rows
theorem Same.seqT {K : PySem.W.Frag} {H H' : Hp} {a : Addr} {xs : List V} (e : Same H H') (h : SqT K H a xs) : SqT K H' a xs := by
  rcases h with (h | ⟨o, h⟩) | h
  · exact .inl (.inl (e _ _ h))
  · exact .inl (.inr ⟨o, e _ _ h⟩)
  · exact .inr h
theorem same_new {H : Hp} {p : Addr} (h : H p = none) (o : HO) : Same H (upd H p o) := fun b u q => by rw [upd_ne (ne_of_none q h)]; exact q
theorem same_upd {H H1 : Hp} {l : Addr} {o : HO} (h : Same H H1) (n : H l = none) : Same H (upd H1 l o) := fun b u e => by rw [upd_ne (ne_of_none e n)]; exact h b u e
theorem comp_fm {α : Type} {js : List (Option Nat)} {tt : TT} {te : TE} {σ : St} {J : It} {H : Hp} {xs : List V} {fin : Addr → Hp → Prop} (zs : List α) (p : α → Bool) (f : α → V) (hz : zs.length = xs.length) (hn : xs.length ≤ 1000000)
    (hgo : ∀ i H2, Same H H2 → i < xs.length → J.go i H2) (hstop : ∀ H2, Same H H2 → J.stop xs.length H2) (hyld : ∀ (i : Nat) H2 x H3, Same H H2 → i < xs.length → J.yld i H2 x H3 → H3 = H2 ∧ xs[i]? = some x)
    (htt : ∀ (i : Nat) x z H2 (R : Bool → Hp → Prop), xs[i]? = some x → zs[i]? = some z → Same H H2 → R (p z) H2 → tt ((cσ js σ).set 0 (some x)) H2 R)
    (hte : ∀ (i : Nat) x z H2 (R : VK), xs[i]? = some x → zs[i]? = some z → p z = true → Same H H2 → R (f z) H2 → te ((cσ js σ).set 0 (some x)) H2 R)
    (q : ∀ D, H D = none → fin D (upd H D (.lst ((zs.filter p).map f)))) :
    ∀ D, H D = none → ∃ (n : Nat) (W : Nat → Hp → Prop), W 0 (upd H D (.lst [])) ∧ cTurn js (gName 0) tt te σ J D n W fun H' => fin D H' := by
  intro D hD
  refine ⟨xs.length, fun i H2 => i ≤ xs.length ∧ H2 = upd H D (.lst (((zs.take i).filter p).map f)), ⟨Nat.zero_le _, by simp⟩, ?_⟩
  rintro i H2 ⟨hi, rfl⟩
  have sm : ∀ o, Same H (upd H D o) := fun o => same_new hD o
  by_cases h : i = xs.length
  · left
    subst h
    refine ⟨hstop _ (sm _), ?_⟩
    rw [← hz, List.take_length]
    exact q D hD
  · right
    have hi' : i < xs.length := by omega
    refine ⟨hi', hgo i _ (sm _) hi', fun x H1 hy => ?_⟩
    obtain ⟨rfl, hx⟩ := hyld i _ x H1 (sm _) hi' hy
    have hzi : i < zs.length := by omega
    have e1 : zs[i]? = some zs[i] := List.getElem?_eq_getElem hzi
    have e2 : (zs.take (i + 1)).filter p = (zs.take i).filter p ++ (if p zs[i] = true then [zs[i]] else []) := by
      rw [List.take_add_one, e1, List.filter_append]
      show _ ++ List.filter p [zs[i]] = _
      rw [List.filter_cons, List.filter_nil]
    refine htt i x zs[i] _ _ hx e1 (sm _) ?_
    have hlen : (((zs.take i).filter p).map f).length ≤ 1000000 := by
      rw [List.length_map]
      have := List.length_filter_le p (zs.take i)
      rw [List.length_take] at this
      omega
    by_cases hp : p zs[i] = true
    · rw [if_pos hp]
      refine hte i x zs[i] _ _ hx e1 hp (sm _) ⟨_, upd_same, Nat.lt_of_le_of_lt hlen (by decide), hi', ?_⟩
      rw [upd_upd, e2, if_pos hp, List.map_append]
      rfl
    · rw [if_neg hp]
      refine ⟨hi', ?_⟩
      rw [e2, if_neg hp, List.append_nil]
theorem comp_fm_tup {α : Type} {K : PySem.W.Frag} {a : Addr} {js : List (Option Nat)} {tt : TT} {te : TE} {σ : St} {H : Hp} {xs : List V} {fin : Addr → Hp → Prop} (zs : List α) (p : α → Bool) (f : α → V) (hS : SqT K H a xs) (hz : zs.length = xs.length) (hn : xs.length ≤ 1000000)
    (htt : ∀ (i : Nat) x z H2 (R : Bool → Hp → Prop), xs[i]? = some x → zs[i]? = some z → Same H H2 → R (p z) H2 → tt ((cσ js σ).set 0 (some x)) H2 R)
    (hte : ∀ (i : Nat) x z H2 (R : VK), xs[i]? = some x → zs[i]? = some z → p z = true → Same H H2 → R (f z) H2 → te ((cσ js σ).set 0 (some x)) H2 R)
    (q : ∀ D, H D = none → fin D (upd H D (.lst ((zs.filter p).map f)))) :
    ∀ D, H D = none → ∃ (n : Nat) (W : Nat → Hp → Prop), W 0 (upd H D (.lst [])) ∧ cTurn js (gName 0) tt te σ (Itt K a) D n W fun H' => fin D H' :=
  comp_fm zs p f hz hn (fun i H2 s hi => ⟨xs, xs[i], s.seqT hS, List.getElem?_eq_getElem hi⟩) (fun H2 s => ⟨xs, s.seqT hS, Nat.le_refl _⟩) (fun i H2 x H3 s hi hy => ⟨hy.1, hy.2 xs (s.seqT hS)⟩) htt hte q
end L2
namespace BB
open PySem L2
theorem at0 {α : Type} {x : α} {xs : List α} : atI (x :: xs) 0 = some x := atI_nat (j := 0) rfl
theorem at1 {α : Type} {x y : α} {xs : List α} : atI (x :: y :: xs) 1 = some y := atI_nat (j := 1) rfl
theorem at2 {α : Type} {x y z : α} {xs : List α} : atI (x :: y :: z :: xs) 2 = some z := atI_nat (j := 2) rfl
theorem cut_tail (x : V) (xs : List V) : cutV (x :: xs) (some 1) none = xs := by
  unfold cutV
  simp [HT.sIx]
theorem len_sizes : ∀ ts : List Th, ts.length ≤ sizes ts
  | [] => Nat.zero_le _
  | t :: ts => by
    have := t.size_pos
    have := len_sizes ts
    rw [List.length_cons, sizes]; omega
theorem line_big {n : Nat} (h : n ≤ 1000000) : n < sizeLine := Nat.lt_of_le_of_lt h (by decide)
theorem line_le {n : Nat} (h : n ≤ 1000000) : n ≤ sizeLine := Nat.le_of_lt (line_big h)
theorem int_at {ns : List Int} {k : Int} (h0 : 0 ≤ k) (h : k < (ns.length : Int)) : atI (ns.map V.int) k = some (.int (ns.getD k.toNat 0)) := by
  refine at_nonneg h0 ?_
  have hk : k.toNat < ns.length := by omega
  rw [List.getElem?_map, List.getElem?_eq_getElem hk, List.getD_eq_getElem?_getD, List.getElem?_eq_getElem hk]
  rfl
end BB
namespace BB
open PySem L2
section
variable {α β : Type} {F G : α → β → Prop}
theorem P2.append : ∀ {a c : List α} {b d : List β}, Paired F a b → Paired F c d → Paired F (a ++ c) (b ++ d)
  | _, _, _, _, .nil, h => h
  | _, _, _, _, .cons r t, h => .cons r (P2.append t h)
theorem P2.get : ∀ {a : List α} {b : List β} {i : Nat} {x : α}, Paired F a b → a[i]? = some x → ∃ y, b[i]? = some y ∧ F x y
  | _, _, _, _, .nil, e => by simp at e
  | _, _, 0, _, .cons r _, e => by simp at e; subst e; exact ⟨_, rfl, r⟩
  | _, _, i + 1, x, .cons _ t, e => by
    obtain ⟨u, h1, h2⟩ := P2.get (i := i) (x := x) t (by simpa using e)
    exact ⟨u, by simpa using h1, h2⟩
theorem P2.get' : ∀ {a : List α} {b : List β} {i : Nat} {y : β}, Paired F a b → b[i]? = some y → ∃ x, a[i]? = some x ∧ F x y
  | _, _, _, _, .nil, e => by simp at e
  | _, _, 0, _, .cons r _, e => by simp at e; subst e; exact ⟨_, rfl, r⟩
  | _, _, i + 1, y, .cons _ t, e => by
    obtain ⟨u, h1, h2⟩ := P2.get' (i := i) (y := y) t (by simpa using e)
    exact ⟨u, by simpa using h1, h2⟩
theorem P2.take : ∀ {a : List α} {b : List β} (n : Nat), Paired F a b → Paired F (a.take n) (b.take n)
  | _, _, 0, _ => .nil
  | _, _, _ + 1, .nil => .nil
  | _, _, n + 1, .cons r t => .cons r (P2.take n t)
theorem P2.drop : ∀ {a : List α} {b : List β} (n : Nat), Paired F a b → Paired F (a.drop n) (b.drop n)
  | _, _, 0, r => r
  | _, _, _ + 1, .nil => .nil
  | _, _, n + 1, .cons _ t => P2.drop n t
theorem P2.mp (f : ∀ x y, F x y → G x y) : ∀ {a : List α} {b : List β}, Paired F a b → Paired G a b
  | _, _, .nil => .nil
  | _, _, .cons r t => .cons (f _ _ r) (P2.mp f t)
end
def KAt (H : Hp) (k : Str × Int) (a : Addr) : Prop := H a = some (.tup [.str k.1, .int k.2])
def KsAt (H : Hp) (ks : List (Str × Int)) (as : List Addr) : Prop := Paired (KAt H) ks as
theorem KsAt.mono {H H' : Hp} (k : KT H H') {ks : List (Str × Int)} {as : List Addr} (h : KsAt H ks as) : KsAt H' ks as := P2.mp (fun x y e => k _ _ e) h
end BB
namespace L2
open PySem
theorem seq_intro {t u : TS} {D : Ends} {σ : St} {H : Hp} (R : St → Hp → Prop) (h1 : ∀ k : St → Hp → Prop, (∀ σ' H', R σ' H' → k σ' H') → t { D with nx := k } σ H) (h2 : ∀ σ' H', R σ' H' → u D σ' H') : tSeq t u D σ H := h1 _ h2
theorem if_intro {c : TT} {t u : TS} {D : Ends} {σ : St} {H : Hp} (R : Bool → Hp → Prop) (h1 : ∀ k : Bool → Hp → Prop, (∀ b H', R b H' → k b H') → c σ H k) (h2 : ∀ H', R true H' → t D σ H') (h3 : ∀ H', R false H' → u D σ H') : tIfS c t u D σ H :=
  h1 _ fun b H' r => by
    cases b with
    | true => rw [if_pos rfl]; exact h2 H' r
    | false => rw [if_neg Bool.false_ne_true]; exact h3 H' r
end L2
namespace BB
open PySem L2
mutual
def Th.Fit (ks : List (Str × Int)) : Th → Prop
  | .knot n ts => (n, (ts.length : Int)) ∈ ks ∧ Fits ks ts
  | .call _ _ => False
def Fits (ks : List (Str × Int)) : List Th → Prop
  | [] => True
  | t :: ts => t.Fit ks ∧ Fits ks ts
end
theorem Fits.of {ks : List (Str × Int)} : ∀ {ts : List Th}, (∀ t ∈ ts, t.Fit ks) → Fits ks ts
  | [], _ => by rw [Fits]; trivial
  | t :: ts, h => by
    rw [Fits]
    exact ⟨h t (List.mem_cons_self ..), Fits.of fun u hu => h u (List.mem_cons_of_mem _ hu)⟩
theorem Fits.mem {ks : List (Str × Int)} : ∀ {ts : List Th}, Fits ks ts → ∀ t ∈ ts, t.Fit ks
  | [], _, t, h => by cases h
  | u :: ts, h, t, m => by
    rw [Fits] at h
    rcases List.mem_cons.mp m with rfl | m
    · exact h.1
    · exact Fits.mem h.2 t m
section
variable {ext : Th → List V} {H H' : Hp} {t : Th} {a : Addr} {ts : List Th} {es : List Addr}
end
theorem talls_le : ∀ {ts : List Th} {t : Th}, t ∈ ts → t.tall ≤ talls ts
  | u :: ts, t, h => by
    rw [talls]
    rcases List.mem_cons.mp h with rfl | h
    · omega
    · have := talls_le h; omega
theorem talls_mem : ∀ {ts : List Th}, ts ≠ [] → ∃ t ∈ ts, t.tall = talls ts
  | [], h => absurd rfl h
  | [u], _ => ⟨u, List.mem_cons_self .., by rw [talls, talls]; omega⟩
  | u :: v :: ts, _ => by
    obtain ⟨t, h1, h2⟩ := talls_mem (ts := v :: ts) (by simp)
    rw [talls]
    by_cases c : talls (v :: ts) ≤ u.tall
    · exact ⟨u, List.mem_cons_self .., by omega⟩
    · exact ⟨t, List.mem_cons_of_mem _ h1, by omega⟩
theorem sizes_sum : ∀ ts : List Th, (ts.map fun t => ((t.size : Nat) : Int)).sum = ((sizes ts : Nat) : Int)
  | [] => rfl
  | t :: ts => by
    rw [List.map_cons, List.sum_cons, sizes_sum ts, sizes]
    omega
theorem ints_map (ts : List Th) (f : Th → Int) : (ts.map fun t => V.int (f t)) = (ts.map f).map V.int := by rw [List.map_map]; rfl
theorem cutV_from {xs : List V} {n : Nat} (h : n ≤ xs.length) : cutV xs (some (n : Int)) none = xs.drop n := by
  unfold cutV
  rw [HT.sIx_nat, HT.sIx_none, Nat.min_eq_left h]
  exact List.take_of_length_le (by rw [List.length_drop]; exact Nat.le_refl _)
theorem take_snoc {α : Type} {xs : List α} {n : Nat} {x : α} (h : xs[n]? = some x) : xs.take (n + 1) = xs.take n ++ [x] := by rw [List.take_add_one, h]; rfl
theorem get_ref {xs : List Addr} {i : Nat} {x : V} (h : (xs.map V.ref)[i]? = some x) : ∃ a, x = .ref a ∧ xs[i]? = some a := by
  rw [List.getElem?_map] at h
  obtain ⟨a, h1, h2⟩ := Option.map_eq_some_iff.mp h
  exact ⟨a, h2.symm, h1⟩
end BB
namespace PySem
open Sem (wp)
section
variable {prog : Program} {w : World} {A : Around} {E : Value → Shared → Prop} {s : Shared}
end
section
variable {prog : Program} {w : World} {A : Around} {E : Value → Shared → Prop} {s : Shared}
end
end PySem
namespace L2
open PySem PySem.Spec PyProof.Rows
section
variable {X : Cx} {e : Expr} {te : TE} {p2 pos2 : Pos}
def rCatA (K : PySem.W.Frag) : R2 := fun x y H Q => ∃ a b xs ys, x = .ref a ∧ y = .ref b ∧ SqT K H a xs ∧ SqT K H b ys ∧ xs.length + ys.length ≤ sizeLine ∧
  (xs = [] → Q (.ref b) H) ∧ (xs ≠ [] → ys = [] → Q (.ref a) H) ∧ (xs ≠ [] → ys ≠ [] → ∀ p, H p = none → Q (.ref p) (upd H p (.tup (xs ++ ys))))
theorem op_catA : OpR X (binaryOp .Add) (rCatA X.K) := by
  intro pins s σ H x y v u Q I rx ry h
  obtain ⟨a, b, xs, ys, e1, e2, ha, hb, hz, q0, q1, q2⟩ := h
  by_cases hx : xs = []
  · subst e1 e2
    cases rx
    cases ry
    obtain ⟨its, r1, p1, _⟩ := I.tuple ha
    obtain ⟨its2, r2, p2, _⟩ := I.tuple hb
    have hi : its = [] := r1.nil_iff.mpr hx
    obtain ⟨⟨cls, dd, data, sl⟩, ho, hc, n, hd⟩ := p1
    obtain ⟨⟨cls2, dd2, data2, sl2⟩, ho2, hc2, n2, hd2⟩ := p2
    simp only at hc hd hc2 hd2
    subst hc hd hc2 hd2
    exact concat_meets ⟨_, ho, rfl⟩ ⟨_, ho2, rfl⟩ noFill_tuple_add seq_tuple_add PySem.F.slot_tuple_add PySem.F.entry_tuple_add (PySem.F.args_tuple_add_2 _ _) (tuple_addW0 a b its.toArray its2.toArray n n2 dd dd2 sl sl2 (by simp [hi])) ⟨ho, ho2, ⟨.ref b, H, I, rfl, q0 hx⟩⟩
  · exact op_catT pins s σ H x y v u Q I rx ry ⟨a, b, xs, ys, e1, e2, ha, hb, hx, hz, q1 hx, q2 hx⟩
end
end L2
namespace L2
open PySem PySem.Spec PyProof.Rows
variable {K : PySem.W.Frag}
end L2
namespace BB
open PySem L2
inductive Dv where
  | int (i : Int)
  | str (x : Str)
  | tup (ds : List Dv)
mutual
def Dv.deep : Dv → Nat
  | .int _ => 0
  | .str _ => 0
  | .tup ds => deeps ds + 1
def deeps : List Dv → Nat
  | [] => 0
  | d :: ds => max d.deep (deeps ds)
end
mutual
def Dv.tot : Dv → Nat
  | .int _ => 1
  | .str _ => 1
  | .tup ds => tots ds + 1
def tots : List Dv → Nat
  | [] => 0
  | d :: ds => d.tot + tots ds
end
mutual
def DAt (H : Hp) : Dv → V → Prop
  | .int i, v => v = .int i
  | .str x, v => v = .str x
  | .tup ds, v => ∃ a vs, v = .ref a ∧ H a = some (.tup vs) ∧ DAts H ds vs
def DAts (H : Hp) : List Dv → List V → Prop
  | [], vs => vs = []
  | d :: ds, vs => ∃ v r, vs = v :: r ∧ DAt H d v ∧ DAts H ds r
end
theorem DAts.nil {H : Hp} : DAts H [] [] := by rw [DAts]
theorem DAts.cons {H : Hp} {d : Dv} {ds : List Dv} {v : V} {vs : List V} (h1 : DAt H d v) (h2 : DAts H ds vs) : DAts H (d :: ds) (v :: vs) := by rw [DAts]; exact ⟨v, vs, rfl, h1, h2⟩
theorem DAts.length {H : Hp} : ∀ {ds : List Dv} {vs : List V}, DAts H ds vs → vs.length = ds.length
  | [], vs, h => by rw [DAts] at h; subst h; rfl
  | d :: ds, vs, h => by
    rw [DAts] at h
    obtain ⟨v, r, rfl, h1, h2⟩ := h
    rw [List.length_cons, List.length_cons, h2.length]
theorem DAts.at {H : Hp} : ∀ {ds : List Dv} {vs : List V} {i : Nat} {d : Dv}, DAts H ds vs → ds[i]? = some d → ∃ v, vs[i]? = some v ∧ DAt H d v
  | [], vs, i, d, h, e => by simp at e
  | d0 :: ds, vs, i, d, h, e => by
    rw [DAts] at h
    obtain ⟨v, r, rfl, h1, h2⟩ := h
    cases i with
    | zero => simp at e; subst e; exact ⟨v, rfl, h1⟩
    | succ i =>
      obtain ⟨u, g1, g2⟩ := h2.at (i := i) (by simpa using e)
      exact ⟨u, by simpa using g1, g2⟩
theorem deep_get : ∀ {ds : List Dv} {i : Nat} {d : Dv}, ds[i]? = some d → d.deep ≤ deeps ds
  | [], i, d, e => by simp at e
  | d0 :: ds, i, d, e => by
    rw [deeps]
    cases i with
    | zero => simp at e; subst e; omega
    | succ i =>
      have := deep_get (ds := ds) (i := i) (by simpa using e)
      omega
theorem tot_get : ∀ {ds : List Dv} {i : Nat} {d : Dv}, ds[i]? = some d → d.tot ≤ tots ds
  | [], i, d, e => by simp at e
  | d0 :: ds, i, d, e => by
    rw [tots]
    cases i with
    | zero => simp at e; subst e; omega
    | succ i =>
      have := tot_get (ds := ds) (i := i) (by simpa using e)
      omega
theorem Dv.tot_pos (d : Dv) : 1 ≤ d.tot := by
  cases d with
  | int i => rw [Dv.tot]; omega
  | str x => rw [Dv.tot]; omega
  | tup ds => rw [Dv.tot]; omega
mutual
def Th.dv : Th → Dv
  | .knot n ks => .tup (.str n :: dvs ks)
  | .call s k => .tup [.str q, .int s, .int k]
def dvs : List Th → List Dv
  | [] => []
  | t :: ts => t.dv :: dvs ts
end
mutual
theorem At.dv {H : Hp} : ∀ {t : Th} {a : Addr}, At H t a → DAt H t.dv (.ref a)
  | .knot n ks, a, h => by
    rw [At] at h
    obtain ⟨_, as, h1, h2⟩ := h
    rw [Th.dv, DAt]
    exact ⟨a, _, rfl, h1, .cons (by rw [DAt]) (Ats.dvs h2)⟩
  | .call s k, a, h => by
    rw [At] at h
    rw [Th.dv, DAt]
    exact ⟨a, _, rfl, h, .cons (by rw [DAt]) (.cons (by rw [DAt]) (.cons (by rw [DAt]) .nil))⟩
theorem Ats.dvs {H : Hp} : ∀ {ts : List Th} {as : List Addr}, Ats H ts as → DAts H (dvs ts) (as.map V.ref)
  | [], as, h => by rw [Ats] at h; subst h; rw [BB.dvs]; exact .nil
  | t :: ts, as, h => by
    rw [Ats] at h
    obtain ⟨a, r, rfl, h1, h2⟩ := h
    rw [BB.dvs, List.map_cons]
    exact .cons (At.dv h1) (Ats.dvs h2)
end
mutual
theorem Th.dv_deep : ∀ t : Th, t.dv.deep ≤ t.tall
  | .knot n ks => by
    have := dvs_deep ks
    rw [Th.dv, Dv.deep, deeps, Dv.deep, Th.tall]
    omega
  | .call s k => by rw [Th.dv, Th.tall]; simp [Dv.deep, deeps]
theorem dvs_deep : ∀ ts : List Th, deeps (dvs ts) ≤ talls ts
  | [] => by rw [dvs, deeps]; exact Nat.zero_le _
  | t :: ts => by
    have := t.dv_deep
    have := dvs_deep ts
    rw [dvs, deeps, talls]
    omega
end
theorem catT {K : PySem.W.Frag} {H : Hp} {a b : Addr} {xs ys : List V} {Q : VK} (ha : H a = some (.tup xs)) (hb : H b = some (.tup ys)) (hz : xs.length + ys.length ≤ 1000000) (q : ∀ p H', L2.Same H H' → H' p = some (.tup (xs ++ ys)) → Q (.ref p) H') : rCatA K (.ref a) (.ref b) H Q := by
  refine ⟨a, b, xs, ys, rfl, rfl, SqT.of ha, SqT.of hb, line_le hz, fun e => ?_, fun _ e => ?_, fun _ _ p hp => ?_⟩
  · exact q b H (.refl _) (by rw [e]; exact hb)
  · exact q a H (.refl _) (by rw [e, List.append_nil]; exact ha)
  · exact q p _ (same_new hp _) upd_same
theorem P2.reverse {α β : Type} {F : α → β → Prop} : ∀ {a : List α} {b : List β}, Paired F a b → Paired F a.reverse b.reverse
  | _, _, .nil => .nil
  | _, _, .cons r t => by
    rw [List.reverse_cons, List.reverse_cons]
    exact P2.append (P2.reverse t) (.cons r .nil)
theorem P2.snoc_inv {α β : Type} {F : α → β → Prop} {a : List α} {b : List β} {y : β} (h : Paired F a (b ++ [y])) : ∃ us x, a = us ++ [x] ∧ Paired F us b ∧ F x y := by
  have r := P2.reverse h
  rw [List.reverse_append, List.reverse_singleton, List.singleton_append] at r
  cases e : a.reverse with
  | nil => rw [e] at r; cases r
  | cons x us =>
    rw [e] at r
    cases r with
    | cons h1 h2 =>
      refine ⟨us.reverse, x, ?_, ?_, h1⟩
      · rw [← List.reverse_cons, ← e, List.reverse_reverse]
      · have := P2.reverse h2
        rw [List.reverse_reverse] at this
        exact this
theorem sizes_mem : ∀ {ts : List Th} {t : Th}, t ∈ ts → t.size ≤ sizes ts
  | u :: ts, t, h => by
    rw [sizes]
    rcases List.mem_cons.mp h with rfl | h
    · omega
    · have := sizes_mem h; omega
end BB
namespace L2
open PySem PySem.Spec PySem.Calls PyProof.Rows PySem.W
structure ExcK (K : Frag) (C : Addr) : Prop where
  exc : excIn K C [.type "ValueError", .type "Exception", .type "BaseException", .type "object"] "ValueError.__new__" = true
  ga : findIn K (.ref C) "__getattribute__" = some (some (.builtin "BaseException.__getattribute__"))
  gt : findIn K (.ref C) "__getattr__" = some none
  cl : findIn K (.ref C) "__class__" = some (some (.builtin "object.__class__"))
  mo : mroIn K C (.type "object") = some true
  mb : mroIn K C (.type "BaseException") = some true
section
variable {prog : Program} {w : World} {A : Around} {E : Value → Shared → Prop} {h : Heap} {g : Array GenState} {d : Drawn} {t : Nat} {os : OsState} {a C : Addr} {o : Obj} {K : Frag}
open Builtin Builtin.ObjectAttr Builtin.Getset_descriptor in
theorem xcls_get {R : Result → Shared → Prop} {tp : Value} (X : K.In h) (hx : h.get? a = some o) (hc : o.cls = .ref C) (F : ExcK K C) (hq : R (.ok (.ret (.ref C))) ⟨h, g, d, t, os⟩) :
    codeAny (model prog w) A (.call (.builtin "getset_descriptor.__get__") ⟨[.builtin "object.__class__", .ref a, tp], []⟩) R ⟨h, g, d, t, os⟩ := by
  have L0 : Looks (model prog w) h (typeOf (.ref a)) (.ref C) := hc ▸ (Looks.ld hx).andThen .now
  have L1 := looks_mroIn (M := model prog w) X F.mo
  refine codeAny_call_builtin KF.slot_gs.plain KF.entry_gs (KF.slot_gs.check _ _ _ _ _ _ _ _ KF.type_class (KF.args_gs _ _ _) ?_)
  unfold Builtin.«getset_descriptor.__get__» descrGet
  rw [dga_obj]
  refine wpAny_bind (wpAny_pure ?_)
  unfold descrGetter descrCheckInstance descrNameAndClass isInstance
  simp only [KF.owner_class]
  repeat lk
  refine ⟨Code.quiet_builtin _ (by decide +kernel), codeAny_builtin KF.entry_class ?_⟩
  unfold Builtin.«object.__class__» shownTypeOf
  repeat lk
  exact hq
theorem xcls_entry {tk : Tok} {Q : Fin → Shared → Prop} (X : K.In h) (hx : h.get? a = some o) (hc : o.cls = .ref C) (F : ExcK K C) (hq : Q (.done (.ret (.ref C))) ⟨h, g, d, t, os⟩) :
    wpAny (model prog w) A (Builtin.«object.__getattribute__» ⟨[.ref a, .str "__class__" tk], []⟩) Q E ⟨h, g, d, t, os⟩ := by
  have f5 := PySem.F.typeOf_object_class
  have f6 := PySem.F.slot_gs_get.lookup
  have f7 := PySem.F.slot_gs_set.lookup
  have L1 := looks_findIn (M := model prog w) X F.cl
  repeat (any_goals (first | assumption | (with_reducible refine wpAny_loadPart_at hx ?_; rw [hc]) | with_reducible refine L1.at ?_ | wp_step))
  refine xcls_get X hx hc F ?_
  repeat (any_goals (first | assumption | wp_step))
theorem xcls_check {M : Model} {nameV : Value} {Q : Unit → Shared → Prop} (X : K.In h) (hx : h.get? a = some o) (hc : o.cls = .ref C) (F : ExcK K C) (hq : Q () ⟨h, g, d, t, os⟩) :
    wpAny M A (checkBuiltinCall "BaseException.__getattribute__" ⟨[.ref a, nameV], []⟩) Q E ⟨h, g, d, t, os⟩ := by
  have hk : builtinKind "BaseException.__getattribute__" = some .slot := by decide +kernel
  have hsplit : splitId "BaseException.__getattribute__" = some ("BaseException", "__getattribute__") := by decide +kernel
  have ha := PySem.F.args_bexc_ga (.ref a) nameV
  have L0 : Looks M h (typeOf (.ref a)) (.ref C) := hc ▸ (Looks.ld hx).andThen .now
  have L1 := looks_mroIn (M := M) X F.mb
  simp only [checkBuiltinCall, hk, hsplit]
  refine wpAny_bind ?_
  · unfold isInstance
    repeat (first | with_reducible refine L0.at ?_ | with_reducible refine L1.at ?_ | wp_step)
    exact hq
theorem xcls_call {tk : Tok} {R : Result → Shared → Prop} (X : K.In h) (hx : h.get? a = some o) (hc : o.cls = .ref C) (F : ExcK K C) (hq : R (.ok (.ret (.ref C))) ⟨h, g, d, t, os⟩) :
    codeAny (model prog w) A (.call (.builtin "BaseException.__getattribute__") ⟨[.ref a, .str "__class__" tk], []⟩) R ⟨h, g, d, t, os⟩ :=
  codeAny_call_builtin PySem.F.attr_ValueError.ga.plain PySem.F.entry_bexc_ga (xcls_check X hx hc F (xcls_entry X hx hc F hq))
theorem xcls_by {tk : Tok} {fill expr : Bool} {Q : Value → Shared → Prop} (X : K.In h) (hx : h.get? a = some o) (hc : o.cls = .ref C) (F : ExcK K C) (hq : Q (.ref C) ⟨h, g, d, t, os⟩) :
    wpAny (model prog w) A (getAttrBy (.ref a) (.str "__class__" tk) fill expr) Q E ⟨h, g, d, t, os⟩ := by
  have f3 := PySem.F.attr_ValueError.ga.bind (.ref a)
  have hx0 : (expr && onTheHeap (Value.builtin "BaseException.__getattribute__")) = false := by cases expr <;> rfl
  have hx2 : (Value.builtin "BaseException.__getattribute__" == Value.builtin "object.__getattribute__") = false := by decide +kernel
  have hx1 : (onTheHeap (Value.ref C) && Value.builtin "BaseException.__getattribute__" == Value.builtin "object.__getattribute__") = false := by rw [hx2]; rfl
  have L1 := looks_findIn (M := model prog w) X F.ga
  have L2 := looks_findIn (M := model prog w) X F.gt
  repeat (any_goals (first | assumption | (with_reducible refine wpAny_loadPart_at hx ?_; rw [hc]) | with_reducible refine L1.at ?_ | with_reducible refine L2.at ?_ | wp_step))
  refine xcls_call X hx hc F ?_
  repeat (any_goals (first | assumption | wp_step))
theorem xcls_attr {Q : Option Value → Shared → Prop} (X : K.In h) (hx : h.get? a = some o) (hc : o.cls = .ref C) (F : ExcK K C) (hq : Q (some (.ref C)) ⟨h, g, d, t + 1, os⟩) :
    wpAny (model prog w) A (getAttr? (.ref a) "__class__") Q E ⟨h, g, d, t, os⟩ := by
  unfold getAttr? getAttrBy?
  repeat (any_goals (first | assumption | with_reducible apply xcls_by X hx hc F | wp_step))
theorem kitx_exc (F : ExcK K C) : KitX K (.ref a) (.ref C) (fun h => ∃ o, h.get? a = some o ∧ o.cls = .ref C) where
  ty := fun _ _ _ ⟨_, hx, hc⟩ => hc ▸ (Looks.ld hx).andThen .now
  it := fun _ _ X _ => by
    have hb := F.mb
    unfold mroIn clsIn at hb
    split at hb
    · rename_i c' d' cd' sl' ho
      intro A' Q' E' s' k q
      unfold isType loadHead
      exact wpAny_bind (wpAny_loadPart (k _ _ (X _ _ ho)) (wpAny_pure q))
    · cases hb
  ne := fun h tp dd its n sl X htp => by
    refine Bool.eq_false_iff.mpr fun q => ?_
    have e : C = tp := Value.ref.inj (beq_iff_eq.mp q)
    subst e
    have hb := F.mb
    unfold mroIn clsIn at hb
    split at hb
    · rename_i c' d' cd' sl' ho
      have z := (X _ _ ho).symm.trans htp
      cases z
    · cases hb
  ca := fun {_ _ _ _ _ s} X ⟨_, hx, hc⟩ k => by obtain ⟨h, g, d, t, os⟩ := s; exact xcls_attr X hx hc F k
end
def cvOf : V → Value
  | .ref D => .ref D
  | .ty n => .type n
  | _ => .none
def rIsx (K : Frag) (ea C : Addr) : List V → Hp → VK → Prop := fun xs H Q => ∃ v b, xs = [.ref ea, v] ∧ kitOne K (.ref C) (cvOf v) = some b ∧ Q (.bl b) H
theorem call_isx {X : Cx} {K : Frag} {ea C : Addr} {oe : Obj} (hp : (ea, oe) ∈ X.pn) (hc : oe.cls = .ref C) (F : ExcK K C) (hK : X.K = K := by rfl) : CallR X (.builtin "isinstance") (rIsx K ea C) := by
  subst hK
  intro pins s σ H xs us Q I r h
  obtain ⟨v, b, rfl, k, q⟩ := h
  obtain ⟨u, w', rfl, r1, r2⟩ := vals2 r
  cases (show u = Value.ref ea from r1)
  have hv : w' = cvOf v := by
    cases v with
    | ref D => exact r2
    | ty n => exact r2
    | non => exact absurd k (by intro z; cases z)
    | bl _ => exact absurd k (by intro z; cases z)
    | int _ => exact absurd k (by intro z; cases z)
    | str _ => exact absurd k (by intro z; cases z)
    | byt _ => exact absurd k (by intro z; cases z)
    | flt _ => exact absurd k (by intro z; cases z)
  subst hv
  have hx := (I.pin (ea, oe) (List.mem_append_left _ hp)).1
  exact kia_one (kitx_exc F) I.kIn ⟨oe, hx, hc⟩ k (fun z => nomatch z) fun tk => ⟨.bl b, H, I.tok tk, rfl, q⟩
end L2
namespace L2
open PySem PySem.Spec PySem.Calls PyProof.Rows PySem.W
theorem ObjOk.there {P : Program} {w : World} {H : Hp} {h : Heap} {a : Addr} {o : HO} (x : ObjOk P w H h a o) : ∃ ob, h.get? a = some ob := by
  cases o with
  | lst xs => obtain ⟨_, _, _, _, e⟩ := x; exact ⟨_, e⟩
  | tup xs => obtain ⟨_, _, _, _, e⟩ := x; exact ⟨_, e⟩
  | dK kvs => obtain ⟨_, _, _, _, o, _, _, e, _⟩ := x; exact ⟨_, e⟩
  | dT kvs => obtain ⟨_, _, _, _, o, _, _, e, _⟩ := x; exact ⟨_, e⟩
  | set S n => obtain ⟨o, _, _, _, e, _⟩ := x; exact ⟨_, e⟩
  | ins C dx fs => obtain ⟨_, _, _, e, _⟩ := x; exact ⟨_, e⟩
  | own y => obtain ⟨_, e⟩ := x; exact ⟨_, e⟩
  | xd fs => obtain ⟨_, ⟨_, _, _, e, _⟩, _⟩ := x; exact ⟨_, e⟩
  | rng lo hi => obtain ⟨_, _, _, e⟩ := x; exact ⟨_, e⟩
  | frz ob u => obtain ⟨e, _⟩ := x; exact ⟨_, e⟩
  | tbl ps => exact ⟨_, (show h.get? a = some _ from x)⟩
  | met f y => exact ⟨_, (show h.get? a = some _ from x)⟩
  | ext φ => obtain ⟨_, ⟨_, e⟩, _⟩ := x; exact ⟨_, e⟩
def CX1 (P : Program) (w : World) : CXT := fun outer H s E e s' => ∃ (ea C : Addr) (a0 : Value) (B : Heap) (H' : Hp),
  e = .ref ea ∧ s'.os = s.os ∧ AllBare s'.gens ∧ Un (frs outer) [] H H' s.heap s'.heap ∧ HOk P w H' s'.heap ∧ Heap.FlyingW B outer ea (.ref C) a0 s'.heap ∧
  (∀ b o, s.heap.get? b = some o → b ∉ frs outer → ∃ o', B.get? b = some o' ∧ (H b = none → o' = o)) ∧ (∀ b u, H' b = some u → ∃ o', B.get? b = some o') ∧ E (.ref C) none H'
theorem hok_fly {P : Program} {w : World} {H' : Hp} {B h h' : Heap} (hok : HOk P w H' h) (k1 : B.StaysIn h) (k2 : B.StaysIn h') (b2 : ∀ b u, H' b = some u → ∃ o', B.get? b = some o') : HOk P w H' h' := fun a o e =>
  (hok a o e).stay (fun b u hb q => by
    have ht : ∃ v, H' b = some v := by
      rcases hb with rfl | hb
      · exact ⟨_, e⟩
      · exact ⟨_, hb⟩
    obtain ⟨v, hv⟩ := ht
    obtain ⟨o', ho'⟩ := b2 b v hv
    have := k1 b o' ho'
    rw [q] at this; cases this
    exact k2 b _ ho') (fun _ q => q) fun _ _ q => q
theorem un_fly {fs : List Addr} {H H1 H' : Hp} {h h1 h2 h' : Heap} {l : List Addr} {B : Heap} (u1 : Un fs [] H H1 h h1) (u2 : Un l [] H1 H' h1 h2) (hl : ∀ b o, h.get? b = some o → b ∈ l → b ∈ fs)
    (b1 : ∀ b o, h1.get? b = some o → b ∉ l → ∃ o', B.get? b = some o' ∧ (H1 b = none → o' = o)) (st : B.StaysIn h') (up : h2.UpToSlots h')
    (hf : ∀ b ∈ fs, H b = none ∧ ∃ o, h.get? b = some o ∧ ∀ vs, o.data ≠ .fields vs) :
    Un fs [] H H' h h' ∧ ∀ b o, h.get? b = some o → b ∉ fs → ∃ o', B.get? b = some o' ∧ (H b = none → o' = o) := by
  have nx : ∀ b : Addr, b ∉ ([] : List Addr) := fun b => by simp
  have bb : ∀ b o, h.get? b = some o → b ∉ fs → ∃ o', B.get? b = some o' ∧ (H b = none → o' = o) := fun b o q nf => by
    obtain ⟨o1, e1⟩ := u1.there b o q (nx b)
    obtain ⟨o', e', g⟩ := b1 b o1 e1 fun z => nf (hl b o q z)
    refine ⟨o', e', fun n => ?_⟩
    have := u1.keep b o q n nf (nx b)
    rw [e1] at this; cases this
    exact g (u1.free b _ q n (nx b))
  have sl : ∀ b o, h.get? b = some o → H b = none → b ∈ fs → ∃ sl, h'.get? b = some { o with slots := sl } := fun b o q n m => by
    obtain ⟨s1, e1⟩ := u1.slot b o q n m (nx b)
    obtain ⟨s2, e2⟩ := u2.any e1 (u1.free b o q n (nx b)) (nx b)
    obtain ⟨_, o0, q0, nf⟩ := hf b m
    rw [q] at q0; cases q0
    obtain ⟨s3, e3⟩ := up b _ e2 nf
    exact ⟨s3, e3⟩
  refine ⟨⟨fun b o q n nf _ => ?_, fun b o q n m _ => sl b o q n m, fun b o q n _ => ?_, fun b o q _ => ?_, fun b xs q => u2.tups b xs (u1.tups b xs q), fun b o u q => u2.frzs b o u (u1.frzs b o u q), fun b ps q => ?_⟩, bb⟩
  · obtain ⟨o', e', g⟩ := bb b o q nf
    rw [← g n]; exact st b o' e'
  · obtain ⟨o1, e1⟩ := u1.there b o q (nx b)
    exact u2.free b o1 e1 (u1.free b o q n (nx b)) (nx b)
  · by_cases m : b ∈ fs
    · obtain ⟨n, _⟩ := hf b m
      obtain ⟨s3, e3⟩ := sl b o q n m
      exact ⟨_, e3⟩
    · obtain ⟨o', e', _⟩ := bb b o q m
      exact ⟨o', st b o' e'⟩
  · obtain ⟨m1, e1⟩ := u1.tbls b ps q
    obtain ⟨m2, e2⟩ := u2.tbls b _ e1
    exact ⟨m1 ++ m2, by rw [e2, Array.append_assoc]⟩
section
variable {P : Program} {w : World} {K : PySem.W.Frag} {mg : Str → Option Value} {base : Heap} {N : List Str} {qual : Str} {scope : Scope} {f : Addr} {cd : Value} {A : Around} {outer : List Env} {s : Shared} {H : Hp} {E : XK}
theorem frs_in {l : List Env} {env : Env} {L : Addr} (hf : env.frame = some L) : frs (env :: l) = L :: frs l := by unfold frs; rw [List.filterMap_cons, hf]
theorem pass1 : Passes (CX1 P w) (cxOf (CX1 P w) P w K mg base N qual scope f cd A outer s H E) E := by
  intro pins σ H1 s1 e s2 I h
  obtain ⟨ea, C, a0, B, H', rfl, hos, hbare, un, hok, fly, b1, b2, q⟩ := h
  show wpAny _ _ (leaving _ _) _ _ s2
  refine wpAny_leaves_onW (E := fun e' s'' => CX1 P w outer H s E e' s'') I.ok.frames rfl fly fun h' fly' up => ?_
  obtain ⟨U, b1'⟩ := un_fly (fs := frs outer) (H := H) (h := s.heap) (l := frs (envOfC qual scope s.heap.objs.size f cd :: outer)) (B := B) (h' := h') I.base un (fun b o hb z => by
      rw [frs_in (L := s.heap.objs.size) rfl] at z
      rcases List.mem_cons.mp z with rfl | z
      · exact absurd (Heap.lt_size hb) (Nat.lt_irrefl _)
      · exact z) b1 fly'.1 up (fun b hb => ⟨I.ok.frf b hb, (I.ok.funs.mem hb).2⟩)
  exact ⟨ea, C, a0, B, H', rfl, hos.trans I.os, hbare, U, hok_fly hok fly.1 fly'.1 b2, fly', b1', b2, q⟩
def tRaise (te : TE) (C : Addr) (E : XK) : TS := fun _ σ H => te σ H fun _ H1 => E (.ref C) none H1
theorem own_cls {h : Heap} {C : Addr} {x : Str} (X : K.In h) (F : ExcK K C) (hm : mg x = some (.ref C)) : OwnCls x C [.type "ValueError", .type "Exception", .type "BaseException", .type "object"] "ValueError.__new__" mg h := by
  have q := F.exc
  refine ⟨hm, ?_⟩
  unfold excIn at q
  split at q
  · rename_i dd cd sl ho
    split at q
    · rename_i C' bm k0 k1 k2 k3 n k5 hm hs
      simp only [Bool.and_eq_true, beq_iff_eq, Bool.not_eq_true'] at q
      obtain ⟨⟨⟨⟨⟨rfl, rfl⟩, hdel⟩, ht⟩, hok⟩, hni⟩ := q
      obtain ⟨nm, bs, mro, ns, qn, hd, sn, sub, ab, col, del⟩ := cd
      dsimp only at hm hdel hok hni
      subst hm hdel
      have hsl : sl = #[k0, k1, k2, k3, some (.builtin "ValueError.__new__"), k5] := by
        obtain ⟨l⟩ := sl
        simp only at hs
        rw [hs]
      subst hsl
      exact ⟨bm, ns, nm, qn, bs, hd, sn, sub, ab, col, dd, k0, k1, k2, k3, k5, _, X _ _ ho, .of_isNs (isNs_of_in X hok), nsMap_none_of_in X hok hni, tail_of_in X ht⟩
    · cases q
  · cases q
theorem ps_raise {C : Addr} {x : Str} {e0 : Expr} {te : TE} {np cpos pos : Pos} (F : ExcK K C) (hm : mg x = some (.ref C)) (he : PE (cxOf (CX1 P w) P w K mg base N qual scope f cd A outer s H E) e0 te)
    (hx : (envOfC qual scope s.heap.objs.size f cd).kindOf x = some .globalImplicit := by rfl)
    (hst : starEach [e0] (envOfC qual scope s.heap.objs.size f cd) = [(false, eval e0 (envOfC qual scope s.heap.objs.size f cd))] := by rfl) (hd : (x == ("__debug__" : Str)) = false := by decide) :
    PS (cxOf (CX1 P w) P w K mg base N qual scope f cd A outer s H E) (.Raise (some (.Call (.Name x np) [e0] [] cpos)) none pos) (tRaise te C E) := by
  intro pins s1 σ H1 D I h
  obtain ⟨tl, N', nm, q, bs, hdct, sn, sub, ab, col, dd, k0, k1, k2, k3, k5, mN, hC, hN, hni, T⟩ := (own_cls I.mod.kin F hm).obj
  refine wpAny_Raise_call_subT (C := C) (nm := nm) (q := q) (N := N') (bs := bs) (bm := tl) (hdct := hdct) (sn := sn) (sub := sub) (ab := ab) (col := col) (dd := dd) (k0 := k0) (k1 := k1) (k2 := k2) (k3 := k3) (k5 := k5)
    PySem.F.excBase_ValueError (mN := mN) (T.hasType PySem.F.excBase_ValueError.hasBase) (I.ok.hd rfl) (by show (backTo cpos (starEach [e0] (envOfC qual scope s.heap.objs.size f cd))).any (·.1) = false; rw [hst]; rfl) hni (ld_glob I hx hm ⟨rfl, ?_⟩ hd)
  show wpAny _ _ (evalArgs _ true (backTo cpos (starEach [e0] (envOfC qual scope s.heap.objs.size f cd))) []) _ _ _
  rw [hst]
  refine Calls.evalArgs_plain (Calls.spliced_cons (thn (he pins s1 σ H1 _ I h) fun v s2 ⟨y, H2, I2, r2, q2⟩ => Calls.spliced_nil ⟨rfl, by show 1 ≤ sizeLine; decide, I2.bk _ _ hC, hN.keeps I2.bk, T.keeps I2.bk, fun h' e hx => ?_⟩))
  show wpAny _ _ (leaving _ _) _ _ _
  have FF := I2.stack
  have hl : ∀ env ∈ envOfC qual scope s.heap.objs.size f cd :: outer, ∀ a, env.frame = some a → a ∈ frs (envOfC qual scope s.heap.objs.size f cd :: outer) := fun env he a ha => List.mem_filterMap.mpr ⟨env, he, ha⟩
  refine wpAny_leaves_madeW (base := hideAll s2.heap (frs (envOfC qual scope s.heap.objs.size f cd :: outer))) (h := s2.heap) I.ok.frames rfl (fun b o z => of_hideAll _ z) (funFrames_hide FF hl) hx fun h2 t fly tup tn up => ?_
  have nf : ∀ b u, H2 b = some u → b ∉ frs (envOfC qual scope s.heap.objs.size f cd :: outer) := fun b u e z => by rw [I2.stkFree b z] at e; cases e
  obtain ⟨U, b1'⟩ := un_fly (fs := frs outer) (H := H) (H1 := H2) (H' := H2) (h := s.heap) (h1 := s2.heap) (h2 := h') (l := frs (envOfC qual scope s.heap.objs.size f cd :: outer)) (B := hideAll s2.heap (frs (envOfC qual scope s.heap.objs.size f cd :: outer))) (h' := h2) I2.base (Un.kept hx.keeps) (fun b o hb z => by
      rw [frs_in (L := s.heap.objs.size) rfl] at z
      rcases List.mem_cons.mp z with rfl | z
      · exact absurd (Heap.lt_size hb) (Nat.lt_irrefl _)
      · exact z) (fun b o hb z => ⟨o, hideAll_get _ hb z, fun _ => rfl⟩) fly.1 up (fun b hb => ⟨I.ok.frf b hb, (I.ok.funs.mem hb).2⟩)
  have b2 : ∀ b u, H2 b = some u → ∃ o', (hideAll s2.heap (frs (envOfC qual scope s.heap.objs.size f cd :: outer))).get? b = some o' := fun b u e => by
    obtain ⟨o, ho⟩ := (I2.hok b u e).there
    exact ⟨o, hideAll_get _ ho (nf b u e)⟩
  exact ⟨e, C, .ref t, _, H2, rfl, I2.os, I2.bare, U, hok_fly I2.hok (fun b o z => of_hideAll _ z) fly.1 b2, fly, b1', b2, q2⟩
end
end L2
namespace L2
open PySem PySem.Spec PySem.Calls PyProof.Rows PySem.W
section
variable {X : Cx} {pins : List (Addr × Obj)} {σ : St} {H : Hp} {s : Shared}
def Cx.tryB (X : Cx) (pins : List (Addr × Obj)) (R : St → Value → Hp → Prop) : Cx := { X with
  pn := X.pn ++ pins
  xe := fun e s' => ∃ σ1 H1 s1, Inv X pins σ1 H1 s1 ∧ CX1 X.prog X.w X.stack H1 s1 (fun c _ H' => R σ1 c H') e s' }
def Cx.suite (X : Cx) (ea : Addr) (oe : Obj) : Cx := { X with
  A := X.A.mark (some (.ref ea))
  calm := false
  pn := X.pn ++ [(ea, oe)]
  xe := fun _ _ => False }
theorem Inv.tryB (I : Inv X pins σ H s) (R : St → Value → Hp → Prop) : Inv (X.tryB pins R) [] σ H s :=
  ⟨⟨I.ok.mod, I.ok.kind, I.ok.glob, I.ok.blt, I.ok.above, I.ok.inj, I.ok.has, I.ok.cab, I.ok.hd, I.ok.frames, I.ok.stk, I.ok.exf, I.ok.bs, I.ok.bsz, I.ok.noex, I.ok.exfs, I.ok.funs, I.ok.frf⟩,
    I.os, I.bare, I.base, I.loc, I.cell, I.free, I.freeC, fun p hp => I.pin p (by simpa [Cx.tryB] using hp), I.hok, I.len⟩
theorem Inv.untryB {R : St → Value → Hp → Prop} {pins' : List (Addr × Obj)} (I : Inv (X.tryB pins R) pins' σ H s) : Inv X pins σ H s :=
  ⟨⟨I.ok.mod, I.ok.kind, I.ok.glob, I.ok.blt, I.ok.above, I.ok.inj, I.ok.has, I.ok.cab, I.ok.hd, I.ok.frames, I.ok.stk, I.ok.exf, I.ok.bs, I.ok.bsz, I.ok.noex, I.ok.exfs, I.ok.funs, I.ok.frf⟩,
    I.os, I.bare, I.base, I.loc, I.cell, I.free, I.freeC, fun p hp => I.pin p (List.mem_append_left _ hp), I.hok, I.len⟩
theorem Inv.suite {ea : Addr} {oe : Obj} (I : Inv X pins σ H s) (h : s.heap.get? ea = some oe ∧ H ea = none ∧ ea ≠ X.env.locals ∧ ea ∉ X.fs ∧ ∀ v, oe.data ≠ .cell v) : Inv (X.suite ea oe) pins σ H s :=
  ⟨⟨I.ok.mod, I.ok.kind, I.ok.glob, I.ok.blt, I.ok.above, I.ok.inj, I.ok.has, I.ok.cab, (fun z => nomatch z), I.ok.frames, I.ok.stk, I.ok.exf, I.ok.bs, I.ok.bsz, I.ok.noex, I.ok.exfs, I.ok.funs, I.ok.frf⟩,
    I.os, I.bare, I.base, I.loc, I.cell, I.free, I.freeC, fun p hp => by
      have hp : p ∈ (X.pn ++ [(ea, oe)]) ++ pins := hp
      rcases List.mem_append.mp hp with hp | hp
      · rcases List.mem_append.mp hp with hp | hp
        · exact I.pin p (List.mem_append_left _ hp)
        · obtain rfl := List.mem_singleton.mp hp
          exact h
      · exact I.pin p (List.mem_append_right _ hp), I.hok, I.len⟩
theorem Inv.unsuite {ea : Addr} {oe : Obj} (I : Inv (X.suite ea oe) pins σ H s) (hd : X.calm = true → X.A.handled = none) : Inv X pins σ H s :=
  ⟨⟨I.ok.mod, I.ok.kind, I.ok.glob, I.ok.blt, I.ok.above, I.ok.inj, I.ok.has, I.ok.cab, hd, I.ok.frames, I.ok.stk, I.ok.exf, I.ok.bs, I.ok.bsz, I.ok.noex, I.ok.exfs, I.ok.funs, I.ok.frf⟩,
    I.os, I.bare, I.base, I.loc, I.cell, I.free, I.freeC, fun p hp => I.pin p (by
      show p ∈ (X.pn ++ [(ea, oe)]) ++ pins
      rcases List.mem_append.mp hp with hp | hp
      · exact List.mem_append_left _ (List.mem_append_left _ hp)
      · exact List.mem_append_right _ hp), I.hok, I.len⟩
theorem name_goes {M : Model} {A : Around} {E : Value → Shared → Prop} {i : Nat} {x : Str} {pos : Pos} {Q : Unit → Shared → Prop} (I : Inv X pins σ H s) (hN : X.N.Nodup) (hi : X.N[i]? = some x) (hx : X.env.scope.names.lookup x = some .local)
    (h : ∀ s', Inv X pins (σ.set i none) H s' → Q () s') : wpAny M A (do bindName X.env x .none; unbindBehindTheSuite X.env x pos) Q E s := by
  have hcls : (X.env.scope.kind == .class || (X.env.scope.kind == .module && X.env.locals != X.env.globals)) = false := by rw [I.ok.kind]; rfl
  refine wpAny_bind (wpAny_bindName (store_ok (v := .non) I hN hi (.inl hx) rfl (fun s1 I1 => ?_) (.inr hx)))
  unfold unbindBehindTheSuite
  refine wpAny_onRaise (wpAny_mono (E := fun _ _ => False) ?_ (fun _ _ z => z) fun _ _ z => z.elim)
  obtain ⟨m, hn, hl⟩ := id I1.loc
  have hiσ : i < σ.length := by rw [I.len]; exact (List.getElem?_eq_some_iff.mp hi).1
  obtain ⟨u, ru, lu⟩ := hl i x .non hi (List.getElem?_set_self hiσ) (.inl hx)
  have hv : m x = some Value.none := by
    rcases lu with ⟨_, e⟩ | ⟨k, _⟩
    · cases (show u = Value.none from ru); exact e
    · have hx' : X.env.kindOf x = some .local := hx
      rw [hx'] at k; rcases k with k | k <;> cases k
  refine wpAny_unbindName_local hx hn hv hcls fun h' u' hn' hs => ?_
  obtain ⟨oL, _, _, hoL, _⟩ := id hn
  have neL : ∀ b o, X.s₀.heap.get? b = some o → b ≠ X.env.locals := fun b o e => Nat.ne_of_lt (Nat.lt_of_lt_of_le (Heap.lt_size e) I.ok.above)
  refine h _ ⟨I1.ok, I1.os, I1.bare, ⟨fun b o e n hb hx => (hs.2 b (neL b o e)).trans (I1.base.keep b o e n hb hx), fun b o e n hb hx => ?_, I1.base.free, fun b o e hx => ?_, I1.base.tups, I1.base.frzs, I1.base.tbls⟩, ⟨_, hn', fun j y v' e1 e2 e3 => ?_⟩, fun y c e => ?_, I1.free, I1.freeC, fun p hp => ?_, ?_, by simpa using I.len⟩
  · obtain ⟨sl, e1⟩ := I1.base.slot b o e n hb hx
    exact ⟨sl, (hs.2 b (neL b o e)).trans e1⟩
  · obtain ⟨o', e1⟩ := I1.base.there b o e hx
    exact ⟨o', (hs.2 b (neL b o e)).trans e1⟩
  · by_cases hj : j = i
    · subst hj
      rw [List.getElem?_set_self hiσ] at e2
      cases e2
    · rw [List.getElem?_set_ne (Ne.symm hj)] at e2
      obtain ⟨u2, r2, q2⟩ := hl j y v' e1 (by rw [List.getElem?_set_ne (Ne.symm hj)]; exact e2) e3
      refine ⟨u2, r2, ?_⟩
      rcases q2 with ⟨k, e⟩ | ⟨k, c, e, z⟩
      · refine .inl ⟨k, ?_⟩
        have : y ≠ x := fun e => hj (nodup_ix hN e1 (e ▸ hi))
        simp [this, e]
      · exact .inr ⟨k, c, e, z.sameBut hs (I1.cne y c e)⟩
  · obtain ⟨w', z⟩ := I1.cell y c e
    exact ⟨w', z.sameBut hs (I1.cne y c e)⟩
  · obtain ⟨e, n, ne, nf, d⟩ := I1.pin p hp
    exact ⟨(hs.2 p.1 ne).trans e, n, ne, nf, d⟩
  · intro b ob e
    refine (I1.hok b ob e).stay (fun c w' hc q => (hs.2 c ?_).trans q) (fun _ q => q) fun _ _ q => q
    rintro rfl
    rcases hc with rfl | hc
    · rw [I1.free] at e; cases e
    · rw [I1.free] at hc; cases hc
end
structure Hit (K : Frag) (C Ch : Addr) : Prop where
  exc : ExcK K C
  hit : exmOne K (.ref C) (.ref Ch) = some true
def Ends.as (D : Ends) (i : Nat) : Ends := { nx := fun σ H => D.nx (σ.set i none) H, rt := D.rt, bk := fun σ H => D.bk (σ.set i none) H, ct := fun σ H => D.ct (σ.set i none) H }
def tryR (K : Frag) (Ch : Addr) (i : Nat) (ts : Addr → Addr → TS) (D : Ends) : St → Value → Hp → Prop := fun σ1 c H' => ∃ C, c = .ref C ∧ Hit K C Ch ∧ ∀ ea, H' ea = none → ts ea C (D.as i) (σ1.set i (some (.ref ea))) H'
def tTry (K : Frag) (Ch : Addr) (i : Nat) (tb : (St → Value → Hp → Prop) → TS) (ts : Addr → Addr → TS) : TS := fun D σ H => tb (tryR K Ch i ts D) D σ H
theorem SP.untryB {X : Cx} {pins : List (Addr × Obj)} {R : St → Value → Hp → Prop} {D : Ends} {f : Flow} {s' : Shared} (h : SP (X.tryB pins R) [] D f s') : SP X pins D f s' := by
  cases f with
  | next => obtain ⟨σ', H', I, q⟩ := h; exact ⟨σ', H', I.untryB, q⟩
  | brk => obtain ⟨σ', H', I, q⟩ := h; exact ⟨σ', H', I.untryB, q⟩
  | cont => obtain ⟨σ', H', I, q⟩ := h; exact ⟨σ', H', I.untryB, q⟩
  | ret u => obtain ⟨v, σ', H', I, r, q⟩ := h; exact ⟨v, σ', H', I.untryB, r, q⟩
theorem ps_try_as {X : Cx} {Ch : Addr} {cx n : Str} {i : Nat} {np hpos pos : Pos} {body suite : List Stmt} {b0 : Stmt} {tb : (St → Value → Hp → Prop) → TS} {ts : Addr → Addr → TS}
    (hb : ∀ pins R, PSs (X.tryB pins R) body (tb R)) (hs : ∀ ea oe C, oe.cls = .ref C → ExcK X.K C → PSs (X.suite ea oe) (b0 :: suite) (ts ea C))
    (hN : X.N.Nodup) (hi : X.N[i]? = some n) (hn : X.env.scope.names.lookup n = some .local) (hst : X.stack = X.env :: X.outer) (hfr : X.env.frame = some X.env.locals) (hg : Gl X cx) (hm : X.mg cx = some (.ref Ch))
    (hd : (cx == ("__debug__" : Str)) = false := by decide) :
    PS X (.Try body [.ExceptHandler (some (.Name cx np)) (some n) (b0 :: suite) hpos] [] [] pos) (tTry X.K Ch i tb ts) := by
  intro pins s σ H D I h
  refine wpAny_Try_except ?_
  have hbody := hb pins (tryR X.K Ch i ts D) [] s σ H D (I.tryB _) h
  refine wpAny_mono hbody (fun f s1 q => ?_) fun e s1 q => ?_
  · have q' := SP.untryB q
    cases f with
    | next => exact wpAny_execs_nil q'
    | brk => exact q'
    | cont => exact q'
    | ret u => exact q'
  · obtain ⟨σ1, H1, s0, I1, ea, C, a0, B, H', rfl, hos, hbare, un, hok, fly, b1, b2, C', hC', hit, q⟩ := q
    cases hC'
    rw [hst] at fly
    have hfrm : X.A.frames = some (X.env :: X.outer) := by rw [← hst]; exact I1.ok.frames
    have inv : ∀ (h6 : Heap) (tk : Nat), Heap.FlyingW B (X.env :: X.outer) ea (.ref C) a0 h6 → s1.heap.UpToSlots h6 → Inv X pins σ1 H' { s1 with heap := h6 } := fun h6 tk fly6 up => by
      obtain ⟨U, _⟩ := un_fly (fs := frs X.stack) (H := H1) (H1 := H1) (h := s0.heap) (h1 := s0.heap) (h' := h6) (l := frs X.stack) (B := B) Un.refl un (fun b o _ z => z) b1 fly6.1 up (fun b hb => ⟨I1.stkFree b hb, (I1.stack.mem hb).2⟩)
      exact I1.call' (s' := { s1 with heap := h6 }) (ch := []) hos U (hok_fly hok fly.1 fly6.1 b2) hbare fun _ z => nomatch z
    refine wpAny_looks_onW hfrm hfr fly fun h4 held4 up4 => ?_
    refine wpAny_landsW held4 fun h5 fly5 up5 => ?_
    have up45 := up4.trans up5
    have I5 := inv h5 0 fly5 up45
    obtain ⟨o5, hx5, hc5⟩ := fly5.there
    refine wpAny_handleBy_cons (codeAny_handlers_test ?_) (by intro q; cases q)
    have I5m : Inv (X.wish X.xe) pins σ1 H' { s1 with heap := h5 } := I5
    refine Calls.Name_function_global I5.ok.kind hg (Calls.loadGlobal_global (by rw [I5.ok.glob]; exact I5.mod.glob.keeps I5.bk) hm ?_) hd
    refine (exm_one (M := model X.prog X.w) (h := h5) I5.kIn (hc5 ▸ (Looks.ld hx5).andThen .now) hit.hit).here ?_
    refine codeAny_handlers_suite_as ?_
    refine lands_againW (s := { s1 with heap := h5 }) fly5 fun h6 fly6 up6 => ?_
    have I6 := inv h6 0 fly6 (up45.trans up6)
    obtain ⟨oe, vs, hoe, hoc, hod, _⟩ := fly6.first
    have hnone : H' ea = none := by
      cases z : H' ea with
      | none => rfl
      | some u =>
        obtain ⟨o', ho'⟩ := b2 ea u z
        rw [fly6.2.1] at ho'; cases ho'
    have hnf : ea ∉ frs (X.env :: X.outer) := fun z => by
      obtain ⟨_, o, ho, nf⟩ := fly6.2.2.1.mem z
      rw [hoe] at ho; cases ho
      exact nf vs hod
    rw [frs_in hfr] at hnf
    have IS : Inv (X.suite ea oe) pins σ1 H' { s1 with heap := h6 } := I6.suite ⟨hoe, hnone, fun z => hnf (z ▸ List.mem_cons_self), fun z => hnf (List.mem_cons_of_mem _ z), fun v z => by rw [hod] at z; cases z⟩
    refine store_ok (X := X.suite ea oe) (v := .ref ea) IS hN hi (.inl hn) rfl (fun s7 I7 => ?_) (.inr hn)
    refine wpAny_mono (hs ea oe C hoc hit.exc pins s7 _ H' (D.as i) I7 (q ea hnone)) (fun f s8 q8 => ?_) fun _ _ z => False.elim z
    have fin : ∀ {σ8 : St} {H8 : Hp} {Q : Unit → Shared → Prop}, Inv (X.suite ea oe) pins σ8 H8 s8 → (∀ s9, Inv X pins (σ8.set i none) H8 s9 → Q () s9) → wpAny (model X.prog X.w) X.A (do bindName X.env n .none; unbindBehindTheSuite X.env n hpos) Q X.xe s8 := fun {σ8 H8 Q} J k =>
      name_goes (J.unsuite I1.ok.hd) hN hi hn k
    cases f with
    | next => obtain ⟨σ8, H8, J, q⟩ := q8; exact fin J fun s9 J9 => ⟨_, H8, J9, q⟩
    | brk => obtain ⟨σ8, H8, J, q⟩ := q8; exact fin J fun s9 J9 => ⟨_, H8, J9, q⟩
    | cont => obtain ⟨σ8, H8, J, q⟩ := q8; exact fin J fun s9 J9 => ⟨_, H8, J9, q⟩
    | ret u => obtain ⟨v, σ8, H8, J, r, q⟩ := q8; exact fin J fun s9 J9 => ⟨v, _, H8, J9, r, q⟩
end L2
namespace L2
open PySem PySem.Spec PySem.Calls PyProof.Rows PySem.W
section
variable {P : Program} {w : World} {K : PySem.W.Frag} {mg : Str → Option Value} {base : Heap}
theorem Fun.ok1 {x qual : Str} {st : Stmt} {f : Addr} {fd : FuncData} {N ps : List Str} {k : Nat} {sp : Sp} (F : Fun K x qual st f fd) (S : FnScope N ps (defScope st)) (len : ∀ vs H Q E, sp vs H Q E → vs.length = ps.length)
    (hbody : ∀ (cdv : Value) (A : Around) (outer : List Env) (s : Shared) (H : Hp) (vs : List V) (Q : VK) (E : XK), Room k (A.deeper (envOfC qual (defScope st) s.heap.objs.size f cdv)) → sp vs H Q E →
      ∃ t, PSs (cxOf (CX1 P w) P w K mg base N qual (defScope st) f cdv A outer s H E) (defBody st) t ∧ t { nx := fun _ H' => Q .non H', rt := Q } (start N vs) H) : FnOk P w K mg base (CX1 P w) (k + 1) f fd ps sp := by
  obtain ⟨oc, od, kV, doc, pm, an, cdv, ct, osl, rfl, lk, hcd⟩ := F.ex
  exact fn_of lk hcd S len fun A outer s H vs Q E hr hsp => hbody cdv A outer s H vs Q E hr hsp
end
def tCallT (sp : Sp) (dvs : List V) (R : St → Value → Hp → Prop) (t : TA) : TE := fun σ H Q => t σ H fun vs H1 => sp (vs ++ dvs) H1 Q fun c _ H' => R σ c H'
theorem pe_callT {X : Cx} {pins : List (Addr × Obj)} {R : St → Value → Hp → Prop} {k : Nat} {f : Addr} {fd : FuncData} {ps : List Str} {sp : Sp} {dvs : List V} {ds : List Value} {x : Str} {p pos : Pos} {e : Expr} {es : List Expr} {t : TA}
    (F : FnOk X.prog X.w X.K X.mg X.base (CX1 X.prog X.w) k f fd ps sp) (hr : Room k X.A) (hg : Gl X x) (hm : X.mg x = some (.ref f)) (hk : PySem.W.keepIn X.K (.ref f) = true) (hb : Binds X.K fd ps ds) (hd : Vals dvs ds)
    (ha : PA (X.tryB pins R) (e :: es) t) (hdb : (x == ("__debug__" : Str)) = false := by decide) (he : starEach (e :: es) X.env = (false, eval e X.env) :: starEach es X.env := by rfl) (hpl : (backTo pos (starEach es X.env)).any (·.1) = false := by rfl) :
    PE (X.tryB pins R) (.Call (.Name x p) (e :: es) [] pos) (tCallT sp dvs R t) := by
  intro pins' s σ H Q I h
  refine wpAny_Call_Name_kw (ld_glob I hg hm ?_ hdb)
  refine PySem.W.callWith_K (h₀ := X.base) I.ok.mod.kin hk (thn (ha pos pins' s σ H _ I h) fun us s1 ⟨vs, H1, I1, r, q⟩ => ⟨I1.kIn, ?_⟩) he hpl
  have r2 : Vals (vs ++ dvs) (us ++ ds) := r.append hd
  have hl : (us ++ ds).length = ps.length := by rw [← r2.length]; exact F.len _ _ _ _ q
  refine wpAny_call (codeAny_mono (F.run X.A X.stack s1 H1 ⟨us, []⟩ (us ++ ds) (vs ++ dvs) Q _ hr I1.env0 (hb s1 us I1.kIn hl) r2 q) fun r s' hq => ?_)
  cases r with
  | error e => exact ⟨σ, H1, s1, I1.untryB, hq⟩
  | ok fl =>
    cases fl with
    | ret u => exact I1.after hq
    | next => exact False.elim hq
    | brk => exact False.elim hq
    | cont => exact False.elim hq
theorem try_intro {K : Frag} {Ch : Addr} {i : Nat} {tb : (St → Value → Hp → Prop) → TS} {ts : Addr → Addr → TS} {D : Ends} {σ : St} {H : Hp} (R : St → Value → Hp → Prop) (h1 : ∀ R' : St → Value → Hp → Prop, (∀ σ1 c H', R σ1 c H' → R' σ1 c H') → tb R' D σ H)
    (h2 : ∀ σ1 c H', R σ1 c H' → tryR K Ch i ts D σ1 c H') : tTry K Ch i tb ts D σ H := h1 _ h2
theorem pin_suite {X : Cx} {ea : Addr} {oe : Obj} : (ea, oe) ∈ (X.suite ea oe).pn := List.mem_append_right _ (List.mem_singleton.mpr rfl)
end L2
namespace BB
open PySem PySem.Spec PyProof.Rows L2
mutual
theorem DAt.inj {H : Hp} : ∀ {d e : Dv} {v : V}, DAt H d v → DAt H e v → d = e
  | .int i, .int j, v, h, g => by rw [DAt] at h; rw [DAt] at g; rw [h] at g; cases g; rfl
  | .int i, .str y, v, h, g => by rw [DAt] at h; rw [DAt] at g; rw [h] at g; cases g
  | .int i, .tup es, v, h, g => by rw [DAt] at h; rw [DAt] at g; obtain ⟨a, vs, e, _⟩ := g; rw [h] at e; cases e
  | .str x, .int j, v, h, g => by rw [DAt] at h; rw [DAt] at g; rw [h] at g; cases g
  | .str x, .str y, v, h, g => by rw [DAt] at h; rw [DAt] at g; rw [h] at g; cases g; rfl
  | .str x, .tup es, v, h, g => by rw [DAt] at h; rw [DAt] at g; obtain ⟨a, vs, e, _⟩ := g; rw [h] at e; cases e
  | .tup ds, .int j, v, h, g => by rw [DAt] at h; rw [DAt] at g; obtain ⟨a, vs, e, _⟩ := h; rw [e] at g; cases g
  | .tup ds, .str y, v, h, g => by rw [DAt] at h; rw [DAt] at g; obtain ⟨a, vs, e, _⟩ := h; rw [e] at g; cases g
  | .tup ds, .tup es, v, h, g => by
    rw [DAt] at h; rw [DAt] at g
    obtain ⟨a, vs, e1, h1, h2⟩ := h
    obtain ⟨b, ws, e2, g1, g2⟩ := g
    rw [e1] at e2
    cases e2
    rw [h1] at g1
    cases g1
    rw [DAts.inj h2 g2]
theorem DAts.inj {H : Hp} : ∀ {ds es : List Dv} {vs : List V}, DAts H ds vs → DAts H es vs → ds = es
  | [], [], vs, h, g => rfl
  | [], e :: es, vs, h, g => by rw [DAts] at h; rw [DAts] at g; obtain ⟨v, r, z, _⟩ := g; rw [h] at z; cases z
  | d :: ds, [], vs, h, g => by rw [DAts] at h; rw [DAts] at g; obtain ⟨v, r, z, _⟩ := h; rw [g] at z; cases z
  | d :: ds, e :: es, vs, h, g => by
    rw [DAts] at h; rw [DAts] at g
    obtain ⟨v, r, z, h1, h2⟩ := h
    obtain ⟨v', r', z', g1, g2⟩ := g
    rw [z] at z'
    cases z'
    rw [DAt.inj h1 g1, DAts.inj h2 g2]
end
end BB
namespace L2
open PySem PySem.Spec PySem.SeqAt PyProof.Rows BB
open Classical in
theorem rcAt_gen {X : Cx} {pins : List (Addr × Obj)} {σ : St} {H : Hp} {s : Shared} (I : Inv X pins σ H s) {ds es : List Dv} {a b : Addr} {vs ws : List V} {A : Around} (ha : SqT X.K H a vs) (hb : SqT X.K H b ws) (hvs : DAts H ds vs) (hws : DAts H es ws) (hu : A.units < cLine)
    (ih : ∀ (j : Nat) (d e : Dv) (x y : V) (u v : Value), ds[j]? = some d → DAt H d x → DAt H e y → RelV x u → RelV y v → EqAt A.in1 s u v (decide (d = e))) : RcAt A s (.ref a) (.ref b) (decide (Dv.tup ds = Dv.tup es)) := by
  obtain ⟨its, r1, p1, _⟩ := I.tuple ha
  obtain ⟨its2, r2, p2, _⟩ := I.tuple hb
  have l1 : its.length = ds.length := by rw [← r1.length, hvs.length]
  have l2 : its2.length = es.length := by rw [← r2.length, hws.length]
  have hcmp : RcAt A s (.ref a) (.ref b) ((List.range (min its.toArray.size its2.toArray.size)).all (fun j => decide (ds[j]? = es[j]?)) && its.toArray.size == its2.toArray.size) := by
    refine RcAt.tuples (show s.heap.IsTuple a its.toArray from p1) (show s.heap.IsTuple b its2.toArray from p2) hu fun j h1 h2 => ?_
    have h1' : j < ds.length := by rw [← l1]; simpa using h1
    have h2' : j < es.length := by rw [← l2]; simpa using h2
    have e1 : ds[j]? = some ds[j] := List.getElem?_eq_getElem h1'
    have e2 : es[j]? = some es[j] := List.getElem?_eq_getElem h2'
    obtain ⟨x', hx', dx⟩ := hvs.at e1
    obtain ⟨y', hy', dy⟩ := hws.at e2
    obtain ⟨u', hu', ru'⟩ := r1.get hx'
    obtain ⟨v', hv', rv'⟩ := r2.get hy'
    have e3 : decide (ds[j]? = es[j]?) = decide (ds[j] = es[j]) := by rw [e1, e2]; simp
    have e4 : its.toArray[j] = u' := by
      rw [List.getElem?_eq_getElem (by rw [l1]; exact h1')] at hu'
      simpa using hu'
    have e5 : its2.toArray[j] = v' := by
      rw [List.getElem?_eq_getElem (by rw [l2]; exact h2')] at hv'
      simpa using hv'
    rw [e3, e4, e5]
    exact ih j ds[j] es[j] x' y' u' v' e1 dx dy ru' rv'
  have e : decide (Dv.tup ds = Dv.tup es) = ((List.range (min its.toArray.size its2.toArray.size)).all (fun j => decide (ds[j]? = es[j]?)) && its.toArray.size == its2.toArray.size) := by
    rw [List.size_toArray, List.size_toArray, l1, l2]
    by_cases h : ds = es
    · subst h
      rw [decide_eq_true rfl]
      symm
      simp
    · rw [decide_eq_false (fun z => h (Dv.tup.inj z))]
      symm
      by_cases hl : ds.length = es.length
      · rw [hl, Nat.min_self]
        have : ¬ ((List.range es.length).all (fun j => decide (ds[j]? = es[j]?))) = true := by
          intro z
          apply h
          apply List.ext_getElem?
          intro j
          by_cases hj : j < es.length
          · have := List.all_eq_true.mp z j (List.mem_range.mpr hj)
            exact of_decide_eq_true this
          · rw [List.getElem?_eq_none (by omega), List.getElem?_eq_none (by omega)]
        rw [Bool.eq_false_iff.mpr this]
        rfl
      · have : (ds.length == es.length) = false := by simpa using hl
        rw [this, Bool.and_false]
  rw [e]
  exact hcmp
open Classical in
theorem eqAt_dv {X : Cx} {pins : List (Addr × Obj)} {σ : St} {H : Hp} {s : Shared} (I : Inv X pins σ H s) : ∀ (n : Nat) (d e : Dv), d.tot ≤ n → ∀ (x y : V) (u v : Value) (A : Around), DAt H d x → DAt H e y → RelV x u → RelV y v → A.units + d.deep < cLine → EqAt A s u v (decide (d = e))
  | 0, d, e, hn, x, y, u, v, A, hd, he, ru, rv, hu => by have := d.tot_pos; omega
  | n + 1, .int i, .int j, hn, x, y, u, v, A, hd, he, ru, rv, hu => by
    rw [DAt] at hd; rw [DAt] at he
    subst hd he
    obtain ⟨t, rfl⟩ := ru
    obtain ⟨t', rfl⟩ := rv
    have e : decide (Dv.int i = Dv.int j) = (i == j) := by
      by_cases h : i = j
      · subst h; simp
      · rw [decide_eq_false (fun z => h (Dv.int.inj z))]; simp [h]
    rw [e]
    exact EqAt.int_int i t j t'
  | n + 1, .int i, .str b, hn, x, y, u, v, A, hd, he, ru, rv, hu => by
    rw [DAt] at hd; rw [DAt] at he
    subst hd he
    obtain ⟨t, rfl⟩ := ru
    obtain ⟨t', rfl⟩ := rv
    rw [decide_eq_false (fun z => by cases z)]
    exact EqAt.int_str i t b t'
  | n + 1, .int i, .tup es, hn, x, y, u, v, A, hd, he, ru, rv, hu => by
    rw [DAt] at hd; rw [DAt] at he
    obtain ⟨a, vs, rfl, ha, _⟩ := he
    subst hd
    obtain ⟨t, rfl⟩ := ru
    cases rv
    obtain ⟨its, _, p, _⟩ := I.tuple (SqT.of (K := X.K) ha)
    rw [decide_eq_false (fun z => by cases z)]
    exact EqAt.int_tuple i t (show s.heap.IsTuple a its.toArray from p) (by omega)
  | n + 1, .str b, .int j, hn, x, y, u, v, A, hd, he, ru, rv, hu => by
    rw [DAt] at hd; rw [DAt] at he
    subst hd he
    obtain ⟨t, rfl⟩ := ru
    obtain ⟨t', rfl⟩ := rv
    rw [decide_eq_false (fun z => by cases z)]
    exact EqAt.str_int b t j t'
  | n + 1, .str b, .str c, hn, x, y, u, v, A, hd, he, ru, rv, hu => by
    rw [DAt] at hd; rw [DAt] at he
    subst hd he
    obtain ⟨t, rfl⟩ := ru
    obtain ⟨t', rfl⟩ := rv
    have e : decide (Dv.str b = Dv.str c) = (b == c) := by
      by_cases h : b = c
      · subst h; simp
      · rw [decide_eq_false (fun z => h (Dv.str.inj z))]; simp [h]
    rw [e]
    exact EqAt.str_str b t c t'
  | n + 1, .str b, .tup es, hn, x, y, u, v, A, hd, he, ru, rv, hu => by
    rw [DAt] at hd; rw [DAt] at he
    obtain ⟨a, vs, rfl, ha, _⟩ := he
    subst hd
    obtain ⟨t, rfl⟩ := ru
    cases rv
    obtain ⟨its, _, p, _⟩ := I.tuple (SqT.of (K := X.K) ha)
    rw [decide_eq_false (fun z => by cases z)]
    exact EqAt.str_tuple b t (show s.heap.IsTuple a its.toArray from p) (by omega)
  | n + 1, .tup ds, .int j, hn, x, y, u, v, A, hd, he, ru, rv, hu => by
    rw [DAt] at hd; rw [DAt] at he
    obtain ⟨a, vs, rfl, ha, _⟩ := hd
    subst he
    cases ru
    obtain ⟨t, rfl⟩ := rv
    obtain ⟨its, _, p, _⟩ := I.tuple (SqT.of (K := X.K) ha)
    rw [decide_eq_false (fun z => by cases z)]
    exact EqAt.tuple_int j t (show s.heap.IsTuple a its.toArray from p) (by omega)
  | n + 1, .tup ds, .str b, hn, x, y, u, v, A, hd, he, ru, rv, hu => by
    rw [DAt] at hd; rw [DAt] at he
    obtain ⟨a, vs, rfl, ha, _⟩ := hd
    subst he
    cases ru
    obtain ⟨t, rfl⟩ := rv
    obtain ⟨its, _, p, _⟩ := I.tuple (SqT.of (K := X.K) ha)
    rw [decide_eq_false (fun z => by cases z)]
    exact EqAt.tuple_str b t (show s.heap.IsTuple a its.toArray from p) (by omega)
  | n + 1, .tup ds, .tup es, hn, x, y, u, v, A, hd, he, ru, rv, hu => by
    have hd0 := hd
    have he0 := he
    rw [DAt] at hd; rw [DAt] at he
    obtain ⟨a, vs, rfl, ha, hvs⟩ := hd
    obtain ⟨b, ws, rfl, hb, hws⟩ := he
    cases ru
    cases rv
    by_cases hab : a = b
    · subst hab
      rw [decide_eq_true (DAt.inj hd0 he0)]
      exact EqAt.same _
    rw [Dv.tot] at hn
    rw [Dv.deep] at hu
    refine EqAt.of_refs hab (rcAt_gen I (SqT.of ha) (SqT.of hb) hvs hws (by omega) fun j d e x' y' u' v' e1 dx dy ru' rv' => ?_)
    have q1 := tot_get e1
    have q2 := deep_get e1
    refine eqAt_dv I n d e (by omega) x' y' u' v' A.in1 dx dy ru' rv' ?_
    show A.units + 1 + _ < cLine
    omega
def rEqT (B : Nat) : R2 := fun x y H Q => ∃ ds es, DAt H (.tup ds) x ∧ DAt H (.tup es) y ∧ deeps ds ≤ B ∧ ∀ b : Bool, (b = true ↔ ds = es) → Q (.bl b) H
open Classical in
theorem op_eqT {X : Cx} {B : Nat} (hu : X.A.units + B + 2 < cLine) : OpR X (compareOp .Eq) (rEqT B) := by
  intro pins s σ H x y v u Q I rx ry h
  obtain ⟨ds, es, hd, he, hB, q⟩ := h
  rw [DAt] at hd; rw [DAt] at he
  obtain ⟨a, vs, rfl, ha, hvs⟩ := hd
  obtain ⟨b, ws, rfl, hb, hws⟩ := he
  cases rx
  cases ry
  have r : RcAt X.A s (.ref a) (.ref b) (decide (Dv.tup ds = Dv.tup es)) := rcAt_gen I (SqT.of ha) (SqT.of hb) hvs hws (by omega) fun j d e x' y' u' v' e1 dx dy ru' rv' => by
    have q2 := deep_get e1
    refine eqAt_dv I _ d e (Nat.le_refl _) x' y' u' v' X.A.in1 dx dy ru' rv' ?_
    show X.A.units + 1 + _ < cLine
    omega
  refine r X.prog X.w X.xe _ ⟨.bl (decide (Dv.tup ds = Dv.tup es)), H, I, rfl, q _ ?_⟩
  constructor
  · intro z
    exact Dv.tup.inj (of_decide_eq_true z)
  · intro z
    rw [z]
    exact decide_eq_true rfl
end L2
namespace L2
open PySem PySem.Spec PySem.SeqAt PyProof.Rows BB
end L2
namespace L2
open PySem PySem.Spec PySem.Calls PyProof.Rows PySem.SeqAt
theorem room_2 {k : Nat} {A : Around} (hr : Room k A) : A.units + 2 < cLine := by
  have := hr.units
  omega
def rEqLB (K : PySem.W.Frag) : R2 := fun x y H Q => ∃ (a b : Addr) (bs cs : List Bool), x = .ref a ∧ y = .ref b ∧ SqL K H a (bs.map V.bl) ∧ SqL K H b (cs.map V.bl) ∧ Q (.bl (bs == cs)) H
theorem vals_bl {bs : List Bool} {us : List Value} (r : Vals (bs.map V.bl) us) : us = bs.map Value.bool := by
  induction bs generalizing us with
  | nil => cases r; rfl
  | cons b bs ih =>
    cases r with
    | cons r1 r2 =>
      rw [ih r2]
      cases (show _ = Value.bool b from r1)
      rfl
theorem beq_all {bs cs : List Bool} (hl : bs.length = cs.length) : (List.range bs.length).all (fun j => (bs.getD j false == cs.getD j false)) = (bs == cs) := by
  induction bs generalizing cs with
  | nil => cases cs with
    | nil => rfl
    | cons c cs => cases hl
  | cons b bs ih => cases cs with
    | nil => cases hl
    | cons c cs =>
      rw [List.length_cons, List.range_succ_eq_map, List.all_cons, List.all_map]
      show ((b == c) && _) = _
      have := ih (cs := cs) (by simpa using hl)
      rw [List.cons_beq_cons, ← this]
      rfl
theorem op_eqLB {X : Cx} (hu : X.A.units + 2 < cLine) : OpR X (compareOp .Eq) (rEqLB X.K) := by
  intro pins s σ H x y v u Q I rx ry h
  obtain ⟨a, b, bs, cs, rfl, rfl, ha, hb, q⟩ := h
  cases rx
  cases ry
  obtain ⟨its, r1, p1, _⟩ := I.list ha
  obtain ⟨its2, r2, p2, _⟩ := I.list hb
  have e1 := vals_bl r1
  have e2 := vals_bl r2
  subst e1 e2
  by_cases hl : bs.length = cs.length
  · have hsz : (bs.map Value.bool).toArray.size = (cs.map Value.bool).toArray.size := by simp [hl]
    refine RcAt.lists (e := fun j => (bs.getD j false == cs.getD j false)) p1.isList p2.isList hsz (by omega) (fun j h1 h2 => ?_) X.prog X.w X.xe _ ?_
    · have h1' : j < bs.length := by simpa using h1
      have h2' : j < cs.length := by simpa using h2
      have z1 : bs.getD j false = bs[j] := by simp [List.getD, h1']
      have z2 : cs.getD j false = cs[j] := by simp [List.getD, h2']
      have y1 : (bs.map Value.bool).toArray[j] = Value.bool bs[j] := by simp
      have y2 : (cs.map Value.bool).toArray[j] = Value.bool cs[j] := by simp
      rw [z1, z2, y1, y2]
      exact EqAt.bool_bool _ _
    · refine ⟨.bl (bs == cs), H, I, ?_, q⟩
      rw [← beq_all hl]
      simp
      rfl
  · refine RcAt.lists_lengths p1.isList p2.isList (by simpa using hl) (by omega) X.prog X.w X.xe _ ⟨.bl (bs == cs), H, I, ?_, q⟩
    have : (bs == cs) = false := beq_eq_false_iff_ne.mpr fun z => hl (by rw [z])
    rw [this]; rfl
end L2
namespace L2
open PySem PySem.Spec PySem.Calls PyProof.Rows
end L2
namespace BB
open PySem
end BB
namespace L2
open PySem PySem.Spec PySem.Calls PyProof.Rows BB
section
variable {prog : Program} {w : World} {A : Around} {R : Result → Shared → Prop}
end
end L2
namespace PySem
section
variable {prog : Program} {w : World} {A : Around} {E : Value → Shared → Prop} {s : Shared}
end
end PySem
namespace L2
open PySem PySem.Spec PySem.Calls PyProof.Rows BB
end L2
namespace L2
open PySem PySem.Spec PySem.Calls PyProof.Rows BB
section
variable {X : Cx}
end
end L2
namespace L2
open PySem PySem.Spec PySem.Calls PyProof.Rows
section
variable {X : Cx}
end
end L2
namespace L2
open PySem PySem.Spec PySem.Calls PyProof.Rows
def repS (z : Str) (n : Nat) : Str := ⟨(List.replicate n z.cps).foldl (· ++ ·) #[]⟩
theorem fold_one (c : Nat) : ∀ (n : Nat) (a : Array Nat), (List.replicate n #[c]).foldl (· ++ ·) a = a ++ (List.replicate n c).toArray
  | 0, a => by simp
  | n + 1, a => by
    rw [List.replicate_succ, List.foldl_cons, fold_one c n, List.replicate_succ, Array.append_assoc]
    congr 1
    simp
theorem repS_one (c n : Nat) : repS ⟨#[c]⟩ n = ⟨(List.replicate n c).toArray⟩ := by
  unfold repS
  rw [fold_one]
  simp
theorem repS_len (c n : Nat) : (repS ⟨#[c]⟩ n).length = n := by
  rw [repS_one]
  show (List.replicate n c).toArray.size = n
  simp
section
variable {X : Cx}
def rMulS : R2 := fun x y H Q => ∃ (c : Nat) (n : Int), x = .str ⟨#[c]⟩ ∧ y = .int n ∧ 1 ≤ n ∧ n ≤ 1000 ∧ Q (.str (repS ⟨#[c]⟩ n.toNat)) H
theorem op_mulS : OpR X (binaryOp .Mult) rMulS := by
  intro pins s σ H x y v u Q I rx ry h
  obtain ⟨c, n, rfl, rfl, h1, h2, q⟩ := h
  obtain ⟨t, rfl⟩ := rx
  obtain ⟨t', rfl⟩ := ry
  have hlen : (⟨#[c]⟩ : Str).length = 1 := rfl
  refine PySem.P.mul_str ?_ ?_ ?_ ?_
  · rw [decide_eq_false (by omega), decide_eq_false (by omega)]; rfl
  · intro _ _
    rw [hlen]
    have : (1 : Int) ≤ (2 ^ 63 - 1) / n := by
      rw [Int.le_ediv_iff_mul_le (by omega)]
      omega
    show ¬ ((1 : Nat) : Int) > (2 ^ 63 - 1) / n
    omega
  · intro _ _
    rw [hlen, Nat.one_mul]
    have : sizeLine = 16777216 := sizeLine_eq
    exact decide_eq_false (by omega)
  · rw [if_neg (by omega)]
    by_cases hn : n = 1
    · subst hn
      rw [if_pos (by rfl)]
      exact ⟨.str ⟨#[c]⟩, H, I, ⟨_, rfl⟩, by rw [show repS ⟨#[c]⟩ (1 : Int).toNat = ⟨#[c]⟩ from repS_one c 1] at q; exact q⟩
    · rw [if_neg (by rw [hlen]; simp; omega)]
      refine ⟨?_, ⟨.str (repS ⟨#[c]⟩ n.toNat), H, I.tok _, ⟨_, rfl⟩, q⟩⟩
      show (repS ⟨#[c]⟩ n.toNat).length ≤ sizeLine
      have : sizeLine = 16777216 := sizeLine_eq
      rw [repS_len]
      omega
def CDivB (i j : Int) : Prop := 0 < j ∧ j < 2 ^ 62
theorem op_fdivB : OpR X (binaryOp .FloorDiv) (rI CDivB fun i j => .int (i / j)) := opI fun i j _ _ _ _ _ hc q => by
  have h1 : (0 : Int) < j := hc.1
  have h2 : j < 2 ^ 62 := hc.2
  refine floordiv_int (by omega) (by rw [Int.fdiv_eq_ediv_of_nonneg i (by omega)]; exact q) (.inl (PyProof.noPylong_of_log2 ?_))
  have : j.natAbs.log2 < 62 := (Nat.log2_lt (by omega)).mpr (by omega)
  omega
def isStr (z : Str) : Value → Bool
  | .str y _ => y == z
  | _ => false
def rLIndex (K : PySem.W.Frag) : V → List V → Hp → VK → Prop := fun x vs H Q => ∃ (l : Addr) (zs : List Str) (z : Str) (j : Nat), x = .ref l ∧ vs = [.str z] ∧ SqL K H l (zs.map V.str) ∧ zs[j]? = some z ∧ (∀ i, i < j → zs[i]? ≠ some z) ∧ zs.length ≤ 100000 ∧ Q (.int (j : Nat)) H
theorem mt_lindex : MtM X "list.index" (rLIndex X.K) := by
  intro pins s σ H x vs v us Q I rx rv h
  obtain ⟨l, zs, z, j, rfl, rfl, hS, hj, hno, hz, q⟩ := h
  cases rx
  obtain ⟨u, rfl, t, rfl⟩ := rv.one
  obtain ⟨its, r, pl, _⟩ := I.list hS
  have hlen := r.length
  rw [List.length_map] at hlen
  obtain ⟨⟨cls, dd, data, sl⟩, ho, hc, n, hd⟩ := pl.isList
  simp only at hc hd
  subst hc hd
  have hjl : j < zs.length := (List.getElem?_eq_some_iff.mp hj).1
  have get : ∀ m, m < zs.length → ∃ y t', its[m]? = some (.str y t') ∧ zs[m]? = some y := fun m hm => by
    obtain ⟨v, hv, rv⟩ := r.get (i := m) (x := .str zs[m]) (by rw [List.getElem?_map, List.getElem?_eq_getElem hm]; rfl)
    obtain ⟨t', rfl⟩ := rv
    exact ⟨_, t', hv, List.getElem?_eq_getElem hm⟩
  refine call_meets PySem.F.slot_list_index ⟨_, ho, rfl⟩ PySem.F.entry_list_index (PySem.F.args_list_index_2 _ _)
    (SeqAt.list_indexAt l its.toArray n dd sl (.str z t) (isStr z) j (by rw [List.size_toArray]; omega) (by omega) ?_ ?_) ⟨ho, fun y hy => ?_, ⟨.int (j : Nat), H, I.tok _, ⟨_, rfl⟩, q⟩⟩
  · obtain ⟨y, t', h1, h2⟩ := get j hjl
    rw [hj] at h2
    cases h2
    have h3 : its.toArray[j]'(by rw [List.size_toArray]; omega) = .str z t' := by
      rw [List.getElem?_eq_getElem (by omega)] at h1
      simpa using h1
    rw [h3]
    show (z == z) = true
    simp
  · intro m hm hlt
    obtain ⟨y, t', h1, h2⟩ := get m (by omega)
    have h3 : its.toArray[m]'hm = .str y t' := by
      rw [List.getElem?_eq_getElem (by omega)] at h1
      simpa using h1
    rw [h3]
    show (y == z) = false
    refine Bool.eq_false_iff.mpr fun e => hno m hlt ?_
    rw [h2, beq_iff_eq.mp e]
  · have hy' : y ∈ its := by simpa using hy
    obtain ⟨m, hm, rfl⟩ := List.getElem_of_mem hy'
    obtain ⟨y, t', h1, h2⟩ := get m (by omega)
    rw [List.getElem?_eq_getElem hm] at h1
    have h3 := Option.some.inj h1
    rw [h3]
    exact SeqAt.EqAt.str_str _ _ _ _
end
end L2
namespace BB
open PySem L2
section
variable {ext : Th → List V} {H H' : Hp} {t : Th} {a : Addr} {ts : List Th} {es : List Addr}
end
def Th.isCall : Th → Bool
  | .knot _ _ => false
  | .call _ _ => true
end BB
namespace BB
open PySem L2
structure GoodN (ks : List (Str × Int)) : Prop where
  ne : 1 ≤ ks.length
  le : ks.length ≤ 8
  low : ∀ k ∈ ks, Low k.1 ∧ k.1.length ≤ 8
  num : ∀ k ∈ ks, 0 ≤ k.2 ∧ k.2 ≤ 3
  zero : ∃ k ∈ ks, k.2 = 0
  nd : ∀ (i j : Nat) (k l : Str × Int), ks[i]? = some k → ks[j]? = some l → k.1 = l.1 → i = j
mutual
/-- a pattern over kinds, its calls of so many states and kids -/
def Th.FitS (ks : List (Str × Int)) (S C : Int) : Th → Prop
  | .knot n ts => (n, (ts.length : Int)) ∈ ks ∧ FitSs ks S C ts
  | .call s k => 0 ≤ s ∧ s < S ∧ 0 ≤ k ∧ k < C
def FitSs (ks : List (Str × Int)) (S C : Int) : List Th → Prop
  | [] => True
  | t :: ts => t.FitS ks S C ∧ FitSs ks S C ts
end
theorem FitSs.of {ks : List (Str × Int)} {S C : Int} : ∀ {ts : List Th}, (∀ t ∈ ts, t.FitS ks S C) → FitSs ks S C ts
  | [], _ => by rw [FitSs]; trivial
  | t :: ts, h => by
    rw [FitSs]
    exact ⟨h t (List.mem_cons_self ..), FitSs.of fun u hu => h u (List.mem_cons_of_mem _ hu)⟩
theorem talls_all {ts : List Th} {n : Nat} (h : ∀ t ∈ ts, t.tall ≤ n) : talls ts ≤ n := by
  induction ts with
  | nil => rw [talls]; exact Nat.zero_le _
  | cons t ts ih =>
    rw [talls]
    have h1 := h t (List.mem_cons_self ..)
    have h2 := ih fun u hu => h u (List.mem_cons_of_mem _ hu)
    omega
def SameB (l : Addr) (H H' : Hp) : Prop := ∀ b o, b ≠ l → H b = some o → H' b = some o
theorem SameB.refl {l : Addr} {H : Hp} : SameB l H H := fun _ _ _ e => e
theorem SameB.trans {l : Addr} {A B C : Hp} (h : SameB l A B) (k : SameB l B C) : SameB l A C := fun b o hb e => k b o hb (h b o hb e)
theorem SameB.of {l : Addr} {H H' : Hp} (h : L2.Same H H') : SameB l H H' := fun b o _ e => h b o e
theorem SameB.set {l : Addr} {H : Hp} {o : HO} : SameB l H (upd H l o) := fun b o hb e => by rw [upd_ne hb]; exact e
theorem SameB.kt {l : Addr} {H H' : Hp} {xs : List V} (h : SameB l H H') (e : H l = some (.lst xs)) : KT H H' := fun b ys eb => h b _ (ne_of eb e (by intro z; cases z)) eb
theorem SameB.free {l p : Addr} {H H' : Hp} {o : HO} (h : SameB l H H') (e : H' l = some o) (hp : H' p = none) : H p = none := by
  cases hh : H p with
  | none => rfl
  | some o' =>
    by_cases z : p = l
    · rw [z, e] at hp; cases hp
    · rw [h p o' z hh] at hp; cases hp
def RowAt (H : Hp) (row : List Th) (a : Addr) : Prop := ∃ as : List Addr, H a = some (.tup (as.map V.ref)) ∧ Ats H row as
theorem RowAt.mono {H H' : Hp} (k : KT H H') {row : List Th} {a : Addr} (h : RowAt H row a) : RowAt H' row a := by
  obtain ⟨as, h1, h2⟩ := h
  exact ⟨as, k _ _ h1, h2.mono k⟩
structure RowOk (ins outs : List (Str × Int)) (S : Int) (deep : Nat) (row : List Th) : Prop where
  len : row.length = ins.length
  fit : ∀ (j : Nat) (t : Th) (k : Str × Int), row[j]? = some t → ins[j]? = some k → t.FitS outs S k.2 ∧ t.tall ≤ deep + 1
structure BookAt (H : Hp) (ins outs : List (Str × Int)) (head : Th) (rows : List (List Th)) (r ia oa ha ra : Addr) (ias oas ras : List Addr) : Prop where
  bk : H r = some (.tup [.ref ia, .ref oa, .ref ha, .ref ra])
  inE : H ia = some (.tup (ias.map V.ref))
  inK : KsAt H ins ias
  outE : H oa = some (.tup (oas.map V.ref))
  outK : KsAt H outs oas
  hd : At H head ha
  rl : H ra = some (.tup (ras.map V.ref))
  rw : Paired (RowAt H) rows ras
theorem BookAt.mono {H H' : Hp} (k : KT H H') {ins outs : List (Str × Int)} {head : Th} {rows : List (List Th)} {r ia oa ha ra : Addr} {ias oas ras : List Addr} (b : BookAt H ins outs head rows r ia oa ha ra ias oas ras) : BookAt H' ins outs head rows r ia oa ha ra ias oas ras :=
  ⟨k _ _ b.bk, k _ _ b.inE, b.inK.mono k, k _ _ b.outE, b.outK.mono k, b.hd.mono k, k _ _ b.rl, P2.mp (fun _ _ e => e.mono k) b.rw⟩
structure BookOk (ins outs : List (Str × Int)) (S : Int) (deep : Nat) (head : Th) (rows : List (List Th)) : Prop where
  len : (rows.length : Int) = S
  row : ∀ row ∈ rows, RowOk ins outs S deep row
  hdf : head.FitS outs S 1
  hdt : head.tall ≤ 2
def aeio : Str := Str.ofString "aeio"
def gum : Str := Str.ofString "gumleafs"
theorem gum_low : Low gum := by unfold Low; decide +kernel
theorem cutS_head {z : Str} {n : Nat} (h : n ≤ z.length) : (cutS z none (some (n : Int))).cps.toList = z.cps.toList.take n ∧ (cutS z none (some (n : Int))).length = n := by
  have hz : z.cps.toList.length = z.length := Array.length_toList
  have e : (cutS z none (some (n : Int))).cps.toList = z.cps.toList.take n := by
    show (cutL z.cps.toList none (some (n : Int))).toArray.toList = _
    rw [List.toList_toArray]
    unfold cutL
    rw [HT.sIx_nat, HT.sIx_none, hz, Nat.min_eq_left h]
    simp
  refine ⟨e, ?_⟩
  show (cutS z none (some (n : Int))).cps.size = n
  rw [← Array.length_toList, e, List.length_take, hz]
  omega
def nmOf (begun : Bool) (c0 : Nat) (stem : Str) (at' : Int) (L : List Nat) (p : Nat) : Str :=
  if begun then repS ⟨#[c0]⟩ (1 + p) else cutS stem none (some at') ++ ⟨#[L.getD p 0]⟩ ++ cutS stem (some at') none
theorem nm_inj {begun : Bool} {c0 : Nat} {stem : Str} {at' : Int} {L : List Nat} (hL : ∀ (p r : Nat) (c : Nat), L[p]? = some c → L[r]? = some c → p = r) {p r : Nat} (hp : p < L.length) (hr : r < L.length) (h : nmOf begun c0 stem at' L p = nmOf begun c0 stem at' L r) : p = r := by
  unfold nmOf at h
  cases begun with
  | true =>
    simp only [if_true] at h
    have := congrArg Str.length h
    rw [repS_len, repS_len] at this
    omega
  | false =>
    simp only [Bool.false_eq_true, if_false] at h
    have h2 := congrArg (fun z : Str => z.cps.toList) h
    have h3 : ((cutS stem none (some at')).cps ++ #[L.getD p 0] ++ (cutS stem (some at') none).cps).toList = ((cutS stem none (some at')).cps ++ #[L.getD r 0] ++ (cutS stem (some at') none).cps).toList := h2
    rw [Array.toList_append, Array.toList_append, Array.toList_append, Array.toList_append] at h3
    have h4 := List.append_cancel_right h3
    have h5 := List.append_cancel_left h4
    have h6 : L.getD p 0 = L.getD r 0 := by simpa using h5
    refine hL p r (L.getD r 0) ?_ ?_
    · rw [← h6, List.getD, List.getElem?_eq_getElem hp]; rfl
    · rw [List.getD, List.getElem?_eq_getElem hr]; rfl
theorem nm_low {begun : Bool} {c0 : Nat} {stem : Str} {at' : Int} {L : List Nat} (hc : 97 ≤ c0 ∧ c0 ≤ 122) (hs : Low stem) (hL : ∀ c ∈ L, 97 ≤ c ∧ c ≤ 122) {p : Nat} (hp : p < L.length) : Low (nmOf begun c0 stem at' L p) := by
  unfold nmOf
  cases begun with
  | true =>
    simp only [if_true]
    rw [repS_one]
    intro c hc'
    have hc'' : c ∈ List.replicate (1 + p) c0 := by simpa using hc'
    rw [List.eq_of_mem_replicate hc'']
    exact hc
  | false =>
    simp only [Bool.false_eq_true, if_false]
    have h1 : L.getD p 0 ∈ L := by rw [List.getD, List.getElem?_eq_getElem hp]; exact List.getElem_mem hp
    have h2 := hL _ h1
    exact low_app (low_app (low_cut hs _ _) (low_one h2.1 h2.2)) (low_cut hs _ _)
structure Picks (letters : Str) : Prop where
  len : letters.length = 4
  low : Low (letters ++ aeio)
  inj : ∀ (p r c : Nat), (letters ++ aeio).cps.toList[p]? = some c → (letters ++ aeio).cps.toList[r]? = some c → p = r
theorem picks_of {letters : Str} (h1 : letters.length = 4) (h2 : ((letters ++ aeio).cps.toList.all fun c => decide (97 ≤ c ∧ c ≤ 122)) = true) (h3 : (letters ++ aeio).cps.toList.Nodup) : Picks letters := by
  refine ⟨h1, fun c hc => of_decide_eq_true (List.all_eq_true.mp h2 c hc), fun p r c hp hr => ?_⟩
  obtain ⟨p1, p2⟩ := List.getElem?_eq_some_iff.mp hp
  obtain ⟨r1, r2⟩ := List.getElem?_eq_some_iff.mp hr
  exact (List.getElem_inj h3).mp (p2.trans r2.symm)
theorem picks_a : Picks (Str.ofString "bdhk") := picks_of (by decide +kernel) (by decide +kernel) (by decide +kernel)
theorem picks_b : Picks (Str.ofString "npwz") := picks_of (by decide +kernel) (by decide +kernel) (by decide +kernel)
end BB
namespace BB
open PySem L2
def Step (ins : List (Str × Int)) (rows : List (List Th)) (s k : Int) (ks : List Th) (p h : Th) : Prop :=
  0 ≤ s ∧ 0 ≤ k ∧ ks[k.toNat]? = some h ∧ ∃ (m : Str) (hs : List Th) (c : Int) (j : Nat) (row : List Th), h = .knot m hs ∧ ins[j]? = some (m, c) ∧ rows[s.toNat]? = some row ∧ row[j]? = some p
inductive Res (ins : List (Str × Int)) (rows : List (List Th)) : Th → Th → Th → Th → Prop
  | stop (n : Str) (ts : List Th) (k : Th) : Res ins rows (.knot n ts) k (.knot n ts) k
  | step {s c : Int} {n : Str} {ks : List Th} {p h p' k' : Th} : Step ins rows s c ks p h → Res ins rows p h p' k' → Res ins rows (.call s c) (.knot n ks) p' k'
theorem fits_mem {ks : List (Str × Int)} : ∀ {ts : List Th}, Fits ks ts → ∀ t ∈ ts, t.Fit ks
  | [], _, t, ht => by cases ht
  | a :: ts, h, t, ht => by
    rw [Fits] at h
    rcases List.mem_cons.mp ht with rfl | ht
    · exact h.1
    · exact fits_mem h.2 t ht
theorem fitSs_mem {ks : List (Str × Int)} {S C : Int} : ∀ {ts : List Th}, FitSs ks S C ts → ∀ t ∈ ts, t.FitS ks S C
  | [], _, t, ht => by cases ht
  | a :: ts, h, t, ht => by
    rw [FitSs] at h
    rcases List.mem_cons.mp ht with rfl | ht
    · exact h.1
    · exact fitSs_mem h.2 t ht
theorem step_ex {ins outs : List (Str × Int)} {S : Int} {d : Nat} {head : Th} {rows : List (List Th)} (ok : BookOk ins outs S d head rows) {s c : Int} {ks : List Th} (hf : (Th.call s c).FitS outs S (ks.length : Int)) (hk : ∀ h ∈ ks, h.Fit ins) :
    ∃ p m hs, Step ins rows s c ks p (.knot m hs) ∧ p.FitS outs S (hs.length : Int) ∧ (∀ h ∈ hs, h.Fit ins) ∧ (Th.knot m hs) ∈ ks := by
  rw [Th.FitS] at hf
  obtain ⟨s0, s1, c0, c1⟩ := hf
  have hlen := ok.len
  obtain ⟨h, hh⟩ : ∃ h, ks[c.toNat]? = some h := ⟨_, List.getElem?_eq_getElem (by omega)⟩
  have hm := List.mem_of_getElem? hh
  have hfit := hk h hm
  cases h with
  | call a b => rw [Th.Fit] at hfit; exact hfit.elim
  | knot m hs =>
    rw [Th.Fit] at hfit
    obtain ⟨j, hj⟩ := List.mem_iff_getElem?.mp hfit.1
    obtain ⟨row, hrow⟩ : ∃ row, rows[s.toNat]? = some row := ⟨_, List.getElem?_eq_getElem (by omega)⟩
    have rok := ok.row row (List.mem_of_getElem? hrow)
    have hjl := (List.getElem?_eq_some_iff.mp hj).1
    obtain ⟨p, hp⟩ : ∃ p, row[j]? = some p := ⟨_, List.getElem?_eq_getElem (by rw [rok.len]; exact hjl)⟩
    exact ⟨p, m, hs, ⟨s0, c0, hh, m, hs, _, j, row, rfl, hj, hrow, hp⟩, (rok.fit j p _ hp hj).1, fits_mem hfit.2, hm⟩
def Bk (H : Hp) (ins outs : List (Str × Int)) (head : Th) (rows : List (List Th)) (r : Addr) : Prop := ∃ ia oa ha ra ias oas ras, BookAt H ins outs head rows r ia oa ha ra ias oas ras
theorem Bk.mono {H H' : Hp} (k : KT H H') {ins outs : List (Str × Int)} {head : Th} {rows : List (List Th)} {r : Addr} (b : Bk H ins outs head rows r) : Bk H' ins outs head rows r := by
  obtain ⟨ia, oa, ha, ra, ias, oas, ras, b⟩ := b
  exact ⟨ia, oa, ha, ra, ias, oas, ras, b.mono k⟩
end BB
namespace L2
open PySem PySem.Spec PyProof.Rows
section
variable {κ : Type} [DecidableEq κ]
end
section
variable {P : Program} {w : World} {H : Hp} {h : Heap} {a : Addr}
end
section
variable {X : Cx} {pins : List (Addr × Obj)} {σ : St} {H : Hp} {s : Shared} {a : Addr} {y v : V} {u r : Value} {o : Option V} {A : Around} {E : Value → Shared → Prop}
end
section
variable {X : Cx} {pins : List (Addr × Obj)} {σ : St} {H : Hp} {s : Shared} {a : Addr} {kvs : List (Key × V)} {k : Key} {u : Value} {A : Around} {E : Value → Shared → Prop}
end
section
variable {X : Cx} {o i e value : Expr} {pos pos' tpos : Pos} {td ty tv : TE}
end
section
variable {X : Cx} {pos : Pos}
end
section
variable {X : Cx} {pins : List (Addr × Obj)} {σ : St} {H : Hp} {s : Shared} {a : Addr} {y d : V} {u r : Value} {o : Option V} {A : Around} {E : Value → Shared → Prop}
end
section
variable {X : Cx} {o e f : Expr} {apos cpos : Pos} {td ty tx : TE}
end
section
variable {X : Cx} {pins : List (Addr × Obj)} {σ : St} {H : Hp} {s : Shared} {a : Addr} {kvs : List (Key × V)} {A : Around} {E : Value → Shared → Prop}
end
section
variable {X : Cx} {pins : List (Addr × Obj)} {σ : St} {H : Hp} {s : Shared} {a : Addr} {y : V} {u : Value} {A : Around} {E : Value → Shared → Prop}
end
end L2
namespace BB
open PySem L2
end BB
namespace PySem
end PySem
namespace L2
open PySem PySem.Spec PyProof.Rows
section
variable {X : Cx}
end
end L2
namespace BB
open PySem L2
end BB
namespace PySem
open Sem (wp)
namespace F
end F
section
variable {prog : Program} {w : World} {A : Around} {E : Value → Shared → Prop} {s : Shared} {a : Addr} {xs : Array Value} {k : Nat}
end
end PySem
namespace L2
open PySem PySem.Spec PyProof.Rows BB
section
variable {X : Cx}
end
end L2
namespace BB
open PySem L2
end BB
namespace HT
open PySem PySem.Spec PyProof.Rows
section
variable {prog : Program} {w : World} {A : Around} {E : Value → Shared → Prop} {s : Shared}
theorem getItem_tuple_whole {t sl : Addr} {items : Array Value} {vl vu : Value} {lo hi : Option Int} {Q : Value → Shared → Prop} (ht : IsTup s.heap t items) (hs : s.heap.IsSliceOf sl vl vu .none) (pl : IsPart vl lo) (pu : IsPart vu hi)
    (hw : sIx items.size 0 lo = 0 ∧ sIx items.size items.size hi = items.size) (h : Q (.ref t) s) : wpAny (model prog w) A (getItem (.ref t) (.ref sl)) Q E s := by
  obtain ⟨os, hos, hcs, hds⟩ := id hs
  have hTs : s.TypeIs (.ref sl) "slice" := ⟨os, hos, hcs⟩
  have hT : s.TypeIs (.ref t) "tuple" := ht.typeIs
  unfold getItem
  try with_reducible refine wpAny_holding ?_
  first | refine wpAny_bind (wpAny_pure ?_) | skip
  refine wpAny_bind (wpAny_sequenceKey ht.typeIs (by decide) ?_)
  refine wpAny_bind (wpAny_callSpecial?_slot (name := Str.ofString "__getitem__") ht.typeIs PyProof.Rows.slot_tuple_getitem
    (wpAny_call_entry PyProof.Rows.slot_tuple_getitem ht.typeIs entry_tuple_getitem ?_ (args_tuple_getitem _ _)))
  show wpAny _ _ (Builtin.Tuple.tupleItemsOf (.ref t) >>= _) _ _ s
  refine wpAny_bind (tupleItemsOf_ ht ?_)
  refine wpAny_bind (wpAny_typeOf hTs ?_)
  rw [if_pos (by decide)]
  refine wpAny_bind (sliceApplied_gen hs pl pu ?_)
  have hyes : (((sIx items.size 0 lo : Nat) : Int) == 0 && (1 : Int) == 1 && (sIx items.size items.size hi - sIx items.size 0 lo) == items.size) = true := by
    rw [hw.1, hw.2]
    simp
  show wpAny _ _ (if (((sIx items.size 0 lo : Nat) : Int) == 0 && (1 : Int) == 1 && (sIx items.size items.size hi - sIx items.size 0 lo) == items.size) = true then _ else _) _ _ s
  rw [if_pos hyes]
  refine wpAny_bind (m := Builtin.Tuple.tupleIsExact _) ?_
  unfold Builtin.Tuple.tupleIsExact
  refine wpAny_bind (wpAny_typeOf hT (wpAny_pure ?_))
  rw [if_pos (by decide)]
  exact wpAny_bind (wpAny_rule (wpAny_pure ⟨_, rfl, wpAny_pure h⟩))
end
end HT
namespace L2
open PySem PySem.Spec PyProof.Rows
def rSlA : V → Option Int → Option Int → Hp → VK → Prop := fun x lo hi H Q => ∃ a xs, x = .ref a ∧ H a = some (.tup xs) ∧ ∀ p H', Same H H' → H' p = some (.tup (cutV xs lo hi)) → Q (.ref p) H'
theorem sl_tupA {X : Cx} : SlR X rSlA := by
  intro pins s σ H x v vl vu lo hi sl Q I rx hs pl pu h
  obtain ⟨a, xs, rfl, ha, q⟩ := h
  by_cases hw : HT.sIx xs.length 0 lo = 0 ∧ HT.sIx xs.length xs.length hi = xs.length
  · obtain ⟨its, r, p1, hz⟩ := I.tuple (SqT.of (K := X.K) ha)
    have hl := r.length
    cases rx
    have e : cutV xs lo hi = xs := by
      unfold cutV
      rw [hw.1, hw.2, List.drop_zero, Nat.sub_zero, List.take_length]
    refine ⟨"tuple", _, PyProof.Rows.slot_tuple_getitem.lookup, p1.typeIs, HT.getItem_tuple_whole p1 hs pl pu (by rw [List.size_toArray, ← hl]; exact hw) ⟨.ref a, H, I, rfl, q a H (.refl _) (by rw [e]; exact ha)⟩⟩
  · exact sl_tup pins s σ H _ v vl vu lo hi sl Q I rx hs pl pu ⟨a, xs, rfl, SqT.of ha, hw, fun p hp => q p _ (same_new hp _) upd_same⟩
end L2
namespace PySem
open Sem (wp)
section
variable {prog : Program} {w : World} {A : Around} {E : Value → Shared → Prop} {s : Shared} {it d : Addr} {i ep : Nat} {od : Obj} {es : Array DictEntry}
end
end PySem
namespace L2
open PySem PySem.Spec PyProof.Rows
section
variable {X : Cx} {e : Expr} {te : TE}
end
end L2
namespace BB
open PySem L2
inductive Top where
  | nm (n : Str) (m : Nat)
  | th (t : Th)
def bl : List Top → List Th
  | [] => []
  | .nm n m :: S => .knot n ((bl S).take m) :: (bl S).drop m
  | .th t :: S => t :: bl S
def TopsOk : List Top → Prop
  | [] => True
  | .nm _ m :: S => m ≤ (bl S).length ∧ TopsOk S
  | .th _ :: S => TopsOk S
theorem TopsOk.drop : ∀ {l : List Top} (i : Nat), TopsOk l → TopsOk (l.drop i)
  | l, 0, h => by rw [List.drop_zero]; exact h
  | [], i + 1, h => by rw [List.drop_nil]; exact h
  | .nm n m :: S, i + 1, h => by
    rw [TopsOk] at h
    rw [List.drop_succ_cons]
    exact TopsOk.drop i h.2
  | .th t :: S, i + 1, h => by
    rw [TopsOk] at h
    rw [List.drop_succ_cons]
    exact TopsOk.drop i h
theorem bl_len : ∀ l : List Top, (bl l).length ≤ l.length
  | [] => Nat.le_refl _
  | .nm n m :: S => by
    have := bl_len S
    rw [bl, List.length_cons, List.length_cons, List.length_drop]
    omega
  | .th t :: S => by
    have := bl_len S
    rw [bl, List.length_cons, List.length_cons]
    omega
def TopAt (H : Hp) : Top → Addr → Prop
  | .nm n m, a => ∃ ta, H a = some (.tup [.ref ta, .int (m : Nat)]) ∧ n ≠ q ∧ H ta = some (.tup [.str n])
  | .th t, a => ∃ ta, H a = some (.tup [.ref ta, .int 0]) ∧ At H t ta
theorem TopAt.mono {H H' : Hp} (k : KT H H') : ∀ {x : Top} {a : Addr}, TopAt H x a → TopAt H' x a
  | .nm n m, a, h => by
    obtain ⟨ta, h1, h2, h3⟩ := h
    exact ⟨ta, k _ _ h1, h2, k _ _ h3⟩
  | .th t, a, h => by
    obtain ⟨ta, h1, h2⟩ := h
    exact ⟨ta, k _ _ h1, h2.mono k⟩
theorem tops_mono {H H' : Hp} (k : KT H H') {l : List Top} {as : List Addr} (h : Paired (TopAt H) l as) : Paired (TopAt H') l as := P2.mp (fun _ _ e => TopAt.mono k e) h
theorem At.same {H : Hp} {t : Th} {a p : Addr} {xs : List V} (h : At H t a) (ha : H a = some (.tup xs)) (hp : H p = some (.tup xs)) : At H t p := by
  cases t with
  | knot n ks =>
    rw [At] at h ⊢
    obtain ⟨h0, as, h1, h2⟩ := h
    rw [ha] at h1
    exact ⟨h0, as, by rw [hp, ← h1], h2⟩
  | call s k =>
    rw [At] at h ⊢
    rw [hp, ← ha, h]
mutual
def Th.fill (f : Int → Int → Th) : Th → Th
  | .knot n ks => .knot n (fills f ks)
  | .call s k => f s k
def fills (f : Int → Int → Th) : List Th → List Th
  | [] => []
  | t :: ts => t.fill f :: fills f ts
end
theorem fills_len (f : Int → Int → Th) : ∀ ts : List Th, (fills f ts).length = ts.length
  | [] => by rw [fills]
  | t :: ts => by rw [fills, List.length_cons, List.length_cons, fills_len f ts]
mutual
theorem fill_id : ∀ t : Th, t.fill Th.call = t
  | .knot n ks => by rw [Th.fill, fills_id ks]
  | .call s k => by rw [Th.fill]
theorem fills_id : ∀ ts : List Th, fills Th.call ts = ts
  | [] => by rw [fills]
  | t :: ts => by rw [fills, fill_id t, fills_id ts]
end
def topOf (f : Int → Int → Th) : Th → Top
  | .knot n ks => .nm n ks.length
  | .call s k => .th (f s k)
theorem bl_walks (f : Int → Int → Th) : ∀ (n : Nat) (ts : List Th), sizes ts ≤ n → ∀ S, bl ((walks ts).map (topOf f) ++ S) = fills f ts ++ bl S ∧ (TopsOk S → TopsOk ((walks ts).map (topOf f) ++ S))
  | _, [], _, S => by rw [walks, fills]; exact ⟨rfl, fun h => h⟩
  | 0, t :: ts, hn, S => by
    have := t.size_pos
    rw [sizes] at hn; omega
  | n + 1, t :: ts, hn, S => by
    have hs := t.size_eq
    rw [sizes] at hn
    have h2 := bl_walks f n ts (by omega) S
    have e : (walks (t :: ts)).map (topOf f) ++ S = topOf f t :: ((walks t.kids).map (topOf f) ++ ((walks ts).map (topOf f) ++ S)) := by rw [walks, t.walk_eq]; simp
    have h1 := bl_walks f n t.kids (by omega) ((walks ts).map (topOf f) ++ S)
    rw [e]
    cases t with
    | knot nm ks =>
      simp only [Th.kids] at h1 ⊢
      refine ⟨?_, fun hS => ?_⟩
      · show bl (.nm nm ks.length :: _) = _
        rw [bl, h1.1, h2.1, ← fills_len f ks, List.take_left, List.drop_left, fills, Th.fill]
        rfl
      · show TopsOk (.nm nm ks.length :: _)
        rw [TopsOk]
        refine ⟨?_, h1.2 (h2.2 hS)⟩
        rw [h1.1, List.length_append, fills_len]
        exact Nat.le_add_right _ _
    | call s k =>
      simp only [Th.kids, walks, List.map_nil, List.nil_append] at h1 ⊢
      refine ⟨?_, fun hS => ?_⟩
      · show bl (.th (f s k) :: _) = _
        rw [bl, h2.1, fills, Th.fill]
        rfl
      · show TopsOk (.th (f s k) :: _)
        rw [TopsOk]
        exact h2.2 hS
theorem bl_walk (f : Int → Int → Th) (t : Th) : bl (t.walk.map (topOf f)) = [t.fill f] ∧ TopsOk (t.walk.map (topOf f)) := by
  have h := bl_walks f _ [t] (Nat.le_refl _) []
  have e : walks [t] = t.walk := by simp [walks]
  rw [e, List.append_nil] at h
  refine ⟨?_, h.2 (by rw [TopsOk]; trivial)⟩
  rw [h.1, fills, fills, bl]
  rfl
theorem cut_one (x : V) (xs : List V) : cutV (x :: xs) none (some 1) = [x] := by
  unfold cutV
  rw [show (some (1 : Int)) = some ((1 : Nat) : Int) from rfl, HT.sIx_nat, HT.sIx_none, List.length_cons, Nat.min_eq_left (by omega)]
  rfl
theorem At.width {H : Hp} {t : Th} {a : Addr} {xs : List V} (h : At H t a) (ha : H a = some (.tup xs)) : xs.length ≤ t.size + 2 := by
  cases t with
  | knot n ks =>
    rw [At] at h
    obtain ⟨_, as, h1, h2⟩ := h
    rw [ha] at h1
    cases h1
    have := h2.length
    have := len_sizes ks
    rw [List.length_cons, List.length_map, Th.size]
    omega
  | call s k =>
    rw [At] at h
    rw [ha] at h
    cases h
    rw [Th.size]
    exact Nat.le_refl _
end BB
namespace BB
open PySem L2
mutual
inductive Out (ins : List (Str × Int)) (rows : List (List Th)) : Th → Th → Th → Prop
  | mk {p k : Th} {n : Str} {ts : List Th} {k' : Th} {os : List Th} : Res ins rows p k (.knot n ts) k' → Outs ins rows ts k' os → Out ins rows p k (.knot n os)
inductive Outs (ins : List (Str × Int)) (rows : List (List Th)) : List Th → Th → List Th → Prop
  | nil (k : Th) : Outs ins rows [] k []
  | cons {t k o : Th} {ts os : List Th} : Out ins rows t k o → Outs ins rows ts k os → Outs ins rows (t :: ts) k (o :: os)
end
theorem Out.step {ins : List (Str × Int)} {rows : List (List Th)} {s c : Int} {n : Str} {ks : List Th} {p h o : Th} (st : Step ins rows s c ks p h) (g : Out ins rows p h o) : Out ins rows (.call s c) (.knot n ks) o := by
  cases g with
  | mk r os => exact .mk (.step st r) os
theorem Out.unstep {ins : List (Str × Int)} {rows : List (List Th)} {s c : Int} {n : Str} {ks : List Th} {o : Th} (g : Out ins rows (.call s c) (.knot n ks) o) : ∃ p h, Step ins rows s c ks p h ∧ Out ins rows p h o := by
  cases g with
  | mk r os =>
    cases r with
    | step st r => exact ⟨_, _, st, .mk r os⟩
theorem Out.unknot {ins : List (Str × Int)} {rows : List (List Th)} {n : Str} {ts : List Th} {k o : Th} (g : Out ins rows (.knot n ts) k o) : ∃ os, o = .knot n os ∧ Outs ins rows ts k os := by
  cases g with
  | mk r os =>
    cases r with
    | stop => exact ⟨_, rfl, os⟩
theorem Outs.length {ins : List (Str × Int)} {rows : List (List Th)} : ∀ {ts : List Th} {k : Th} {os : List Th}, Outs ins rows ts k os → os.length = ts.length
  | _, _, _, .nil _ => rfl
  | _, _, _, .cons _ h => by rw [List.length_cons, List.length_cons, Outs.length h]
theorem Outs.get {ins : List (Str × Int)} {rows : List (List Th)} : ∀ {ts : List Th} {k : Th} {os : List Th} (i : Nat) {t o : Th}, Outs ins rows ts k os → ts[i]? = some t → os[i]? = some o → Out ins rows t k o
  | _, _, _, i, t, o, .nil _, h1, h2 => by simp at h1
  | _, _, _, 0, t, o, .cons g _, h1, h2 => by
    simp at h1 h2
    subst h1; subst h2
    exact g
  | _, _, _, i + 1, t, o, .cons _ g, h1, h2 => Outs.get i g (by simpa using h1) (by simpa using h2)
theorem step_det {ins : List (Str × Int)} (g : GoodN ins) {rows : List (List Th)} {s c : Int} {ks : List Th} {p h p' h' : Th} (a : Step ins rows s c ks p h) (b : Step ins rows s c ks p' h') : p = p' ∧ h = h' := by
  obtain ⟨_, _, a1, m, hs, c1, j, row, a2, a3, a4, a5⟩ := a
  obtain ⟨_, _, b1, m', hs', c1', j', row', b2, b3, b4, b5⟩ := b
  rw [a1] at b1
  cases b1
  rw [a2] at b2
  cases b2
  rw [a4] at b4
  cases b4
  have := g.nd j j' _ _ a3 b3 rfl
  subst this
  rw [a5] at b5
  cases b5
  exact ⟨rfl, rfl⟩
theorem res_det {ins : List (Str × Int)} (g : GoodN ins) {rows : List (List Th)} {p k p1 k1 : Th} (a : Res ins rows p k p1 k1) : ∀ {p2 k2 : Th}, Res ins rows p k p2 k2 → p1 = p2 ∧ k1 = k2 := by
  induction a with
  | stop n ts k => intro p2 k2 b; cases b; exact ⟨rfl, rfl⟩
  | step st r ih =>
    intro p2 k2 b
    cases b with
    | step st' r' =>
      obtain ⟨rfl, rfl⟩ := step_det g st st'
      exact ih r'
theorem out_det_n {ins : List (Str × Int)} (g : GoodN ins) {rows : List (List Th)} : ∀ (N : Nat), (∀ (p k o o' : Th), o.size ≤ N → Out ins rows p k o → Out ins rows p k o' → o = o') ∧ (∀ (ts : List Th) (k : Th) (os os' : List Th), sizes os ≤ N → Outs ins rows ts k os → Outs ins rows ts k os' → os = os') := by
  intro N
  induction N with
  | zero =>
    refine ⟨fun p k o o' h => ?_, fun ts k os os' h a b => ?_⟩
    · have := o.size_pos
      omega
    · cases a with
      | nil => cases b; rfl
      | cons x y =>
        rename_i o _ _
        have := o.size_pos
        rw [sizes] at h
        omega
  | succ N ih =>
    have h1 : ∀ (p k o o' : Th), o.size ≤ N + 1 → Out ins rows p k o → Out ins rows p k o' → o = o' := by
      intro p k o o' h a b
      cases a with
      | mk r os =>
        cases b with
        | mk r' os' =>
          obtain ⟨e1, e2⟩ := res_det g r r'
          cases e1
          subst e2
          rw [Th.size] at h
          rw [ih.2 _ _ _ _ (by omega) os os']
    refine ⟨h1, fun ts => ?_⟩
    induction ts with
    | nil => intro k os os' h a b; cases a; cases b; rfl
    | cons t ts iht =>
      intro k os os' h a b
      cases a with
      | cons x y =>
        cases b with
        | cons x' y' =>
          rw [sizes] at h
          rw [h1 _ _ _ _ (by omega) x x', iht _ _ _ (by omega) y y']
theorem out_det {ins : List (Str × Int)} (g : GoodN ins) {rows : List (List Th)} {p k o o' : Th} (a : Out ins rows p k o) (b : Out ins rows p k o') : o = o' := (out_det_n g o.size).1 p k o o' (Nat.le_refl _) a b
theorem out_ex {ins outs : List (Str × Int)} {S : Int} {d : Nat} {head : Th} {rows : List (List Th)} (ok : BookOk ins outs S d head rows) : ∀ (N : Nat) (n : Str) (ks : List Th), (Th.knot n ks).tall ≤ N → (∀ h ∈ ks, h.Fit ins) →
    ∀ (M : Nat) (p : Th), p.size ≤ M → p.FitS outs S (ks.length : Int) → ∃ o, Out ins rows p (.knot n ks) o ∧ o.Fit outs := by
  intro N
  induction N with
  | zero => intro n ks h; rw [Th.tall] at h; omega
  | succ N ih =>
    intro n ks hN hk M
    induction M with
    | zero => intro p h; have := p.size_pos; omega
    | succ M ihM =>
      intro p hM hf
      cases p with
      | call s c =>
        obtain ⟨p', m, hs, st, hf', hh, hm⟩ := step_ex ok hf hk
        have := talls_le hm
        rw [Th.tall] at hN
        obtain ⟨o, h1, h2⟩ := ih m hs (by omega) hh _ p' (Nat.le_refl _) hf'
        exact ⟨o, .step st h1, h2⟩
      | knot m ts =>
        rw [Th.FitS] at hf
        rw [Th.size] at hM
        have all : ∀ us : List Th, sizes us ≤ M → FitSs outs S (ks.length : Int) us → ∃ os, Outs ins rows us (.knot n ks) os ∧ Fits outs os := by
          intro us
          induction us with
          | nil => intro _ _; exact ⟨[], .nil _, by rw [Fits]; trivial⟩
          | cons u us ihu =>
            intro h1 h2
            rw [sizes] at h1
            rw [FitSs] at h2
            obtain ⟨o, g1, g2⟩ := ihM u (by omega) h2.1
            obtain ⟨os, g3, g4⟩ := ihu (by omega) h2.2
            exact ⟨o :: os, .cons g1 g3, by rw [Fits]; exact ⟨g2, g4⟩⟩
        obtain ⟨os, g1, g2⟩ := all ts (by omega) hf.2
        refine ⟨.knot m os, .mk (.stop m ts _) g1, ?_⟩
        rw [Th.Fit, g1.length]
        exact ⟨hf.1, g2⟩
structure Job where
  p : Th
  k : Th
  r : Nat
  o : Th
def JAt (H : Hp) (ins : List (Str × Int)) (rows : List (List Th)) (j : Job) (a : Addr) : Prop := ∃ pa ka, H a = some (.tup [.ref pa, .ref ka, .int (j.r : Nat)]) ∧ At H j.p pa ∧ At H j.k ka ∧ Out ins rows j.p j.k j.o
theorem JAt.mono {H H' : Hp} (kt : KT H H') {ins : List (Str × Int)} {rows : List (List Th)} {j : Job} {a : Addr} (h : JAt H ins rows j a) : JAt H' ins rows j a := by
  obtain ⟨pa, ka, h1, h2, h3, h4⟩ := h
  exact ⟨pa, ka, kt _ _ h1, h2.mono kt, h3.mono kt, h4⟩
def jos (js : List Job) : List Th := js.map (·.o)
structure JInv (outs : List (Str × Int)) (o : Th) (done : List Th) (js : List Job) : Prop where
  wk : done ++ walks (jos js).reverse = o.walk
  fit : ∀ j ∈ js, j.o.Fit outs
  low : ∀ j ∈ js, 1 ≤ j.r ∧ j.r - 1 + j.o.tall ≤ o.tall
  top : o.tall ≤ 150 ∨ ∃ j ∈ js, o.tall = j.r - 1 + j.o.tall
  dn : done.length ≤ 2000
  len : js.length ≤ 1 + 3 * done.length
theorem sizes_rev' (l : List Th) : sizes l.reverse = sizes l := by
  induction l with
  | nil => rfl
  | cons t l ih => rw [List.reverse_cons, sizes_append, ih, sizes, sizes, sizes]; omega
theorem JInv.size {outs : List (Str × Int)} {o : Th} {done : List Th} {js : List Job} (h : JInv outs o done js) : done.length + sizes (jos js) = o.size := by
  have := congrArg List.length h.wk
  rw [List.length_append, walks_len, sizes_rev', Th.walk_len] at this
  exact this
theorem JInv.start {outs : List (Str × Int)} {p k o : Th} (h : o.Fit outs) : JInv outs o [] [⟨p, k, 1, o⟩] := by
  have ht := o.tall_eq
  refine ⟨by simp [jos, walks], fun j hj => ?_, fun j hj => ?_, .inr ⟨_, List.mem_singleton_self _, by show o.tall = 1 - 1 + o.tall; omega⟩, by simp, by simp⟩
  · rw [List.mem_singleton.mp hj]; exact h
  · rw [List.mem_singleton.mp hj]
    exact ⟨Nat.le_refl _, by show 1 - 1 + o.tall ≤ o.tall; omega⟩
def kidJobs (k : Th) (r : Nat) (ts os : List Th) : List Job := (ts.zip os).map fun z => ⟨z.1, k, r, z.2⟩
theorem kidJobs_o (k : Th) (r : Nat) : ∀ (ts os : List Th), ts.length = os.length → jos (kidJobs k r ts os) = os
  | [], [], _ => rfl
  | t :: ts, o :: os, h => by
    show o :: jos (kidJobs k r ts os) = o :: os
    rw [kidJobs_o k r ts os (by simpa using h)]
theorem kidJobs_mem {k : Th} {r : Nat} {ts os : List Th} {j : Job} (h : j ∈ kidJobs k r ts os) : j.r = r ∧ j.o ∈ os := by
  obtain ⟨z, hz, rfl⟩ := List.mem_map.mp h
  exact ⟨rfl, (List.of_mem_zip hz).2⟩
theorem kidJobs_of {k : Th} {r : Nat} : ∀ {ts os : List Th}, ts.length = os.length → ∀ {u : Th}, u ∈ os → ∃ j ∈ kidJobs k r ts os, j.r = r ∧ j.o = u
  | [], [], _, u, h => by cases h
  | t :: ts, o :: os, hl, u, h => by
    rcases List.mem_cons.mp h with rfl | h
    · exact ⟨_, List.mem_cons_self .., rfl, rfl⟩
    · obtain ⟨j, h1, h2⟩ := kidJobs_of (k := k) (r := r) (ts := ts) (os := os) (by simpa using hl) h
      exact ⟨j, List.mem_cons_of_mem _ h1, h2⟩
theorem kidJobs_len {k : Th} {r : Nat} {ts os : List Th} (h : ts.length = os.length) : (kidJobs k r ts os).length = os.length := by
  unfold kidJobs
  rw [List.length_map, List.length_zip]
  omega
theorem fit_width {outs : List (Str × Int)} (g : GoodN outs) {n : Str} {os : List Th} (h : (Th.knot n os).Fit outs) : os.length ≤ 3 := by
  rw [Th.Fit] at h
  have := (g.num _ h.1).2
  have h2 : ((os.length : Nat) : Int) ≤ 3 := this
  omega
theorem JInv.turn {outs : List (Str × Int)} (g : GoodN outs) {o : Th} {done : List Th} {js : List Job} {p k k' : Th} {r : Nat} {n : Str} {ts os : List Th} (h : JInv outs o done (js ++ [⟨p, k, r, .knot n os⟩])) (hr : r ≤ 150) (hd : done.length < 2000) (hl : ts.length = os.length) :
    JInv outs o (done ++ [.knot n os]) (js ++ (kidJobs k' (r + 1) ts os).reverse) := by
  have hfit := h.fit ⟨p, k, r, .knot n os⟩ (by simp)
  have hlow := h.low ⟨p, k, r, .knot n os⟩ (by simp)
  dsimp only at hfit hlow
  have hw := fit_width g hfit
  have hkl := kidJobs_len (k := k') (r := r + 1) hl
  refine ⟨?_, fun j hj => ?_, fun j hj => ?_, ?_, ?_, ?_⟩
  · have := h.wk
    rw [← this]
    have e1 : (jos (js ++ [⟨p, k, r, .knot n os⟩])).reverse = .knot n os :: (jos js).reverse := by
      unfold jos
      rw [List.map_append, List.reverse_append]
      rfl
    have e2 : (jos (js ++ (kidJobs k' (r + 1) ts os).reverse)).reverse = os ++ (jos js).reverse := by
      have := kidJobs_o k' (r + 1) ts os hl
      unfold jos at this ⊢
      rw [List.map_append, List.map_reverse, this, List.reverse_append, List.reverse_reverse]
    rw [e1, e2, walks_append, List.append_assoc]
    show done ++ ([Th.knot n os] ++ _) = done ++ walks (Th.knot n os :: (jos js).reverse)
    rw [walks, Th.walk_eq]
    rfl
  · rcases List.mem_append.mp hj with hj | hj
    · exact h.fit j (List.mem_append_left _ hj)
    · rw [Th.Fit] at hfit
      exact hfit.2.mem _ (kidJobs_mem (List.mem_reverse.mp hj)).2
  · rcases List.mem_append.mp hj with hj | hj
    · exact h.low j (List.mem_append_left _ hj)
    · obtain ⟨h1, h2⟩ := kidJobs_mem (List.mem_reverse.mp hj)
      have := talls_le h2
      rw [Th.tall] at hlow
      rw [h1]
      omega
  · rcases h.top with ht | ⟨j, hj, ht⟩
    · exact .inl ht
    · rcases List.mem_append.mp hj with hj | hj
      · exact .inr ⟨j, List.mem_append_left _ hj, ht⟩
      · rw [List.mem_singleton.mp hj] at ht
        dsimp only at ht
        rw [Th.tall] at ht
        by_cases hz : os = []
        · subst hz
          rw [talls] at ht
          left
          omega
        · obtain ⟨u, hu, hue⟩ := talls_mem hz
          obtain ⟨j', h1, h2, h3⟩ := kidJobs_of (k := k') (r := r + 1) hl hu
          right
          refine ⟨j', List.mem_append_right _ (List.mem_reverse.mpr h1), ?_⟩
          rw [h2, h3]
          omega
  · rw [List.length_append]
    show done.length + 1 ≤ 2000
    omega
  · have := h.len
    rw [List.length_append] at this
    rw [List.length_append, List.length_append, List.length_reverse, hkl]
    have h1 : ([⟨p, k, r, .knot n os⟩] : List Job).length = 1 := rfl
    have h2 : ([Th.knot n os] : List Th).length = 1 := rfl
    omega
theorem JInv.great {outs : List (Str × Int)} {o : Th} {done : List Th} {js : List Job} {j : Job} (h : JInv outs o done (js ++ [j])) (hb : done.length = 2000 ∨ 150 < j.r) : ¬ (o.size ≤ 2000 ∧ o.tall ≤ 150) := by
  rintro ⟨h1, h2⟩
  rcases hb with hb | hb
  · have := h.size
    unfold jos at this
    rw [List.map_append, sizes_append] at this
    have h3 := j.o.size_pos
    have : sizes ([j].map (·.o)) = j.o.size := by
      show sizes [j.o] = _
      rw [sizes, sizes]
      rfl
    omega
  · have := (h.low j (by simp)).2
    have h3 := j.o.tall_eq
    omega
theorem JInv.done {outs : List (Str × Int)} {o : Th} {done : List Th} (h : JInv outs o done []) : (o.size ≤ 2000 ∧ o.tall ≤ 150) ∧ done = o.walk := by
  have h1 := h.size
  have h2 := h.dn
  have h3 := h.wk
  refine ⟨⟨?_, ?_⟩, ?_⟩
  · have : sizes (jos []) = 0 := rfl
    omega
  · rcases h.top with h | ⟨j, hj, _⟩
    · exact h
    · cases hj
  · simpa [jos, walks] using h3
def SzAt (H : Hp) (ins : List (Str × Int)) (rows : List (List Th)) (h : Th) (a : Addr) : Prop := ∃ es : List Addr, H a = some (.lst (es.map V.ref)) ∧ es.length = rows.length ∧ ∀ (s : Int) (o : Th), Out ins rows (.call s 0) (.knot Str.empty [h]) o → ∃ e, es[s.toNat]? = some e ∧ H e = some (.tup [.int (o.size : Nat), .int (o.tall : Nat)])
theorem SzAt.same {H H' : Hp} (s : L2.Same H H') {ins : List (Str × Int)} {rows : List (List Th)} {h : Th} {a : Addr} (g : SzAt H ins rows h a) : SzAt H' ins rows h a := by
  obtain ⟨es, h1, h2, h3⟩ := g
  refine ⟨es, s _ _ h1, h2, fun st o ho => ?_⟩
  obtain ⟨e, g1, g2⟩ := h3 st o ho
  exact ⟨e, g1, s _ _ g2⟩
theorem step_one {ins : List (Str × Int)} {rows : List (List Th)} {s c : Int} {ks : List Th} {p h : Th} (st : Step ins rows s c ks p h) : Step ins rows s 0 [h] p h := by
  obtain ⟨a1, a2, a3, r⟩ := st
  exact ⟨a1, Int.le_refl _, rfl, r⟩
theorem SzAt.keep {H H' : Hp} (k : KT H H') {ins : List (Str × Int)} {rows : List (List Th)} {h : Th} {a : Addr} (ha : ∀ o, H a = some o → H' a = some o) (g : SzAt H ins rows h a) : SzAt H' ins rows h a := by
  obtain ⟨es, h1, h2, h3⟩ := g
  refine ⟨es, ha _ h1, h2, fun st o ho => ?_⟩
  obtain ⟨e, g1, g2⟩ := h3 st o ho
  exact ⟨e, g1, k _ _ g2⟩
theorem list_ex {α β : Type} {R : α → β → Prop} : ∀ (xs : List α), (∀ x ∈ xs, ∃ y, R x y) → ∃ ys : List β, ys.length = xs.length ∧ ∀ (i : Nat) (x : α) (y : β), xs[i]? = some x → ys[i]? = some y → R x y
  | [], _ => ⟨[], rfl, fun i x y h => by simp at h⟩
  | x :: xs, h => by
    obtain ⟨y, hy⟩ := h x (List.mem_cons_self ..)
    obtain ⟨ys, h1, h2⟩ := list_ex xs fun z hz => h z (List.mem_cons_of_mem _ hz)
    refine ⟨y :: ys, by rw [List.length_cons, List.length_cons, h1], fun i a b ha hb => ?_⟩
    cases i with
    | zero =>
      simp at ha hb
      subst ha; subst hb
      exact hy
    | succ i => exact h2 i a b (by simpa using ha) (by simpa using hb)
end BB
namespace L2
open PySem PySem.Spec PyProof.Rows
section
variable {X : Cx} {e : Expr} {te : TE} {p p2 pos pos2 : Pos}
def ItvT (K : PySem.W.Frag) (a : Addr) (n : Nat) : It := ⟨fun i H => i < n ∧ ∃ xs, SqT K H a xs ∧ xs.length = n, fun i H x H' => H' = H ∧ ∀ xs, SqT K H a xs → xs[n - 1 - i]? = some x, fun i _ => i = n⟩
theorem turn_revT {P : Program} {w : World} {K : PySem.W.Frag} {tg : Expr} (a it : Addr) (n : Nat) : Turn P w K tg (ItvT K a n) [it] it (fun i h => IsRevT h it a ((n : Int) - 1 - (i : Nat))) where
  mem := by simp
  obj := fun i h st b hb => by
    have e : b = it := by simpa using hb
    subst e
    obtain ⟨o, e, c, d⟩ := st
    exact ⟨o, e, fun v z => by rw [d] at z; cases z⟩
  keep := fun i h h' st k => st.at fun o e => k it (by simp) o e
  item := by
    intro X hP hw hK hc i pins s σ H E I hf st hg
    subst hP hw hK
    obtain ⟨hi, xs, hq, hx⟩ := hg
    obtain ⟨its, rv, p, hz⟩ := I.tuple hq
    have hl := rv.length
    have hn := line63
    obtain ⟨x, hx'⟩ : ∃ x, xs[n - 1 - i]? = some x := ⟨_, List.getElem?_eq_getElem (by omega)⟩
    obtain ⟨u, hu, ru⟩ := rv.get hx'
    obtain ⟨f0, f1, f2, f3, f4, f5⟩ := hf it (by simp)
    have e1 : (n : Int) - 1 - (i : Nat) = ((n - 1 - i : Nat) : Int) := by omega
    rw [e1] at st
    refine bb_rev_next st p (x := u) (by simpa using hu) (by rw [List.size_toArray]; omega) fun h' tk st' sb => ?_
    have I1 : Inv X pins σ H { s with heap := h', toks := tk } := I.turned (t' := tk) (fun b o hb e => (sb.2 b hb).trans e) f0 f1 f3 f4 f5
    have e2 : ((n - 1 - i : Nat) : Int) - 1 = (n : Int) - 1 - ((i + 1 : Nat) : Int) := by omega
    rw [e2] at st'
    obtain ⟨o, e, c, d⟩ := id st'
    exact ⟨u, rfl, go_of (s := { s with heap := h', toks := tk }) e c d (by decide) ⟨x, H, I1, ru, ⟨rfl, fun ys hy => by rw [I.tuple_inj hy hq]; exact hx'⟩, st', fun b hb => (hf b hb).1⟩⟩
  done := by
    intro X hP hw hK hc i pins s σ H E I hf st hg
    subst hP hw hK
    have hg' : i = n := hg
    subst hg'
    obtain ⟨f0, f1, f2, f3, f4, f5⟩ := hf it (by simp)
    rw [show (i : Int) - 1 - (i : Nat) = -1 by omega] at st
    exact bb_rev_end (I.ok.hd hc) st fun h' tk eb => ⟨rfl, I.turned (t' := tk) (fun b o hb e => eb b o hb e) f0 f1 f3 f4 f5⟩
  self := fun _ _ _ _ _ st h => bb_rev_iter st h
def iRevT (K : PySem.W.Frag) (tl : TE) : TI := fun σ H R => tl σ H fun x H1 => ∃ a xs, x = .ref a ∧ SqT K H1 a xs ∧ R (ItvT K a xs.length) H1
theorem pi_revT {tg : Expr} (g2 : Gl X "reversed") (m2 : X.mg "reversed" = none) (he : PE X e te) (h2 : starEach [e] X.env = [(false, eval e X.env)] := by rfl) : PI X tg (.Call (.Name "reversed" p2) [e] [] pos2) (iRevT X.K te) := by
  intro pins s σ H R I h
  refine wpAny_Call_Name_kw (ld_blt I g2 m2 boot_reversed (PyProof.Rows.callWith_type1 ?_ h2 rfl))
  rw [h2]
  show wpAny _ _ (spliced ((false, eval e X.env) :: [])) _ _ s
  refine Calls.spliced_cons (thn (he pins s σ H _ I h) fun u s1 ⟨x, H1, I1, r1, a, ys, ex, hq, q⟩ => Calls.spliced_nil ?_)
  subst ex
  cases r1
  obtain ⟨its, rv, p, hz⟩ := I1.tuple hq
  have hl := rv.length
  have hn := line63
  refine bb_call_rev_tuple p (by rw [List.size_toArray]; omega) fun tk => ?_
  have hit : IsRevT (s1.heap.push (revTup a ((its.toArray.size : Int) - 1))) s1.heap.objs.size a ((ys.length : Int) - 1 - ((0 : Nat) : Int)) := by
    rw [hl, show (its.length : Int) - 1 - ((0 : Nat) : Int) = (its.toArray.size : Int) - 1 by rw [List.size_toArray]; omega]
    exact ⟨_, Heap.get?_push_size _ rfl, rfl, rfl⟩
  refine bb_rev_iter (s := { s1 with heap := s1.heap.push (revTup a ((its.toArray.size : Int) - 1)), toks := tk }) hit ?_
  refine ⟨s1.heap.objs.size, [s1.heap.objs.size], _, _, H1, rfl, I1.kept (t' := tk) fun b o e => Heap.get?_push_of_some _ e, turn_revT a _ ys.length, hit, fun b hb => ?_, q⟩
  have e : b = s1.heap.objs.size := by simpa using hb
  subst e
  exact I1.fpOk (Nat.le_refl _) (I1.hok.fresh (Nat.le_refl _))
end
end L2
namespace BB
open PySem L2
theorem comp_nw {α : Type} {F : Hp → α → Addr → Prop} {js : List (Option Nat)} {g : TG} {tt : TT} {te : TE} {σ : St} {J : It} {H : Hp} {xs : List V} {fin : Addr → Hp → Prop} (zs : List α) (hF : ∀ H1 H2 z p, KT H1 H2 → F H1 z p → F H2 z p) (hz : zs.length = xs.length) (hn : xs.length ≤ 1000000)
    (hgo : ∀ i H2, L2.Same H H2 → i < xs.length → J.go i H2) (hstop : ∀ H2, L2.Same H H2 → J.stop xs.length H2) (hyld : ∀ (i : Nat) H2 x H3, L2.Same H H2 → i < xs.length → J.yld i H2 x H3 → H3 = H2 ∧ xs[i]? = some x)
    (hb : ∀ (i : Nat) x z H2 (R : VK) (W' : Hp → Prop), xs[i]? = some x → zs[i]? = some z → L2.Same H H2 → (∀ H3 p, L2.Same H2 H3 → F H3 z p → R (.ref p) H3) → g x (cσ js σ) H2 fun σ2 H3 => tt σ2 H3 fun b H4 => if b = true then te σ2 H4 R else W' H4)
    (hfin : ∀ D H' as, H D = none → L2.Same H H' → H' D = some (.lst (as.map V.ref)) → Paired (F H') zs as → fin D H') :
    ∀ D, H D = none → ∃ (n : Nat) (W : Nat → Hp → Prop), W 0 (upd H D (.lst [])) ∧ cTurn js g tt te σ J D n W fun H' => fin D H' := by
  intro D hD
  refine ⟨xs.length, fun i H' => i ≤ xs.length ∧ L2.Same H H' ∧ ∃ as : List Addr, H' D = some (.lst (as.map V.ref)) ∧ Paired (F H') (zs.take i) as, ⟨Nat.zero_le _, same_new hD _, [], by rw [upd_same]; rfl, .nil⟩, ?_⟩
  rintro i H' ⟨hi, s1, as, e1, hp⟩
  by_cases hlt : i < xs.length
  · refine .inr ⟨hlt, hgo i H' s1 hlt, fun v H1 hy => ?_⟩
    obtain ⟨e, hx⟩ := hyld i H' v H1 s1 hlt hy
    subst e
    obtain ⟨z, hz'⟩ : ∃ z, zs[i]? = some z := ⟨_, List.getElem?_eq_getElem (by omega)⟩
    have hl : (zs.take i).length = as.length := Paired.length hp
    rw [List.length_take] at hl
    refine hb i v z _ _ _ hx hz' s1 fun H3 p s3 hF3 => ⟨_, s3 _ _ e1, ?_, hlt, same_upd (s1.trans s3) hD, as ++ [p], ?_, ?_⟩
    · rw [List.length_map]
      have : sizeLine = 16777216 := sizeLine_eq
      omega
    · rw [upd_same, List.map_append]; rfl
    · have kt : KT H3 (upd H3 D (.lst (as.map V.ref ++ [.ref p]))) := kt_lst (s3 _ _ e1)
      rw [take_snoc hz']
      exact P2.append (P2.mp (fun x y e => hF _ _ _ _ ((Same.kt s3).trans kt) e) hp) (.cons (hF _ _ _ _ kt hF3) .nil)
  · have hi' : i = xs.length := by omega
    subst hi'
    refine .inl ⟨hstop _ s1, hfin D H' as hD s1 e1 ?_⟩
    rw [List.take_of_length_le (by omega)] at hp
    exact hp
theorem comp_nl {α : Type} {F : Hp → α → Addr → Prop} {js : List (Option Nat)} {g : TG} {tt : TT} {te : TE} {σ : St} {J : It} {H : Hp} {xs : List V} {fin : Addr → Hp → Prop} (zs : List α) (hF : ∀ H1 H2 z p, KT H1 H2 → (∀ o, H1 p = some o → H2 p = some o) → F H1 z p → F H2 z p) (hz : zs.length = xs.length) (hn : xs.length ≤ 1000000)
    (hgo : ∀ i H2, L2.Same H H2 → i < xs.length → J.go i H2) (hstop : ∀ H2, L2.Same H H2 → J.stop xs.length H2) (hyld : ∀ (i : Nat) H2 x H3, L2.Same H H2 → i < xs.length → J.yld i H2 x H3 → H3 = H2 ∧ xs[i]? = some x)
    (hb : ∀ (i : Nat) x z H2 (R : VK) (W' : Hp → Prop), xs[i]? = some x → zs[i]? = some z → L2.Same H H2 → (∀ H3 p, L2.Same H2 H3 → H2 p = none → F H3 z p → R (.ref p) H3) → g x (cσ js σ) H2 fun σ2 H3 => tt σ2 H3 fun b H4 => if b = true then te σ2 H4 R else W' H4)
    (hfin : ∀ D H' as, H D = none → L2.Same H H' → H' D = some (.lst (as.map V.ref)) → Paired (F H') zs as → fin D H') :
    ∀ D, H D = none → ∃ (n : Nat) (W : Nat → Hp → Prop), W 0 (upd H D (.lst [])) ∧ cTurn js g tt te σ J D n W fun H' => fin D H' := by
  intro D hD
  refine ⟨xs.length, fun i H' => i ≤ xs.length ∧ L2.Same H H' ∧ ∃ as : List Addr, H' D = some (.lst (as.map V.ref)) ∧ Paired (fun z a => F H' z a ∧ a ≠ D) (zs.take i) as, ⟨Nat.zero_le _, same_new hD _, [], by rw [upd_same]; rfl, .nil⟩, ?_⟩
  rintro i H' ⟨hi, s1, as, e1, hp⟩
  by_cases hlt : i < xs.length
  · refine .inr ⟨hlt, hgo i H' s1 hlt, fun v H1 hy => ?_⟩
    obtain ⟨e, hx⟩ := hyld i H' v H1 s1 hlt hy
    subst e
    obtain ⟨z, hz'⟩ : ∃ z, zs[i]? = some z := ⟨_, List.getElem?_eq_getElem (by omega)⟩
    have hl : (zs.take i).length = as.length := Paired.length hp
    rw [List.length_take] at hl
    refine hb i v z _ _ _ hx hz' s1 fun H3 p s3 np hF3 => ⟨_, s3 _ _ e1, ?_, hlt, same_upd (s1.trans s3) hD, as ++ [p], ?_, ?_⟩
    · rw [List.length_map]
      have : sizeLine = 16777216 := sizeLine_eq
      omega
    · rw [upd_same, List.map_append]; rfl
    · have kt : KT H3 (upd H3 D (.lst (as.map V.ref ++ [.ref p]))) := kt_lst (s3 _ _ e1)
      have hpD : p ≠ D := fun z => by rw [z, e1] at np; cases np
      rw [take_snoc hz']
      exact P2.append (P2.mp (fun x y e => ⟨hF _ _ _ _ ((Same.kt s3).trans kt) (fun o ho => by rw [upd_ne e.2]; exact s3 _ _ ho) e.1, e.2⟩) hp) (.cons ⟨hF _ _ _ _ kt (fun o ho => by rw [upd_ne hpD]; exact ho) hF3, hpD⟩ .nil)
  · have hi' : i = xs.length := by omega
    subst hi'
    refine .inl ⟨hstop _ s1, hfin D H' as hD s1 e1 ?_⟩
    rw [List.take_of_length_le (by omega)] at hp
    exact P2.mp (fun _ _ e => e.1) hp
end BB
namespace L2
open PySem PySem.Spec PyProof.Rows
theorem FnOk.x0 {P : Program} {w : World} {K : PySem.W.Frag} {mg : Str → Option Value} {base : Heap} {k : Nat} {f : Addr} {fd : FuncData} {ps : List Str} {sp spX : Sp} (F : FnOk P w K mg base (CX1 P w) k f fd ps spX)
    (h : ∀ vs H Q E, sp vs H Q E → spX vs H Q fun _ _ _ => False) : FnOk P w K mg base CX0 k f fd ps sp :=
  ⟨fun vs H Q E q => F.len vs H Q _ (h _ _ _ _ q), fun A outer s H args us vs Q E hr he hb hv hs => codeAny_mono (F.run A outer s H args us vs Q _ hr he hb hv (h _ _ _ _ hs)) fun r s' hc => by
    cases r with
    | error e =>
      obtain ⟨_, _, _, _, _, _, _, _, _, _, _, _, _, hE⟩ := (show CX1 P w outer H s (fun _ _ _ => False) e s' from hc)
      exact hE.elim
    | ok v => cases v <;> exact hc⟩
theorem us1 {α : Type} : ∀ {us : List α}, us.length = 1 → ∃ a, us = [a]
  | [a], _ => ⟨a, rfl⟩
theorem us2 {α : Type} : ∀ {us : List α}, us.length = 2 → ∃ a b, us = [a, b]
  | [a, b], _ => ⟨a, b, rfl⟩
theorem us3 {α : Type} : ∀ {us : List α}, us.length = 3 → ∃ a b c, us = [a, b, c]
  | [a, b, c], _ => ⟨a, b, c, rfl⟩
theorem us4 {α : Type} : ∀ {us : List α}, us.length = 4 → ∃ a b c d, us = [a, b, c, d]
  | [a, b, c, d], _ => ⟨a, b, c, d, rfl⟩
theorem us5 {α : Type} : ∀ {us : List α}, us.length = 5 → ∃ a b c d e, us = [a, b, c, d, e]
  | [a, b, c, d, e], _ => ⟨a, b, c, d, e, rfl⟩
end L2
namespace PySem
open Sem (wp)
section
variable {prog : Program} {w : World} {A : Around} {E : Value → Shared → Prop} {s : Shared}
end
end PySem
namespace PySem
open Sem (wp)
section
variable {prog : Program} {w : World} {A : Around} {E : Value → Shared → Prop} {s : Shared}
end
end PySem
namespace PySem
open Sem (wp)
namespace F
end F
section
variable {prog : Program} {w : World} {A : Around} {R : Result → Shared → Prop}
end
section
variable {prog : Program} {w : World} {A : Around} {E : Value → Shared → Prop} {s : Shared}
end
end PySem
namespace L2
open PySem PySem.Spec PyProof.Rows
section
variable {X : Cx} {e1 e2 : Expr} {t : TA} {p p2 pos pos2 : Pos}
end
end L2
namespace PySem
open Sem (wp)
end PySem
namespace L2
open PySem PySem.Spec PyProof.Rows BB
end L2
namespace BB
open PySem L2
theorem room_150 {k : Nat} {A : Around} (hr : L2.Room k A) : A.units + 150 + 2 < cLine := by
  have := hr.un
  omega
end BB
namespace BB
open PySem L2
end BB
namespace BB
open PySem L2
theorem comp_sm {α : Type} {js : List (Option Nat)} {g : TG} {tt : TT} {te : TE} {σ : St} {J : It} {H : Hp} {xs : List V} {fin : Addr → Hp → Prop} (zs : List α) (f : α → V) (hz : zs.length = xs.length) (hn : xs.length ≤ 1000000)
    (hgo : ∀ i H2, L2.Same H H2 → i < xs.length → J.go i H2) (hstop : ∀ H2, L2.Same H H2 → J.stop xs.length H2) (hyld : ∀ (i : Nat) H2 x H3, L2.Same H H2 → i < xs.length → J.yld i H2 x H3 → H3 = H2 ∧ xs[i]? = some x)
    (hb : ∀ (i : Nat) x z H2 (R : VK) (W' : Hp → Prop), xs[i]? = some x → zs[i]? = some z → L2.Same H H2 → (∀ H3, L2.Same H2 H3 → R (f z) H3) → g x (cσ js σ) H2 fun σ2 H3 => tt σ2 H3 fun b H4 => if b = true then te σ2 H4 R else W' H4)
    (hfin : ∀ D H', H D = none → L2.Same H H' → H' D = some (.lst (zs.map f)) → fin D H') :
    ∀ D, H D = none → ∃ (n : Nat) (W : Nat → Hp → Prop), W 0 (upd H D (.lst [])) ∧ cTurn js g tt te σ J D n W fun H' => fin D H' := by
  intro D hD
  refine ⟨xs.length, fun i H' => i ≤ xs.length ∧ L2.Same H H' ∧ H' D = some (.lst ((zs.take i).map f)), ⟨Nat.zero_le _, same_new hD _, by rw [upd_same]; rfl⟩, ?_⟩
  rintro i H' ⟨hi, s1, e1⟩
  by_cases hlt : i < xs.length
  · refine .inr ⟨hlt, hgo i H' s1 hlt, fun v H1 hy => ?_⟩
    obtain ⟨e, hx⟩ := hyld i H' v H1 s1 hlt hy
    subst e
    obtain ⟨z, hz'⟩ : ∃ z, zs[i]? = some z := ⟨_, List.getElem?_eq_getElem (by omega)⟩
    refine hb i v z _ _ _ hx hz' s1 fun H3 s3 => ⟨_, s3 _ _ e1, ?_, hlt, same_upd (s1.trans s3) hD, ?_⟩
    · rw [List.length_map, List.length_take]
      have : sizeLine = 16777216 := sizeLine_eq
      omega
    · rw [upd_same, take_snoc hz', List.map_append]
      rfl
  · have hi' : i = xs.length := by omega
    subst hi'
    refine .inl ⟨hstop _ s1, hfin D H' hD s1 ?_⟩
    rw [e1, List.take_of_length_le (by omega)]
theorem comp_sm_tup {α : Type} {K : PySem.W.Frag} {a : Addr} {js : List (Option Nat)} {g : TG} {tt : TT} {te : TE} {σ : St} {H : Hp} {xs : List V} {fin : Addr → Hp → Prop} (zs : List α) (f : α → V) (hS : SqT K H a xs) (hz : zs.length = xs.length) (hn : xs.length ≤ 1000000)
    (hb : ∀ (i : Nat) x z H2 (R : VK) (W' : Hp → Prop), xs[i]? = some x → zs[i]? = some z → L2.Same H H2 → (∀ H3, L2.Same H2 H3 → R (f z) H3) → g x (cσ js σ) H2 fun σ2 H3 => tt σ2 H3 fun b H4 => if b = true then te σ2 H4 R else W' H4)
    (hfin : ∀ D H', H D = none → L2.Same H H' → H' D = some (.lst (zs.map f)) → fin D H') :
    ∀ D, H D = none → ∃ (n : Nat) (W : Nat → Hp → Prop), W 0 (upd H D (.lst [])) ∧ cTurn js g tt te σ (Itt K a) D n W fun H' => fin D H' :=
  comp_sm zs f hz hn (fun i H2 s hi => ⟨xs, xs[i], s.seqT hS, List.getElem?_eq_getElem hi⟩) (fun H2 s => ⟨xs, s.seqT hS, Nat.le_refl _⟩) (fun i H2 x H3 s hi hy => ⟨hy.1, hy.2 xs (s.seqT hS)⟩) hb hfin
theorem comp_sm_list {α : Type} {K : PySem.W.Frag} {a : Addr} {js : List (Option Nat)} {g : TG} {tt : TT} {te : TE} {σ : St} {H : Hp} {xs : List V} {fin : Addr → Hp → Prop} (zs : List α) (f : α → V) (hS : SqL K H a xs) (hz : zs.length = xs.length) (hn : xs.length ≤ 1000000)
    (hb : ∀ (i : Nat) x z H2 (R : VK) (W' : Hp → Prop), xs[i]? = some x → zs[i]? = some z → L2.Same H H2 → (∀ H3, L2.Same H2 H3 → R (f z) H3) → g x (cσ js σ) H2 fun σ2 H3 => tt σ2 H3 fun b H4 => if b = true then te σ2 H4 R else W' H4)
    (hfin : ∀ D H', H D = none → L2.Same H H' → H' D = some (.lst (zs.map f)) → fin D H') :
    ∀ D, H D = none → ∃ (n : Nat) (W : Nat → Hp → Prop), W 0 (upd H D (.lst [])) ∧ cTurn js g tt te σ (Itl K a) D n W fun H' => fin D H' :=
  comp_sm zs f hz hn (fun i H2 s hi => ⟨xs, xs[i], s.seq hS, List.getElem?_eq_getElem hi⟩) (fun H2 s => ⟨xs, s.seq hS, Nat.le_refl _⟩) (fun i H2 x H3 s hi hy => ⟨hy.1, hy.2 xs (s.seq hS)⟩) hb hfin
end BB
namespace BB
open PySem L2
end BB
namespace BB
open PySem L2
theorem ats_of {H : Hp} : ∀ {ts : List Th} {as : List Addr}, Paired (At H) ts as → Ats H ts as
  | _, _, .nil => .nil
  | _, _, .cons r h => .cons r (ats_of h)
end BB
namespace LAW
open PySem L2 BB
def top (i : Nat) : Stmt := PySem.Challenge.pw_boughbook_k22_trees_turned.main.body.getD i (.Pass ⟨0, 0, 0, 0⟩)
abbrev s_built : Stmt := top 6
theorem sc_built : FnScope ["tops", "done", "top", "many"] ["tops"] (defScope s_built) := ⟨rfl, rfl, rfl, by decide +kernel, rfl, by decide +kernel, by decide +kernel⟩
abbrev s_is_call : Stmt := top 8
theorem sc_is_call : FnScope ["thing"] ["thing"] (defScope s_is_call) := ⟨rfl, rfl, rfl, by decide +kernel, rfl, by decide +kernel, by decide +kernel⟩
abbrev s_called_by : Stmt := top 9
theorem sc_called_by : FnScope ["call"] ["call"] (defScope s_called_by) := ⟨rfl, rfl, rfl, by decide +kernel, rfl, by decide +kernel, by decide +kernel⟩
abbrev s_ins_of : Stmt := top 11
theorem sc_ins_of : FnScope ["book"] ["book"] (defScope s_ins_of) := ⟨rfl, rfl, rfl, by decide +kernel, rfl, by decide +kernel, by decide +kernel⟩
abbrev s_head_of : Stmt := top 12
theorem sc_head_of : FnScope ["book"] ["book"] (defScope s_head_of) := ⟨rfl, rfl, rfl, by decide +kernel, rfl, by decide +kernel, by decide +kernel⟩
abbrev s_rules_of : Stmt := top 13
theorem sc_rules_of : FnScope ["book"] ["book"] (defScope s_rules_of) := ⟨rfl, rfl, rfl, by decide +kernel, rfl, by decide +kernel, by decide +kernel⟩
abbrev s_pattern_of : Stmt := top 14
theorem sc_pattern_of : FnScope ["book", "state", "name", "names"] ["book", "state", "name"] (defScope s_pattern_of) := ⟨rfl, rfl, rfl, by decide +kernel, rfl, by decide +kernel, by decide +kernel⟩
abbrev s_above : Stmt := top 18
theorem sc_above : FnScope ["tree"] ["tree"] (defScope s_above) := ⟨rfl, rfl, rfl, by decide +kernel, rfl, by decide +kernel, by decide +kernel⟩
abbrev s_call_of : Stmt := top 19
theorem sc_call_of : FnScope ["state"] ["state"] (defScope s_call_of) := ⟨rfl, rfl, rfl, by decide +kernel, rfl, by decide +kernel, by decide +kernel⟩
abbrev s_led_on : Stmt := top 20
theorem sc_led_on : FnScope ["book", "call", "knot", "state", "kid", "handed"] ["book", "call", "knot"] (defScope s_led_on) := ⟨rfl, rfl, rfl, by decide +kernel, rfl, by decide +kernel, by decide +kernel⟩
abbrev s_resolved : Stmt := top 21
theorem sc_resolved : FnScope ["book", "part", "knot"] ["book", "part", "knot"] (defScope s_resolved) := ⟨rfl, rfl, rfl, by decide +kernel, rfl, by decide +kernel, by decide +kernel⟩
abbrev s_run : Stmt := top 22
theorem sc_run : FnScope ["book", "head", "tree", "tops", "ahead", "part", "knot", "row"] ["book", "head", "tree"] (defScope s_run) := ⟨rfl, rfl, rfl, by decide +kernel, rfl, by decide +kernel, by decide +kernel⟩
abbrev s_turned : Stmt := top 23
theorem sc_turned : FnScope ["book", "tree"] ["book", "tree"] (defScope s_turned) := ⟨rfl, rfl, rfl, by decide +kernel, rfl, by decide +kernel, by decide +kernel⟩
abbrev s_turned_by : Stmt := top 24
theorem sc_turned_by : FnScope ["book", "state", "tree"] ["book", "state", "tree"] (defScope s_turned_by) := ⟨rfl, rfl, rfl, by decide +kernel, rfl, by decide +kernel, by decide +kernel⟩
abbrev s__law_cell : Stmt := top 26
theorem sc__law_cell : FnScope ["script", "k"] ["script", "k"] (defScope s__law_cell) := ⟨rfl, rfl, rfl, by decide +kernel, rfl, by decide +kernel, by decide +kernel⟩
abbrev s__law_turn : Stmt := top 27
theorem sc__law_turn : FnScope ["cell", "k", "near"] ["cell", "k"] (defScope s__law_turn) := ⟨rfl, rfl, rfl, by decide +kernel, rfl, by decide +kernel, by decide +kernel⟩
abbrev s__law_kinds : Stmt := top 28
theorem sc__law_kinds : FnScope ["cell", "letters", "rest", "size", "more", "stem", "at", "leaf", "turn", "begun", "kinds", "k", "many", "pick", "name"] ["cell", "letters"] (defScope s__law_kinds) := ⟨rfl, rfl, rfl, by decide +kernel, rfl, by decide +kernel, by decide +kernel⟩
abbrev s__law_leaf : Stmt := top 29
theorem sc__law_leaf : FnScope ["kinds", "cell", "leaves"] ["kinds", "cell"] (defScope s__law_leaf) := ⟨rfl, rfl, rfl, by decide +kernel, rfl, by decide +kernel, by decide +kernel⟩
abbrev s__law_pattern : Stmt := top 30
theorem sc__law_pattern : FnScope ["cell", "outs", "states", "kids", "deep", "rest", "kind", "parts", "k"] ["cell", "outs", "states", "kids", "deep"] (defScope s__law_pattern) := ⟨rfl, rfl, rfl, by decide +kernel, rfl, by decide +kernel, by decide +kernel⟩
abbrev s__law_digit : Stmt := top 31
theorem sc__law_digit : FnScope ["left", "many", "digit"] ["left", "many"] (defScope s__law_digit) := ⟨rfl, rfl, rfl, by decide +kernel, rfl, by decide +kernel, by decide +kernel⟩
abbrev s__law_by_digits : Stmt := top 32
theorem sc__law_by_digits : FnScope ["left", "outs", "states", "kids", "deep", "state", "some", "kind", "parts", "k"] ["left", "outs", "states", "kids", "deep"] (defScope s__law_by_digits) := ⟨rfl, rfl, rfl, by decide +kernel, rfl, by decide +kernel, by decide +kernel⟩
abbrev s__law_book_by_digits : Stmt := top 33
theorem sc__law_book_by_digits : FnScope ["cell", "ins", "outs", "states", "deep", "left", "rules", "state", "row", "k"] ["cell", "ins", "outs", "states", "deep"] (defScope s__law_book_by_digits) := ⟨rfl, rfl, rfl, by decide +kernel, rfl, by decide +kernel, by decide +kernel⟩
abbrev s__law_book : Stmt := top 34
theorem sc__law_book : FnScope ["cell", "ins", "outs", "states", "deep", "rules", "state", "row", "k"] ["cell", "ins", "outs", "states", "deep"] (defScope s__law_book) := ⟨rfl, rfl, rfl, by decide +kernel, rfl, by decide +kernel, by decide +kernel⟩
abbrev s__law_knot : Stmt := top 35
theorem sc__law_knot : FnScope ["kind", "kids", "high"] ["kind", "kids"] (defScope s__law_knot) := ⟨rfl, rfl, rfl, by decide +kernel, rfl, by decide +kernel, by decide +kernel⟩
abbrev s__law_tree : Stmt := top 36
theorem sc__law_tree : FnScope ["cells", "ins", "leaf", "wide", "row", "cell", "rest", "kind", "made"] ["cells", "ins"] (defScope s__law_tree) := ⟨rfl, rfl, rfl, by decide +kernel, rfl, by decide +kernel, by decide +kernel⟩
abbrev s__law_size : Stmt := top 37
theorem sc__law_size : FnScope ["pattern", "kids", "sizes"] ["pattern", "kids"] (defScope s__law_size) := ⟨rfl, rfl, rfl, by decide +kernel, rfl, by decide +kernel, by decide +kernel⟩
abbrev s__law_sizes : Stmt := top 38
theorem sc__law_sizes : FnScope ["book", "tree", "names", "kids"] ["book", "tree"] (defScope s__law_sizes) := ⟨rfl, rfl, rfl, by decide +kernel, rfl, by decide +kernel, by decide +kernel⟩
abbrev s__law_made : Stmt := top 39
theorem sc__law_made : FnScope ["book", "pattern", "trees", "tree", "names"] ["book", "pattern", "trees"] (defScope s__law_made) := ⟨rfl, rfl, rfl, by decide +kernel, rfl, by decide +kernel, by decide +kernel⟩
abbrev s__law_wrapped : Stmt := top 40
theorem sc__law_wrapped : FnScope ["pattern", "kind", "leaf", "many", "k", "kids"] ["pattern", "kind", "leaf", "many"] (defScope s__law_wrapped) := ⟨rfl, rfl, rfl, by decide +kernel, rfl, by decide +kernel, by decide +kernel⟩
abbrev s__law_setting : Stmt := top 41
theorem sc__law_setting : FnScope ["script", "most", "deep", "ins", "outs", "cell", "book", "rest", "wide", "leaf", "kind", "rules", "row"] ["script", "most", "deep"] (defScope s__law_setting) := ⟨rfl, rfl, rfl, by decide +kernel, rfl, by decide +kernel, by decide +kernel⟩
abbrev s__law_refusal : Stmt := top 42
theorem sc__law_refusal : FnScope ["book", "tree", "state", "kinds", "e"] ["book", "tree", "state"] (defScope s__law_refusal) := ⟨rfl, rfl, rfl, by decide +kernel, rfl, by decide +kernel, by decide +kernel⟩
abbrev s__law_right : Stmt := top 43
theorem sc__law_right : FnScope ["book", "tree", "state", "size"] ["book", "tree", "state", "size"] (defScope s__law_right) := ⟨rfl, rfl, rfl, by decide +kernel, rfl, by decide +kernel, by decide +kernel⟩
abbrev s_law : Stmt := top 44
theorem sc_law : FnScope ["script", "book", "tree", "sizes", "state"] ["script"] (defScope s_law) := ⟨rfl, rfl, rfl, by decide +kernel, rfl, by decide +kernel, by decide +kernel⟩
set_option genInjectivity false in
set_option genSizeOf false in
structure TX (K : PySem.W.Frag) (mg : Str → Option Value) where
  c_CALL_SIGN : ∃ tk, mg "CALL_SIGN" = some (.str (Str.ofString "?") tk)
  c_MOST_KNOTS : ∃ tk, mg "MOST_KNOTS" = some (.int 2000 tk)
  c_TALLEST : ∃ tk, mg "TALLEST" = some (.int 150 tk)
  e_BookError : Addr
  x_BookError : mg "BookError" = some (.ref e_BookError)
  e_Great : Addr
  x_Great : mg "Great" = some (.ref e_Great)
  e_Many : Addr
  x_Many : mg "Many" = some (.ref e_Many)
  xe_Great : PySem.W.excIn K e_Great [.type "ValueError", .type "Exception", .type "BaseException", .type "object"] "ValueError.__new__" = true
  xg_Great : PySem.W.findIn K (.ref e_Great) "__getattribute__" = some (some (.builtin "BaseException.__getattribute__"))
  xh_Great : PySem.W.findIn K (.ref e_Great) "__getattr__" = some none
  xc_Great : PySem.W.findIn K (.ref e_Great) "__class__" = some (some (.builtin "object.__class__"))
  xo_Great : PySem.W.mroIn K e_Great (.type "object") = some true
  xb_Great : PySem.W.mroIn K e_Great (.type "BaseException") = some true
  hit_Great_BookError : PySem.W.exmOne K (.ref e_Great) (.ref e_BookError) = some true
  kit_Great_Great : PySem.W.kitOne K (.ref e_Great) (.ref e_Great) = some true
  kit_Great_Many : PySem.W.kitOne K (.ref e_Great) (.ref e_Many) = some false
  kit_Great_ValueError : PySem.W.kitOne K (.ref e_Great) (.type "ValueError") = some true
  f_built : Addr
  d_built : FuncData
  F_built : Fun K "built" "built" s_built f_built d_built
  b_built : Binds K d_built ["tops"] []
  m_built : mg "built" = some (.ref f_built)
  f_is_call : Addr
  d_is_call : FuncData
  F_is_call : Fun K "is_call" "is_call" s_is_call f_is_call d_is_call
  b_is_call : Binds K d_is_call ["thing"] []
  m_is_call : mg "is_call" = some (.ref f_is_call)
  f_called_by : Addr
  d_called_by : FuncData
  F_called_by : Fun K "called_by" "called_by" s_called_by f_called_by d_called_by
  b_called_by : Binds K d_called_by ["call"] []
  m_called_by : mg "called_by" = some (.ref f_called_by)
  f_ins_of : Addr
  d_ins_of : FuncData
  F_ins_of : Fun K "ins_of" "ins_of" s_ins_of f_ins_of d_ins_of
  b_ins_of : Binds K d_ins_of ["book"] []
  m_ins_of : mg "ins_of" = some (.ref f_ins_of)
  f_head_of : Addr
  d_head_of : FuncData
  F_head_of : Fun K "head_of" "head_of" s_head_of f_head_of d_head_of
  b_head_of : Binds K d_head_of ["book"] []
  m_head_of : mg "head_of" = some (.ref f_head_of)
  f_rules_of : Addr
  d_rules_of : FuncData
  F_rules_of : Fun K "rules_of" "rules_of" s_rules_of f_rules_of d_rules_of
  b_rules_of : Binds K d_rules_of ["book"] []
  m_rules_of : mg "rules_of" = some (.ref f_rules_of)
  f_pattern_of : Addr
  d_pattern_of : FuncData
  F_pattern_of : Fun K "pattern_of" "pattern_of" s_pattern_of f_pattern_of d_pattern_of
  b_pattern_of : Binds K d_pattern_of ["book", "state", "name"] []
  m_pattern_of : mg "pattern_of" = some (.ref f_pattern_of)
  f_above : Addr
  d_above : FuncData
  F_above : Fun K "above" "above" s_above f_above d_above
  b_above : Binds K d_above ["tree"] []
  m_above : mg "above" = some (.ref f_above)
  f_call_of : Addr
  d_call_of : FuncData
  F_call_of : Fun K "call_of" "call_of" s_call_of f_call_of d_call_of
  b_call_of : Binds K d_call_of ["state"] []
  m_call_of : mg "call_of" = some (.ref f_call_of)
  f_led_on : Addr
  d_led_on : FuncData
  F_led_on : Fun K "led_on" "led_on" s_led_on f_led_on d_led_on
  b_led_on : Binds K d_led_on ["book", "call", "knot"] []
  m_led_on : mg "led_on" = some (.ref f_led_on)
  f_resolved : Addr
  d_resolved : FuncData
  F_resolved : Fun K "resolved" "resolved" s_resolved f_resolved d_resolved
  b_resolved : Binds K d_resolved ["book", "part", "knot"] []
  m_resolved : mg "resolved" = some (.ref f_resolved)
  f_run : Addr
  d_run : FuncData
  F_run : Fun K "run" "run" s_run f_run d_run
  b_run : Binds K d_run ["book", "head", "tree"] []
  m_run : mg "run" = some (.ref f_run)
  f_turned : Addr
  d_turned : FuncData
  F_turned : Fun K "turned" "turned" s_turned f_turned d_turned
  b_turned : Binds K d_turned ["book", "tree"] []
  m_turned : mg "turned" = some (.ref f_turned)
  f_turned_by : Addr
  d_turned_by : FuncData
  F_turned_by : Fun K "turned_by" "turned_by" s_turned_by f_turned_by d_turned_by
  b_turned_by : Binds K d_turned_by ["book", "state", "tree"] []
  m_turned_by : mg "turned_by" = some (.ref f_turned_by)
  f__law_cell : Addr
  d__law_cell : FuncData
  F__law_cell : Fun K "_law_cell" "_law_cell" s__law_cell f__law_cell d__law_cell
  b__law_cell : Binds K d__law_cell ["script", "k"] []
  m__law_cell : mg "_law_cell" = some (.ref f__law_cell)
  f__law_turn : Addr
  d__law_turn : FuncData
  F__law_turn : Fun K "_law_turn" "_law_turn" s__law_turn f__law_turn d__law_turn
  b__law_turn : Binds K d__law_turn ["cell", "k"] []
  m__law_turn : mg "_law_turn" = some (.ref f__law_turn)
  f__law_kinds : Addr
  d__law_kinds : FuncData
  F__law_kinds : Fun K "_law_kinds" "_law_kinds" s__law_kinds f__law_kinds d__law_kinds
  b__law_kinds : Binds K d__law_kinds ["cell", "letters"] []
  m__law_kinds : mg "_law_kinds" = some (.ref f__law_kinds)
  f__law_leaf : Addr
  d__law_leaf : FuncData
  F__law_leaf : Fun K "_law_leaf" "_law_leaf" s__law_leaf f__law_leaf d__law_leaf
  b__law_leaf : Binds K d__law_leaf ["kinds", "cell"] []
  m__law_leaf : mg "_law_leaf" = some (.ref f__law_leaf)
  f__law_pattern : Addr
  d__law_pattern : FuncData
  F__law_pattern : Fun K "_law_pattern" "_law_pattern" s__law_pattern f__law_pattern d__law_pattern
  b__law_pattern : Binds K d__law_pattern ["cell", "outs", "states", "kids", "deep"] []
  m__law_pattern : mg "_law_pattern" = some (.ref f__law_pattern)
  f__law_digit : Addr
  d__law_digit : FuncData
  F__law_digit : Fun K "_law_digit" "_law_digit" s__law_digit f__law_digit d__law_digit
  b__law_digit : Binds K d__law_digit ["left", "many"] []
  m__law_digit : mg "_law_digit" = some (.ref f__law_digit)
  f__law_by_digits : Addr
  d__law_by_digits : FuncData
  F__law_by_digits : Fun K "_law_by_digits" "_law_by_digits" s__law_by_digits f__law_by_digits d__law_by_digits
  b__law_by_digits : Binds K d__law_by_digits ["left", "outs", "states", "kids", "deep"] []
  m__law_by_digits : mg "_law_by_digits" = some (.ref f__law_by_digits)
  f__law_book_by_digits : Addr
  d__law_book_by_digits : FuncData
  F__law_book_by_digits : Fun K "_law_book_by_digits" "_law_book_by_digits" s__law_book_by_digits f__law_book_by_digits d__law_book_by_digits
  b__law_book_by_digits : Binds K d__law_book_by_digits ["cell", "ins", "outs", "states", "deep"] []
  m__law_book_by_digits : mg "_law_book_by_digits" = some (.ref f__law_book_by_digits)
  f__law_book : Addr
  d__law_book : FuncData
  F__law_book : Fun K "_law_book" "_law_book" s__law_book f__law_book d__law_book
  b__law_book : Binds K d__law_book ["cell", "ins", "outs", "states", "deep"] []
  m__law_book : mg "_law_book" = some (.ref f__law_book)
  f__law_knot : Addr
  d__law_knot : FuncData
  F__law_knot : Fun K "_law_knot" "_law_knot" s__law_knot f__law_knot d__law_knot
  b__law_knot : Binds K d__law_knot ["kind", "kids"] []
  m__law_knot : mg "_law_knot" = some (.ref f__law_knot)
  f__law_tree : Addr
  d__law_tree : FuncData
  F__law_tree : Fun K "_law_tree" "_law_tree" s__law_tree f__law_tree d__law_tree
  b__law_tree : Binds K d__law_tree ["cells", "ins"] []
  m__law_tree : mg "_law_tree" = some (.ref f__law_tree)
  f__law_size : Addr
  d__law_size : FuncData
  F__law_size : Fun K "_law_size" "_law_size" s__law_size f__law_size d__law_size
  b__law_size : Binds K d__law_size ["pattern", "kids"] []
  m__law_size : mg "_law_size" = some (.ref f__law_size)
  f__law_sizes : Addr
  d__law_sizes : FuncData
  F__law_sizes : Fun K "_law_sizes" "_law_sizes" s__law_sizes f__law_sizes d__law_sizes
  b__law_sizes : Binds K d__law_sizes ["book", "tree"] []
  m__law_sizes : mg "_law_sizes" = some (.ref f__law_sizes)
  f__law_made : Addr
  d__law_made : FuncData
  F__law_made : Fun K "_law_made" "_law_made" s__law_made f__law_made d__law_made
  b__law_made : Binds K d__law_made ["book", "pattern", "trees"] []
  m__law_made : mg "_law_made" = some (.ref f__law_made)
  f__law_wrapped : Addr
  d__law_wrapped : FuncData
  F__law_wrapped : Fun K "_law_wrapped" "_law_wrapped" s__law_wrapped f__law_wrapped d__law_wrapped
  b__law_wrapped : Binds K d__law_wrapped ["pattern", "kind", "leaf", "many"] []
  m__law_wrapped : mg "_law_wrapped" = some (.ref f__law_wrapped)
  f__law_setting : Addr
  d__law_setting : FuncData
  F__law_setting : Fun K "_law_setting" "_law_setting" s__law_setting f__law_setting d__law_setting
  b__law_setting : Binds K d__law_setting ["script", "most", "deep"] []
  m__law_setting : mg "_law_setting" = some (.ref f__law_setting)
  f__law_refusal : Addr
  d__law_refusal : FuncData
  F__law_refusal : Fun K "_law_refusal" "_law_refusal" s__law_refusal f__law_refusal d__law_refusal
  b__law_refusal : Binds K d__law_refusal ["book", "tree", "state"] []
  m__law_refusal : mg "_law_refusal" = some (.ref f__law_refusal)
  f__law_right : Addr
  d__law_right : FuncData
  F__law_right : Fun K "_law_right" "_law_right" s__law_right f__law_right d__law_right
  b__law_right : Binds K d__law_right ["book", "tree", "state", "size"] []
  m__law_right : mg "_law_right" = some (.ref f__law_right)
  f_law : Addr
  d_law : FuncData
  F_law : Fun K "law" "law" s_law f_law d_law
  b_law : Binds K d_law ["script"] []
  m_law : mg "law" = some (.ref f_law)
  n_ValueError : mg "ValueError" = none
  n_int : mg "int" = none
  n_isinstance : mg "isinstance" = none
  n_len : mg "len" = none
  n_max : mg "max" = none
  n_range : mg "range" = none
  n_reversed : mg "reversed" = none
  n_sum : mg "sum" = none
  n_tuple : mg "tuple" = none
theorem TX.X_Great {K : PySem.W.Frag} {mg : Str → Option Value} (T : TX K mg) : ExcK K T.e_Great := ⟨T.xe_Great, T.xg_Great, T.xh_Great, T.xc_Great, T.xo_Great, T.xb_Great⟩
theorem nd_0 : ([Str.ofString "kind"] : List Str).Nodup := by decide +kernel
theorem nd_1 : ([Str.ofString "number", Str.ofString "done"] : List Str).Nodup := by decide +kernel
theorem nd_2 : ([Str.ofString "kind", Str.ofString "deep"] : List Str).Nodup := by decide +kernel
theorem nd_3 : ([Str.ofString "kid"] : List Str).Nodup := by decide +kernel
theorem nd_4 : ([Str.ofString "part", Str.ofString "kind", Str.ofString "leaf", Str.ofString "many"] : List Str).Nodup := by decide +kernel
theorem nd_5 : ([Str.ofString "pattern", Str.ofString "kind", Str.ofString "leaf", Str.ofString "rest"] : List Str).Nodup := by decide +kernel
theorem nd_6 : ([Str.ofString "kid", Str.ofString "knot", Str.ofString "row"] : List Str).Nodup := by decide +kernel
theorem nd_7 : ([Str.ofString "part", Str.ofString "kids"] : List Str).Nodup := by decide +kernel
theorem nd_8 : ([Str.ofString "size"] : List Str).Nodup := by decide +kernel
theorem nd_9 : ([Str.ofString "kid", Str.ofString "book"] : List Str).Nodup := by decide +kernel
theorem nd_10 : ([Str.ofString "row", Str.ofString "kids", Str.ofString "names", Str.ofString "tree"] : List Str).Nodup := by decide +kernel
theorem nd_11 : ([Str.ofString "part", Str.ofString "book", Str.ofString "trees"] : List Str).Nodup := by decide +kernel
def sp_is_call : Sp := fun vs H Q _ => ∃ (a : Addr) (t : Th), vs = [.ref a] ∧ At H t a ∧ Q (.bl t.isCall) H
section
variable {P : Program} {w : World} {K : PySem.W.Frag} {mg : Str → Option Value} {base : Heap} (T : TX K mg)
theorem ok_is_call : FnOk P w K mg base CX0 1 T.f_is_call T.d_is_call ["thing"] sp_is_call := by
  refine T.F_is_call.ok sc_is_call (fun vs H Q E h => ?_) (fun cdv A outer s H vs Q E hr h => ?_)
  · obtain ⟨a, t, rfl, _⟩ := h
    rfl
  obtain ⟨a, t, rfl, hA, k⟩ := h
  refine ⟨_, (pss_one (ps_ret (pe_cmpR op_eq (pe_ix ix_tup (pv 0) pe_int (fun _ _ => rfl)) (pe_glob (v := .str (Str.ofString "?")) rfl T.c_CALL_SIGN.choose_spec ⟨_, rfl⟩) (nomark _)))), ?_⟩
  cases t with
  | knot n ks =>
    rw [At] at hA
    obtain ⟨hn, as, h1, h2⟩ := hA
    refine ⟨_, rfl, a, _, 0, .str n, rfl, rfl, SqT.of h1, at0, rfl, ?_⟩
    have e : decide (V.str n = V.str (Str.ofString "?")) = false := decide_eq_false (fun z => hn (V.str.inj z))
    rw [e]
    exact k
  | call sn kn =>
    rw [At] at hA
    refine ⟨_, rfl, a, _, 0, .str q, rfl, rfl, SqT.of hA, at0, rfl, ?_⟩
    have e : decide (V.str q = V.str (Str.ofString "?")) = true := decide_eq_true rfl
    rw [e]
    exact k
end
def sp_called_by : Sp := fun vs H Q _ => ∃ (a : Addr) (sn kn : Int), vs = [.ref a] ∧ At H (.call sn kn) a ∧ ∀ p, H p = none → Q (.ref p) (upd H p (.tup [.int sn, .int kn]))
section
variable {P : Program} {w : World} {K : PySem.W.Frag} {mg : Str → Option Value} {base : Heap} (T : TX K mg)
theorem ok_called_by : FnOk P w K mg base CX0 1 T.f_called_by T.d_called_by ["call"] sp_called_by := by
  refine T.F_called_by.ok sc_called_by (fun vs H Q E h => ?_) (fun cdv A outer s H vs Q E hr h => ?_)
  · obtain ⟨a, sn, kn, rfl, _⟩ := h
    rfl
  obtain ⟨a, sn, kn, rfl, hA, k⟩ := h
  refine ⟨_, (pss_one (ps_ret (pe_tup (pa_cons (pe_ix ix_tup (pv 0) pe_int (fun _ _ => rfl)) (pa_cons (pe_ix ix_tup (pv 0) pe_int (fun _ _ => rfl)) pa_nil))))), ?_⟩
  rw [At] at hA
  exact ⟨_, rfl, a, _, 1, _, rfl, rfl, SqT.of hA, at1, _, rfl, a, _, 2, _, rfl, rfl, SqT.of hA, at2, line_le (by show 2 ≤ 1000000; decide), fun p hp => k p hp⟩
end
def sp_ins_of : Sp := fun vs H Q _ => ∃ (b : Addr) (v1 v2 v3 v4 : V), vs = [.ref b] ∧ H b = some (.tup [v1, v2, v3, v4]) ∧ Q v1 H
def sp_rules_of : Sp := fun vs H Q _ => ∃ (b : Addr) (v1 v2 v3 v4 : V), vs = [.ref b] ∧ H b = some (.tup [v1, v2, v3, v4]) ∧ Q v4 H
section
variable {P : Program} {w : World} {K : PySem.W.Frag} {mg : Str → Option Value} {base : Heap} (T : TX K mg)
theorem ok_ins_of : FnOk P w K mg base CX0 1 T.f_ins_of T.d_ins_of ["book"] sp_ins_of := by
  refine T.F_ins_of.ok sc_ins_of (fun vs H Q E h => ?_) (fun cdv A outer s H vs Q E hr h => ?_)
  · obtain ⟨b, v1, v2, v3, v4, rfl, _⟩ := h
    rfl
  obtain ⟨b, v1, v2, v3, v4, rfl, e, q⟩ := h
  refine ⟨_, (pss_one (ps_ret (pe_ix ix_tup (pv 0) pe_int (fun _ _ => rfl)))), ?_⟩
  exact ⟨_, rfl, b, _, 0, v1, rfl, rfl, SqT.of e, at0, q⟩
theorem ok_rules_of : FnOk P w K mg base CX0 1 T.f_rules_of T.d_rules_of ["book"] sp_rules_of := by
  refine T.F_rules_of.ok sc_rules_of (fun vs H Q E h => ?_) (fun cdv A outer s H vs Q E hr h => ?_)
  · obtain ⟨b, v1, v2, v3, v4, rfl, _⟩ := h
    rfl
  obtain ⟨b, v1, v2, v3, v4, rfl, e, q⟩ := h
  refine ⟨_, (pss_one (ps_ret (pe_ix ix_tup (pv 0) pe_int (fun _ _ => rfl)))), ?_⟩
  exact ⟨_, rfl, b, _, 3, v4, rfl, rfl, SqT.of e, atI_nat (j := 3) rfl, q⟩
end
def sp_pattern_of : Sp := fun vs H Q _ => ∃ (b ia ra rowA ta : Addr) (v2 v3 : V) (ias ras tas : List Addr) (ins : List (Str × Int)) (st : Int) (j : Nat) (k : Str × Int), vs = [.ref b, .int st, .str k.1] ∧ H b = some (.tup [.ref ia, v2, v3, .ref ra]) ∧ H ia = some (.tup (ias.map V.ref)) ∧ KsAt H ins ias ∧ GoodN ins ∧ H ra = some (.tup (ras.map V.ref)) ∧ 0 ≤ st ∧ ras[st.toNat]? = some rowA ∧ H rowA = some (.tup (tas.map V.ref)) ∧ ins[j]? = some k ∧ tas[j]? = some ta ∧ ∀ H', L2.Same H H' → Q (.ref ta) H'
section
variable {P : Program} {w : World} {K : PySem.W.Frag} {mg : Str → Option Value} {base : Heap} (T : TX K mg)
theorem ok_pattern_of : FnOk P w K mg base CX0 2 T.f_pattern_of T.d_pattern_of ["book", "state", "name"] sp_pattern_of := by
  refine T.F_pattern_of.ok sc_pattern_of (fun vs H Q E h => ?_) (fun cdv A outer s H vs Q E hr h => ?_)
  · obtain ⟨b, ia, ra, rowA, ta, v2, v3, ias, ras, tas, ins, st, j, k, rfl, _⟩ := h
    rfl
  obtain ⟨b, ia, ra, rowA, ta, v2, v3, ias, ras, tas, ins, st, j, k, rfl, eb, eia, hins, g, era, hst, hrow, erow, hj, hta, q⟩ := h
  refine ⟨_, (pss_cons (ps_setC (i := 3) (N := [Str.ofString "kind"]) (js := [none]) (g := (gName 0)) (tt := tNoTest) (te := (tOp (rIxT K) (tVar 0) (tC (.int 0)))) sc_pattern_of.nd rfl (Or.inl rfl) rfl (cs_mk rfl (by decide +kernel) (by decide +kernel) rfl rfl rfl) (pi_tup (pe_call (ok_ins_of T) (hr.mono (by first | decide | (first | lia | omega))) rfl T.m_ins_of T.F_ins_of.kp T.b_ins_of .nil pass0 (pa_cons (pv 0) pa_nil))) (fun _ _ _ _ _ _ => (pg_name (i := 0) nd_0 rfl (Or.inl rfl))) (gk_name rfl) (fun _ _ _ _ _ _ => pts_nil) (fun _ _ _ _ _ _ => (pe_ix ix_tup (pv 0) pe_int (fun _ _ => rfl))))
      (pss_one (ps_ret (pe_ix ix_tup (pe_ix ix_tup (pe_call (ok_rules_of T) (hr.mono (by first | decide | (first | lia | omega))) rfl T.m_rules_of T.F_rules_of.kp T.b_rules_of .nil pass0 (pa_cons (pv 0) pa_nil)) (pv 1) (fun _ _ => rfl)) (pe_bm PySem.F.plainAttrs_list PySem.F.slot_list_index PySem.F.type_list_index mt_lindex (pv 3) (pa_cons (pv 2) pa_nil)) (fun _ _ => rfl))))), ?_⟩
  have hil : ins.length = ias.length := Paired.length hins
  have hi8 := g.le
  refine ⟨_, rfl, b, _, _, _, _, rfl, eb, ia, rfl, ⟨_, SqT.of eia⟩, comp_sm_tup ins (fun k => V.str k.1) (SqT.of eia) (by rw [List.length_map]; exact hil) (by rw [List.length_map]; (first | lia | omega)) (fun i x z H2 R W' hx hz s2 hR => ?_) (fun D H1 hD s1 e1 => ?_)⟩
  · obtain ⟨ka, rfl, hka⟩ := get_ref hx
    obtain ⟨z', hz', ez⟩ := P2.get' hins hka
    rw [hz] at hz'
    cases hz'
    exact ⟨_, rfl, ka, _, 0, .str z.1, rfl, rfl, SqT.of (s2 _ _ ez), at0, hR H2 (.refl _)⟩
  have en : ins.map (fun k => V.str k.1) = (ins.map (·.1)).map V.str := by rw [List.map_map]; rfl
  rw [en] at e1
  refine ⟨_, rfl, b, _, _, _, _, rfl, s1 _ _ eb, _, rfl, ra, _, st, .ref rowA, rfl, rfl, SqT.of (s1 _ _ era), at_nonneg hst (by rw [List.getElem?_map, hrow]; rfl), _, rfl, .inl ⟨rfl, _, SqL.of e1⟩, _, rfl, ?_⟩
  refine ⟨D, ins.map (·.1), k.1, j, rfl, rfl, SqL.of e1, by rw [List.getElem?_map, hj]; rfl, fun i hi hz => ?_, by rw [List.length_map]; (first | lia | omega), ?_⟩
  · rw [List.getElem?_map] at hz
    obtain ⟨k', hk', e⟩ := Option.map_eq_some_iff.mp hz
    have := g.nd i j k' k hk' hj e
    (first | lia | omega)
  · exact ⟨rowA, _, (j : Int), .ref ta, rfl, rfl, SqT.of (s1 _ _ erow), atI_nat (by rw [List.getElem?_map, hta]; rfl), q H1 s1⟩
end
def sp_head_of : Sp := fun vs H Q _ => ∃ (b : Addr) (v1 v2 v3 v4 : V), vs = [.ref b] ∧ H b = some (.tup [v1, v2, v3, v4]) ∧ Q v3 H
def sp_above : Sp := fun vs H Q _ => ∃ v : V, vs = [v] ∧ ∀ p, H p = none → Q (.ref p) (upd H p (.tup [.str (Str.ofString ""), v]))
def sp_call_of : Sp := fun vs H Q _ => ∃ s : Int, vs = [.int s] ∧ ∀ p, H p = none → Q (.ref p) (upd H p (.tup [.str q, .int s, .int 0]))
section
variable {P : Program} {w : World} {K : PySem.W.Frag} {mg : Str → Option Value} {base : Heap} (T : TX K mg)
theorem ok_head_of : FnOk P w K mg base CX0 1 T.f_head_of T.d_head_of ["book"] sp_head_of := by
  refine T.F_head_of.ok sc_head_of (fun vs H Q E h => ?_) (fun cdv A outer s H vs Q E hr h => ?_)
  · obtain ⟨b, v1, v2, v3, v4, rfl, _⟩ := h
    rfl
  obtain ⟨b, v1, v2, v3, v4, rfl, e, q⟩ := h
  refine ⟨_, (pss_one (ps_ret (pe_ix ix_tup (pv 0) pe_int (fun _ _ => rfl)))), ?_⟩
  exact ⟨_, rfl, b, _, 2, v3, rfl, rfl, SqT.of e, atI_nat (j := 2) rfl, q⟩
theorem ok_above : FnOk P w K mg base CX0 1 T.f_above T.d_above ["tree"] sp_above := by
  refine T.F_above.ok sc_above (fun vs H Q E h => ?_) (fun cdv A outer s H vs Q E hr h => ?_)
  · obtain ⟨v, rfl, _⟩ := h
    rfl
  obtain ⟨v, rfl, q⟩ := h
  refine ⟨_, (pss_one (ps_ret (pe_tup (pa_cons pe_str (pa_cons (pv 0) pa_nil))))), ?_⟩
  exact ⟨_, rfl, line_le (by show 2 ≤ 1000000; decide), fun p hp => q p hp⟩
theorem ok_call_of : FnOk P w K mg base CX0 1 T.f_call_of T.d_call_of ["state"] sp_call_of := by
  refine T.F_call_of.ok sc_call_of (fun vs H Q E h => ?_) (fun cdv A outer s H vs Q E hr h => ?_)
  · obtain ⟨v, rfl, _⟩ := h
    rfl
  obtain ⟨v, rfl, q⟩ := h
  refine ⟨_, (pss_one (ps_ret (pe_tup (pa_cons (pe_glob (v := .str (Str.ofString "?")) rfl T.c_CALL_SIGN.choose_spec ⟨_, rfl⟩) (pa_cons (pv 0) (pa_cons pe_int pa_nil)))))), ?_⟩
  exact ⟨_, rfl, line_le (by show 3 ≤ 1000000; decide), fun p hp => q p hp⟩
end
def sp_led_on : Sp := fun vs H Q _ => ∃ (b ca ka : Addr) (ins outs : List (Str × Int)) (head : Th) (rows : List (List Th)) (s k : Int) (n : Str) (ks : List Th) (p h : Th), vs = [.ref b, .ref ca, .ref ka] ∧ Bk H ins outs head rows b ∧ GoodN ins ∧ At H (.call s k) ca ∧ At H (.knot n ks) ka ∧ Step ins rows s k ks p h ∧ ∀ (r pa ha : Addr) (H' : Hp), L2.Same H H' → H' r = some (.tup [.ref pa, .ref ha]) → At H' p pa → At H' h ha → Q (.ref r) H'
def sp_resolved : Sp := fun vs H Q _ => ∃ (b pa ka : Addr) (ins outs : List (Str × Int)) (head : Th) (rows : List (List Th)) (p k p' k' : Th), vs = [.ref b, .ref pa, .ref ka] ∧ Bk H ins outs head rows b ∧ GoodN ins ∧ At H p pa ∧ At H k ka ∧ Res ins rows p k p' k' ∧ ∀ (r pa ha : Addr) (H' : Hp), L2.Same H H' → H' r = some (.tup [.ref pa, .ref ha]) → At H' p' pa → At H' k' ha → Q (.ref r) H'
section
variable {P : Program} {w : World} {K : PySem.W.Frag} {mg : Str → Option Value} {base : Heap} (T : TX K mg)
theorem ok_led_on : FnOk P w K mg base CX0 3 T.f_led_on T.d_led_on ["book", "call", "knot"] sp_led_on := by
  refine T.F_led_on.ok sc_led_on (fun vs H Q E h => ?_) (fun cdv A outer s H vs Q E hr h => ?_)
  · obtain ⟨b, ca, ka, ins, outs, head, rows, s, k, n, ks, p, h, rfl, _⟩ := h
    rfl
  obtain ⟨b, ca, ka, ins, outs, head, rows, s, k, n, ks, p, h, rfl, hb, g, hc, hk, st, q⟩ := h
  refine ⟨_, (pss_cons (ps_asg (pe_call (ok_called_by T) (hr.mono (by first | decide | (first | lia | omega))) rfl T.m_called_by T.F_called_by.kp T.b_called_by .nil pass0 (pa_cons (pv 1) pa_nil)) (pg_tup rfl (pgs_cons (pg_name (i := 3) sc_led_on.nd rfl (Or.inl rfl)) (pgs_cons (pg_name (i := 4) sc_led_on.nd rfl (Or.inl rfl)) pgs_nil))))
      (pss_cons (ps_set (i := 5) sc_led_on.nd rfl (Or.inl rfl) (pe_ix ix_tup (pv 2) (pe_op op_add (pv 4) pe_int) (fun _ _ => rfl)))
      (pss_one (ps_ret (pe_tup (pa_cons (pe_call (ok_pattern_of T) (hr.mono (by first | decide | (first | lia | omega))) rfl T.m_pattern_of T.F_pattern_of.kp T.b_pattern_of .nil pass0 (pa_cons (pv 0) (pa_cons (pv 3) (pa_cons (pe_ix ix_tup (pv 5) pe_int (fun _ _ => rfl)) pa_nil)))) (pa_cons (pv 5) pa_nil))))))), ?_⟩
  obtain ⟨s0, k0, hh, m, hs, c, j, row, rfl, hj, hrow, hp⟩ := st
  refine ⟨_, rfl, ca, s, k, rfl, hc, fun pr hpr => ?_⟩
  have s1 : L2.Same H (upd H pr (.tup [.int s, .int k])) := same_new hpr _
  have e1 : (upd H pr (.tup [.int s, .int k])) pr = some (.tup [.int s, .int k]) := upd_same
  generalize (upd H pr (.tup [.int s, .int k])) = H1 at s1 e1 ⊢
  refine ⟨pr, _, rfl, SqT.of e1, rfl, _, _, rfl, _, _, rfl, rfl, ?_⟩
  have hk1 := hk.mono (Same.kt s1)
  rw [At] at hk1
  obtain ⟨hnq, as, eka, hats⟩ := hk1
  obtain ⟨ha, hha, hat⟩ : ∃ a, as[k.toNat]? = some a ∧ At H1 (.knot m hs) a := by
    have hl := hats.length
    have hkl := (List.getElem?_eq_some_iff.mp hh).1
    obtain ⟨a, ha⟩ : ∃ a, as[k.toNat]? = some a := ⟨_, List.getElem?_eq_getElem (by (first | lia | omega))⟩
    obtain ⟨t, ht, hat⟩ := hats.get ha
    rw [hh] at ht
    cases ht
    exact ⟨a, ha, hat⟩
  have hidx : atI (V.str n :: as.map V.ref) (k + 1) = some (.ref ha) := at_nonneg (by (first | lia | omega)) (by rw [show (k + 1).toNat = k.toNat + 1 by (first | lia | omega), List.getElem?_cons_succ, List.getElem?_map, hha]; rfl)
  refine ⟨_, rfl, _, rfl, _, _, rfl, rfl, ka, _, _, .ref ha, rfl, rfl, SqT.of eka, hidx, ?_⟩
  have hat' := hat
  rw [At] at hat'
  obtain ⟨hmq, bs, eha, hbs⟩ := hat'
  obtain ⟨ia, oa, hda, ra, ias, oas, ras, bk⟩ := hb.mono (Same.kt s1)
  obtain ⟨rowA, hrowA, tas, erow, htas⟩ := P2.get bk.rw hrow
  obtain ⟨ta, hta, htat⟩ : ∃ a, tas[j]? = some a ∧ At H1 p a := by
    have hl := htas.length
    have hkl := (List.getElem?_eq_some_iff.mp hp).1
    obtain ⟨a, ha⟩ : ∃ a, tas[j]? = some a := ⟨_, List.getElem?_eq_getElem (by (first | lia | omega))⟩
    obtain ⟨t, ht, hat⟩ := htas.get ha
    rw [hp] at ht
    cases ht
    exact ⟨a, ha, hat⟩
  refine ⟨_, rfl, _, rfl, _, rfl, ha, _, 0, .str m, rfl, rfl, SqT.of eha, at0, ?_⟩
  refine ⟨b, ia, ra, rowA, ta, _, _, ias, ras, tas, ins, s, j, (m, c), rfl, bk.bk, bk.inE, bk.inK, g, bk.rl, s0, hrowA, erow, hj, hta, fun H2 s2 => ?_⟩
  refine ⟨_, rfl, line_le (by show 2 ≤ 1000000; decide), fun r hr' => ?_⟩
  have s3 := s2.trans (same_new hr' (.tup [.ref ta, .ref ha]))
  exact q r ta ha _ (s1.trans s3) upd_same (htat.mono (Same.kt s3)) (hat.mono (Same.kt s3))
theorem ok_resolved : FnOk P w K mg base CX0 4 T.f_resolved T.d_resolved ["book", "part", "knot"] sp_resolved := by
  refine T.F_resolved.ok sc_resolved (fun vs H Q E h => ?_) (fun cdv A outer s H vs Q E hr h => ?_)
  · obtain ⟨b, pa, ka, ins, outs, head, rows, p, k, p', k', rfl, _⟩ := h
    rfl
  obtain ⟨b, pa, ka, ins, outs, head, rows, p, k, p', k', rfl, hb, g, hp, hk, hres, q⟩ := h
  refine ⟨_, (pss_cons (ps_while PassesOwn.never (pt_truth (pe_call (ok_is_call T) (hr.mono (by first | decide | (first | lia | omega))) rfl T.m_is_call T.F_is_call.kp T.b_is_call .nil pass0 (pa_cons (pv 1) pa_nil)) (fun _ => rfl)) (pss_one (ps_asg (pe_call (ok_led_on T) (hr.mono (by first | decide | (first | lia | omega))) rfl T.m_led_on T.F_led_on.kp T.b_led_on .nil pass0 (pa_cons (pv 0) (pa_cons (pv 1) (pa_cons (pv 2) pa_nil)))) (pg_tup rfl (pgs_cons (pg_name (i := 1) sc_resolved.nd rfl (Or.inl rfl)) (pgs_cons (pg_name (i := 2) sc_resolved.nd rfl (Or.inl rfl)) pgs_nil))))))
      (pss_one (ps_ret (pe_tup (pa_cons (pv 1) (pa_cons (pv 2) pa_nil)))))), ?_⟩
  refine ⟨fun m σ H2 => ∃ (pa ka : Addr) (p k : Th), σ = [some (.ref b), some (.ref pa), some (.ref ka)] ∧ L2.Same H H2 ∧ At H2 p pa ∧ At H2 k ka ∧ Res ins rows p k p' k' ∧ m = k.tall, ⟨_, pa, ka, p, k, rfl, .refl _, hp, hk, hres, rfl⟩, ?_⟩
  rintro m σ H2 ⟨pa, ka, p, k, rfl, s2, hp, hk, hres, rfl⟩
  refine ⟨_, rfl, pa, p, rfl, hp, _, rfl, ?_⟩
  cases hres with
  | stop n ts _ =>
    refine iteF ?_
    refine ⟨_, rfl, _, rfl, line_le (by show 2 ≤ 1000000; decide), fun r hr' => ?_⟩
    have s3 := same_new hr' (.tup [.ref pa, .ref ka])
    exact q r pa ka _ (s2.trans s3) upd_same (hp.mono (Same.kt s3)) (hk.mono (Same.kt s3))
  | @step s c n ks p1 h1 _ _ st r =>
    refine iteT ?_
    refine ⟨fun σ' H' => ∃ m', m' < (Th.knot n ks).tall ∧ ∃ (pa ka : Addr) (p k : Th), σ' = [some (.ref b), some (.ref pa), some (.ref ka)] ∧ L2.Same H H' ∧ At H' p pa ∧ At H' k ka ∧ Res ins rows p k p' k' ∧ m' = k.tall, fun σ' H' h => h, ?_⟩
    refine ⟨_, rfl, _, rfl, _, rfl, b, pa, ka, ins, outs, head, rows, s, c, n, ks, p1, h1, rfl, hb.mono (Same.kt s2), g, hp, hk, st, fun r' pa' ha' H3 s3 er hpa hha => ?_⟩
    have hm : h1 ∈ ks := by
      obtain ⟨_, _, hh, _⟩ := st
      exact List.mem_of_getElem? hh
    have htl := talls_le hm
    refine ⟨r', _, rfl, SqT.of er, rfl, _, _, rfl, _, _, rfl, rfl, h1.tall, ?_, pa', ha', p1, h1, rfl, s2.trans s3, hpa, hha, r, rfl⟩
    rw [Th.tall]
    (first | lia | omega)
end
def sp_built : Sp := fun vs H Q _ => ∃ (l : Addr) (as : List Addr) (tops : List Top) (u : Th), vs = [.ref l] ∧ H l = some (.lst (as.map V.ref)) ∧ Paired (TopAt H) tops as ∧ tops.length ≤ 100000 ∧ TopsOk tops ∧ (∀ t, Top.th t ∈ tops → t.size ≤ 100000) ∧ bl tops = [u] ∧ ∀ (r : Addr) (H' : Hp), L2.Same H H' → At H' u r → Q (.ref r) H'
section
variable {P : Program} {w : World} {K : PySem.W.Frag} {mg : Str → Option Value} {base : Heap} (T : TX K mg)
theorem ok_built : FnOk P w K mg base CX0 1 T.f_built T.d_built ["tops"] sp_built := by
  refine T.F_built.ok sc_built (fun vs H Q E h => ?_) (fun cdv A outer s H vs Q E hr h => ?_)
  · obtain ⟨l, as, tops, u, rfl, _⟩ := h
    rfl
  obtain ⟨l, as, tops, u, rfl, el, hT, hlen, hok, hbig, hu, k⟩ := h
  refine ⟨_, (pss_cons (ps_set (i := 1) sc_built.nd rfl (Or.inr rfl) (pe_lst pa_nil))
      (pss_cons (ps_for PassesOwn.never rfl (pi_rev rfl T.n_reversed (pv 0)) (pg_tup rfl (pgs_cons (pg_name (i := 2) sc_built.nd rfl (Or.inl rfl)) (pgs_cons (pg_name (i := 3) sc_built.nd rfl (Or.inl rfl)) pgs_nil))) (pss_one (ps_if (pt_cmpR op_gt (pv 3) pe_int (nomark _)) (pss_one (ps_expr (pe_bm PySem.F.plainAttrs_list PySem.F.slot_list_append PySem.F.type_list_append mt_append (pv 1) (pa_cons (pe_op op_catA (pv 2) (pe_callTy call_tuple_of rfl T.n_tuple PyProof.Rows.boot_tuple (pa_cons (pe_comp (N := [Str.ofString "number", Str.ofString "done"]) (js := [none, some 1]) (g := (gName 0)) (tt := tNoTest) (te := (tBM0 K "list" (rPop) (tVar 1))) rfl (cs_mk rfl (by decide +kernel) (by decide +kernel) rfl rfl rfl) (pi_range1 rfl T.n_range (pa_cons (pv 3) pa_nil)) (fun _ _ _ _ _ _ => (pg_name (i := 0) nd_1 rfl (Or.inl rfl))) (gk_name rfl) (fun _ _ _ _ _ _ => pts_nil) (fun _ _ _ _ _ _ => (pe_bm0 PySem.F.plainAttrs_list PySem.F.slot_list_pop PySem.F.type_list_pop mt_pop (pv 1)))) pa_nil))) pa_nil)))) (pss_one (ps_expr (pe_bm PySem.F.plainAttrs_list PySem.F.slot_list_append PySem.F.type_list_append mt_append (pv 1) (pa_cons (pv 2) pa_nil)))))))
      (pss_one (ps_ret (pe_ix ix_list (pv 1) pe_int (fun _ _ => rfl)))))), ?_⟩
  have hal : tops.length = as.length := Paired.length hT
  refine ⟨line_le (by show 0 ≤ 1000000; decide), fun dn hdn => ?_⟩
  refine ⟨_, rfl, l, _, rfl, SqL.of (same_new hdn _ _ _ el), ?_⟩
  refine for_rev (K := K) (a := l) (xs := as.map V.ref) (fun i σ H2 => ∃ c2 c3 ds, σ = [some (.ref l), some (.ref dn), c2, c3] ∧ L2.Same H H2 ∧ H2 dn = some (.lst (ds.map V.ref)) ∧ Ats H2 (bl (tops.drop (tops.length - i))).reverse ds)
    ⟨none, none, [], rfl, same_new hdn _, upd_same, by rw [Nat.sub_zero, List.drop_length]; exact .nil⟩ (fun i σ H2 _ ⟨_, _, _, _, s2, _⟩ => SqL.of (s2 _ _ el)) ?_ ?_
  · rintro i y σ H2 hi hy ⟨c2, c3, ds, rfl, s2, edn, hds⟩
    rw [List.length_map, ← hal] at hi hy
    obtain ⟨pr, rfl, hpr⟩ := get_ref hy
    obtain ⟨x, hx, hxt0⟩ := P2.get' hT hpr
    have hxt := hxt0.mono (Same.kt s2)
    have hn : tops.length - 1 - i < tops.length := by (first | lia | omega)
    have hdr : tops.drop (tops.length - 1 - i) = x :: tops.drop (tops.length - i) := by
      rw [List.drop_eq_getElem_cons hn, show tops.length - 1 - i + 1 = tops.length - i by (first | lia | omega)]
      congr 1
      rw [List.getElem?_eq_getElem hn] at hx
      exact Option.some.inj hx
    have hokx := hok.drop (tops.length - 1 - i)
    rw [hdr] at hokx
    have hnext : tops.length - (i + 1) = tops.length - 1 - i := by (first | lia | omega)
    have hSl : (bl (tops.drop (tops.length - i))).length ≤ 100000 := by
      have := bl_len (tops.drop (tops.length - i))
      rw [List.length_drop] at this
      (first | lia | omega)
    generalize tops.drop (tops.length - i) = S at hdr hds hokx hSl
    obtain ⟨ta, m, xs, epr, eta, hm, hxl, hfin⟩ : ∃ (ta : Addr) (m : Nat) (xs : List V), H2 pr = some (.tup [.ref ta, .int (m : Nat)]) ∧ H2 ta = some (.tup xs) ∧ m ≤ (bl S).length ∧ xs.length ≤ 200000 ∧
        ∀ (H' : Hp) (p : Addr) (ks : List Addr), KT H2 H' → Ats H' ((bl S).take m) ks → H' p = some (.tup (xs ++ ks.map V.ref)) → ∃ u', bl (x :: S) = u' :: (bl S).drop m ∧ At H' u' p := by
      cases x with
      | nm n m =>
        rw [TopsOk] at hokx
        obtain ⟨ta, h1, h2, h3⟩ := hxt
        refine ⟨ta, m, _, h1, h3, hokx.1, (by show 1 ≤ 200000; decide), fun H' p ks kt hk hp => ⟨_, by rw [bl], ?_⟩⟩
        rw [At]
        exact ⟨h2, ks, hp, hk⟩
      | th t =>
        obtain ⟨ta, h1, h2⟩ := hxt
        obtain ⟨n', r', h3⟩ := h2.tup
        have hw := h2.width h3
        have hb' := hbig t (List.mem_of_getElem? hx)
        refine ⟨ta, 0, _, h1, h3, Nat.zero_le _, by (first | lia | omega), fun H' p ks kt hk hp => ⟨t, by rw [bl, List.drop_zero], ?_⟩⟩
        rw [List.take_zero, Ats] at hk
        subst hk
        rw [List.map_nil, List.append_nil] at hp
        exact (h2.mono kt).same (kt _ _ h3) hp
    refine ⟨pr, _, rfl, SqT.of epr, rfl, _, _, rfl, _, _, rfl, rfl, ?_⟩
    have hdl0 := hds.length
    rw [List.length_reverse] at hdl0
    refine if_intro (fun b H' => H' = H2 ∧ b = decide ((0 : Int) < (m : Int))) (fun kk hkk => ?_) (fun H' hb => ?_) (fun H' hb => ?_)
    · exact ⟨_, rfl, _, _, rfl, rfl, _, rfl, hkk _ _ ⟨rfl, rfl⟩⟩
    rotate_left
    · obtain ⟨rfl, hb⟩ := hb
      have hm0 : m = 0 := by
        have := of_decide_eq_false hb.symm
        (first | lia | omega)
      subst hm0
      obtain ⟨u', hu', hat⟩ := hfin H' ta [] (Same.kt (.refl _)) (by rw [List.take_zero]; exact .nil) (by rw [List.map_nil, List.append_nil]; exact eta)
      refine ⟨_, rfl, .inl ⟨rfl, _, SqL.of edn⟩, _, rfl, dn, _, _, rfl, rfl, edn, line_big (by rw [List.length_map]; (first | lia | omega)), ?_⟩
      have k6 : KT H' (upd H' dn (.lst (ds.map V.ref ++ [.ref ta]))) := kt_lst edn
      refine ⟨_, _, ds ++ [ta], rfl, ?_, by rw [upd_same, List.map_append]; rfl, ?_⟩
      · intro b o e
        rw [upd_ne (ne_of_none e hdn)]
        exact s2 b o e
      · rw [hnext, hdr, hu', List.reverse_cons]
        rw [List.drop_zero]
        exact (hds.mono k6).append (.cons (hat.mono k6) .nil)
    obtain ⟨rfl, hb⟩ := hb
    refine ⟨_, rfl, .inl ⟨rfl, _, SqL.of edn⟩, _, rfl, ?_⟩
    refine ⟨_, rfl, (m : Int), rfl, by (first | lia | omega), by (first | lia | omega), fun D hD => ?_⟩
    have hDd : D ≠ dn := fun z => by rw [z, edn] at hD; cases hD
    have hmt : ((m : Nat) : Int).toNat = m := Int.toNat_natCast m
    refine ⟨m, fun j H3 => j ≤ m ∧ (∀ b o, H' b = some o → b ≠ dn → H3 b = some o) ∧ ∃ (ds' ks : List Addr), H3 dn = some (.lst (ds'.map V.ref)) ∧ H3 D = some (.lst (ks.map V.ref)) ∧ Ats H3 ((bl S).drop j).reverse ds' ∧ Ats H3 ((bl S).take j) ks,
      ⟨Nat.zero_le _, fun b o e hb => ?_, ds, [], ?_, ?_, ?_, ?_⟩, ?_⟩
    · rw [upd_ne (ne_of_none e hD)]; exact e
    · rw [upd_ne hDd.symm]; exact edn
    · rw [upd_same]; rfl
    · rw [List.drop_zero]; exact hds.mono (kt_new hD)
    · rw [List.take_zero]; exact .nil
    rintro j H3 ⟨hj, kp, ds', ks, ed, eD, hd1, hd2⟩
    by_cases hjm : j = m
    · left
      refine ⟨(by show ((m : Nat) : Int).toNat ≤ j; rw [hmt, hjm]; exact Nat.le_refl _), ?_⟩
      subst hjm
      have kt23 : KT H' H3 := fun b xs' e => kp b _ e (ne_of e edn (by intro z; cases z))
      refine ⟨D, _, rfl, .inl ⟨SqL.of eD, fun tp htp => ?_⟩⟩
      have s4 : L2.Same H3 (upd H3 tp (.tup (ks.map V.ref))) := same_new htp _
      have e4 : (upd H3 tp (.tup (ks.map V.ref))) tp = some (.tup (ks.map V.ref)) := upd_same
      generalize (upd H3 tp (.tup (ks.map V.ref))) = H4 at s4 e4 ⊢
      have hkl := hd2.length
      refine catT (s4 _ _ (kt23 _ _ eta)) e4 (by rw [List.length_map, hkl, List.length_take]; (first | lia | omega)) fun p H5 s5 e5 => ?_
      have s35 := s4.trans s5
      have ed5 := s35 _ _ ed
      have kt25 := kt23.trans (Same.kt s35)
      obtain ⟨u', hu', hat⟩ := hfin H5 p ks kt25 (hd2.mono (Same.kt s35)) e5
      have hdl := hd1.length
      rw [List.length_reverse, List.length_drop] at hdl
      refine ⟨dn, _, _, rfl, rfl, ed5, line_big (by rw [List.length_map]; (first | lia | omega)), ?_⟩
      have k6 : KT H5 (upd H5 dn (.lst (ds'.map V.ref ++ [.ref p]))) := kt_lst ed5
      refine ⟨_, _, ds' ++ [p], rfl, ?_, by rw [upd_same, List.map_append]; rfl, ?_⟩
      · intro b o e
        have hb : b ≠ dn := ne_of_none e hdn
        rw [upd_ne hb]
        exact s35 _ _ (kp b o (s2 b o e) hb)
      · rw [hnext, hdr, hu', List.reverse_cons]
        exact (hd1.mono ((Same.kt s35).trans k6)).append (.cons (hat.mono k6) .nil)
    · right
      have hj' : j < m := by (first | lia | omega)
      refine ⟨hj', (by show j < ((m : Nat) : Int).toNat; rw [hmt]; exact hj'), ?_⟩
      rintro x' H4 ⟨e1, e2⟩
      have e2' : H4 = H3 := e1
      subst e2'
      have hjr : j < (bl S).length := by (first | lia | omega)
      have edr : (bl S).drop j = (bl S)[j] :: (bl S).drop (j + 1) := List.drop_eq_getElem_cons hjr
      rw [edr, List.reverse_cons] at hd1
      have hne : ds' ≠ [] := by
        intro z
        subst z
        have := hd1.length
        rw [List.length_append] at this
        simp at this
      obtain ⟨ds2, b, rfl⟩ : ∃ ds2 b, ds' = ds2 ++ [b] := ⟨ds'.dropLast, ds'.getLast hne, (List.dropLast_concat_getLast hne).symm⟩
      obtain ⟨Us, x2, e3, hU, hb2⟩ := hd1.snoc_inv
      have e4 := List.append_inj' e3 rfl
      obtain ⟨e5, e6⟩ := e4
      cases e6
      subst e5
      refine ⟨_, rfl, .inl ⟨rfl, _, SqL.of ed⟩, dn, _, .ref b, rfl, rfl, ed, by simp, ?_⟩
      have d1 : ((ds2 ++ [b]).map V.ref).dropLast = ds2.map V.ref := by simp
      rw [d1]
      have eD2 : (upd H4 dn (.lst (ds2.map V.ref))) D = some (.lst (ks.map V.ref)) := by rw [upd_ne hDd]; exact eD
      have k5 : KT H4 (upd (upd H4 dn (.lst (ds2.map V.ref))) D (.lst (ks.map V.ref ++ [.ref b]))) := (kt_lst ed).trans (kt_lst eD2)
      refine ⟨_, eD2, line_big (by rw [List.length_map, hd2.length, List.length_take]; (first | lia | omega)), hj', fun b' o e hb' => ?_, ds2, ks ++ [b], ?_, ?_, hU.mono k5, ?_⟩
      · rw [upd_ne (ne_of_none e hD), upd_ne hb']; exact kp b' o e hb'
      · rw [upd_ne hDd.symm, upd_same]
      · rw [upd_same, List.map_append]; rfl
      · rw [List.take_add_one, List.getElem?_eq_getElem hjr]
        exact (hd2.mono k5).append (.cons (hb2.mono k5) .nil)
  · rintro σ H2 ⟨c2, c3, ds, rfl, s2, edn, hds⟩
    rw [List.length_map, ← hal, Nat.sub_self, List.drop_zero, hu] at hds
    have hds' : Ats H2 [u] ds := hds
    rw [Ats] at hds'
    obtain ⟨b, r, rfl, hb, hr2⟩ := hds'
    exact ⟨_, rfl, dn, _, 0, .ref b, rfl, rfl, SqL.of edn, at0, k b H2 s2 hb⟩
end
def sp__law_cell (K : PySem.W.Frag) : Sp := fun vs H Q _ => ∃ (a : Addr) (ns : List Int) (k : Int), vs = [.ref a, .int k] ∧ SqL K H a (ns.map V.int) ∧ 0 ≤ k ∧ ∀ c : Int, Q (.int c) H
section
variable {P : Program} {w : World} {K : PySem.W.Frag} {mg : Str → Option Value} {base : Heap} (T : TX K mg)
theorem ok__law_cell : FnOk P w K mg base CX0 1 T.f__law_cell T.d__law_cell ["script", "k"] (sp__law_cell K) := by
  refine T.F__law_cell.ok sc__law_cell (fun vs H Q E h => ?_) (fun cdv A outer s H vs Q E hr h => ?_)
  · obtain ⟨a, ns, k, rfl, _⟩ := h
    rfl
  obtain ⟨a, ns, k, rfl, hS, h0, q⟩ := h
  refine ⟨_, (pss_cons (ps_if (pt_cmpR op_lt (pv 1) (pe_callB call_len_seq rfl T.n_len PySem.boot_len (pa_cons (pv 0) pa_nil)) (nomark _)) (pss_one (ps_ret (pe_ix ix_list (pv 0) (pv 1) (fun _ _ => rfl)))) pss_nil)
      (pss_one (ps_ret pe_int))), ?_⟩
  refine ⟨_, rfl, _, rfl, a, _, rfl, .inl hS, _, _, rfl, rfl, _, rfl, ?_⟩
  refine ite2 (fun c => ?_) (fun c => q 0)
  have c' : k < (((ns.map V.int).length : Nat) : Int) := of_decide_eq_true c
  rw [List.length_map] at c'
  exact ⟨_, rfl, _, rfl, a, _, k, _, rfl, rfl, hS, int_at h0 c', q _⟩
end
def sp__law_turn : Sp := fun vs H Q _ => ∃ (c k : Int), vs = [.int c, .int k] ∧ 0 ≤ k ∧ k ≤ 100000 ∧ ∀ r : Int, 0 ≤ r → r < 2147483629 → Q (.int r) H
section
variable {P : Program} {w : World} {K : PySem.W.Frag} {mg : Str → Option Value} {base : Heap} (T : TX K mg)
theorem ok__law_turn : FnOk P w K mg base CX0 1 T.f__law_turn T.d__law_turn ["cell", "k"] sp__law_turn := by
  refine T.F__law_turn.ok sc__law_turn (fun vs H Q E h => ?_) (fun cdv A outer s H vs Q E hr h => ?_)
  · obtain ⟨c, k, rfl, _⟩ := h
    rfl
  obtain ⟨c, k, rfl, h0, h1, q⟩ := h
  refine ⟨_, (pss_cons (ps_set (i := 2) sc__law_turn.nd rfl (Or.inl rfl) (pe_op op_mod (pe_op op_add (pe_op op_add (pe_op op_add (pv 0) (pe_op op_mul (pe_op op_mul pe_int (pv 1)) (pv 1))) (pe_op op_mul pe_int (pv 1))) pe_int) pe_int))
      (pss_cons (ps_set (i := 2) sc__law_turn.nd rfl (Or.inl rfl) (pe_op op_mod (pe_op op_mul (pv 2) (pv 2)) pe_int))
      (pss_one (ps_ret (pe_op op_mod (pe_op op_mul (pe_op op_add (pv 2) (pe_op op_mul pe_int (pe_op op_add (pv 1) pe_int))) pe_int) pe_int))))), ?_⟩
  refine ⟨_, rfl, _, rfl, _, _, rfl, rfl, .inl ⟨by decide, by decide⟩, _, rfl, _, _, rfl, rfl, .inr ⟨by (first | lia | omega), by (first | lia | omega)⟩, _, _, rfl, rfl, _, rfl, _, _, rfl, rfl, .inl ⟨by decide, by decide⟩, _, _, rfl, rfl, _, _, rfl, rfl, _, _, rfl, rfl, (by show (0 : Int) < 2147483647; decide), ?_⟩
  have n0 := Int.emod_nonneg (c + 977 * k * k + 31 * k + 1) (show (2147483647 : Int) ≠ 0 by decide)
  have n1 := Int.emod_lt_of_pos (c + 977 * k * k + 31 * k + 1) (show (0 : Int) < 2147483647 by decide)
  dsimp only
  generalize (c + 977 * k * k + 31 * k + 1) % 2147483647 = near at n0 n1
  refine ⟨_, rfl, _, rfl, _, _, rfl, rfl, .inl ⟨by (first | lia | omega), by (first | lia | omega)⟩, _, _, rfl, rfl, (by show (0 : Int) < 2147483647; decide), ?_⟩
  dsimp only
  generalize near * near % 2147483647 = far
  refine ⟨_, rfl, _, rfl, _, _, rfl, rfl, _, _, rfl, rfl, .inl ⟨by decide, by decide⟩, _, _, rfl, rfl, _, _, rfl, rfl, .inr ⟨by decide, by decide⟩, _, _, rfl, rfl, (by show (0 : Int) < 2147483629; decide), q _ (Int.emod_nonneg _ (by decide)) (Int.emod_lt_of_pos _ (by decide))⟩
end
def sp__law_digit : Sp := fun vs H Q _ => ∃ (l : Addr) (x m : Int), vs = [.ref l, .int m] ∧ H l = some (.lst [.int x]) ∧ 0 < m ∧ m < 1000000 ∧ ∀ d x' : Int, 0 ≤ d → d < m → Q (.int d) (upd H l (.lst [.int x']))
section
variable {P : Program} {w : World} {K : PySem.W.Frag} {mg : Str → Option Value} {base : Heap} (T : TX K mg)
theorem ok__law_digit : FnOk P w K mg base CX0 1 T.f__law_digit T.d__law_digit ["left", "many"] sp__law_digit := by
  refine T.F__law_digit.ok sc__law_digit (fun vs H Q E h => ?_) (fun cdv A outer s H vs Q E hr h => ?_)
  · obtain ⟨l, x, m, rfl, _⟩ := h
    rfl
  obtain ⟨l, x, m, rfl, e, h0, h1, q⟩ := h
  refine ⟨_, (pss_cons (ps_set (i := 2) sc__law_digit.nd rfl (Or.inl rfl) (pe_op op_mod (pe_ix ix_list (pv 0) pe_int (fun _ _ => rfl)) (pv 1)))
      (pss_cons (ps_asg (pe_op op_fdiv (pe_ix ix_list (pv 0) pe_int (fun _ _ => rfl)) (pv 1)) (pg_sub (pv 0) pe_int set_list))
      (pss_one (ps_ret (pv 2))))), ?_⟩
  refine ⟨_, rfl, l, _, 0, .int x, rfl, rfl, SqL.of e, at0, _, rfl, _, _, rfl, rfl, h0, ?_⟩
  refine ⟨_, rfl, l, _, 0, .int x, rfl, rfl, SqL.of e, at0, _, rfl, _, _, rfl, rfl, ⟨h0, by (first | lia | omega)⟩, ?_⟩
  refine ⟨_, rfl, l, _, 0, 0, rfl, rfl, e, rfl, ?_⟩
  exact ⟨_, rfl, q _ _ (Int.emod_nonneg _ (by (first | lia | omega))) (Int.emod_lt_of_pos _ h0)⟩
end
def sp__law_leaf : Sp := fun vs H Q _ => ∃ (kr : Addr) (kas : List Addr) (ks : List (Str × Int)) (cell : Int), vs = [.ref kr, .int cell] ∧ H kr = some (.tup (kas.map V.ref)) ∧ KsAt H ks kas ∧ GoodN ks ∧ ∀ (k0 : Str × Int) (ka : Addr) (H' : Hp), L2.Same H H' → k0 ∈ ks → k0.2 = 0 → KAt H' k0 ka → Q (.ref ka) H'
theorem zip_mem {H : Hp} : ∀ {ks : List (Str × Int)} {as : List Addr}, KsAt H ks as → ∀ z ∈ ks.zip as, z.1 ∈ ks ∧ KAt H z.1 z.2
  | _, _, .nil, z, hz => by simp at hz
  | _, _, .cons (a := k) (b := a) r t, z, hz => by
    rw [List.zip_cons_cons] at hz
    rcases List.mem_cons.mp hz with rfl | hz
    · exact ⟨List.mem_cons_self .., r⟩
    · obtain ⟨h1, h2⟩ := zip_mem t z hz
      exact ⟨List.mem_cons_of_mem _ h1, h2⟩
section
variable {P : Program} {w : World} {K : PySem.W.Frag} {mg : Str → Option Value} {base : Heap} (T : TX K mg)
theorem some_kinds {js : List (Option Nat)} {tt : TT} {te : TE} {σ : St} {H : Hp} {kr : Addr} {kas : List Addr} {ks : List (Str × Int)} {fin : Addr → Hp → Prop} (p : Str × Int → Bool) (e : H kr = some (.tup (kas.map V.ref))) (hks : KsAt H ks kas) (hl : ks.length ≤ 1000) (hp : ∃ k ∈ ks, p k = true)
    (htt : ∀ (z : Str × Int) (ka : Addr) (H2 : Hp) (R : Bool → Hp → Prop), L2.Same H H2 → KAt H2 z ka → R (p z) H2 → tt ((cσ js σ).set 0 (some (.ref ka))) H2 R)
    (hte : ∀ (ka : Addr) (H2 : Hp) (R : VK), R (.ref ka) H2 → te ((cσ js σ).set 0 (some (.ref ka))) H2 R)
    (q : ∀ (D : Addr) (bs : List ((Str × Int) × Addr)) (H' : Hp), H D = none → H' = upd H D (.lst (bs.map fun z => V.ref z.2)) → 1 ≤ bs.length → bs.length ≤ ks.length → (∀ z ∈ bs, z.1 ∈ ks ∧ p z.1 = true ∧ KAt H z.1 z.2) → fin D H') :
    ∀ D, H D = none → ∃ (n : Nat) (W : Nat → Hp → Prop), W 0 (upd H D (.lst [])) ∧ cTurn js (gName 0) tt te σ (Itt K kr) D n W fun H' => fin D H' := by
  have hkl : ks.length = kas.length := Paired.length hks
  have hzl : (ks.zip kas).length = ks.length := by rw [List.length_zip]; (first | lia | omega)
  have hza : ∀ (i : Nat) (x : V) (z : (Str × Int) × Addr), (kas.map V.ref)[i]? = some x → (ks.zip kas)[i]? = some z → x = .ref z.2 := fun i x z hx hz => by
    obtain ⟨ka, rfl, hka⟩ := get_ref hx
    obtain ⟨h1, h2⟩ := List.getElem?_zip_eq_some.mp hz
    rw [hka] at h2
    cases h2
    rfl
  refine comp_fm_tup (ks.zip kas) (fun z => p z.1) (fun z => .ref z.2) (SqT.of e) (by rw [hzl, List.length_map]; exact hkl) (by rw [List.length_map]; (first | lia | omega)) (fun i x z H2 R hx hz sm r => ?_) (fun i x z H2 R hx hz _ sm r => ?_) (fun D hD => ?_)
  · rw [hza i x z hx hz]
    have := (zip_mem hks z (List.mem_of_getElem? hz)).2
    exact htt z.1 z.2 H2 R sm (sm _ _ this) r
  · rw [hza i x z hx hz]
    exact hte z.2 H2 R r
  · refine q D _ _ hD rfl ?_ ?_ ?_
    · obtain ⟨k, hk, hpk⟩ := hp
      obtain ⟨i, hi, rfl⟩ := List.getElem_of_mem hk
      have hz : (ks.zip kas)[i]'(by (first | lia | omega)) ∈ (ks.zip kas).filter fun z => p z.1 := List.mem_filter.mpr ⟨List.getElem_mem _, by rw [List.getElem_zip]; exact hpk⟩
      exact List.length_pos_of_mem hz
    · exact Nat.le_trans (List.length_filter_le _ _) (by (first | lia | omega))
    · intro z hz
      obtain ⟨h1, h2⟩ := List.mem_filter.mp hz
      obtain ⟨h3, h4⟩ := zip_mem hks z h1
      exact ⟨h3, h2, h4⟩
theorem ok__law_leaf : FnOk P w K mg base CX0 1 T.f__law_leaf T.d__law_leaf ["kinds", "cell"] sp__law_leaf := by
  refine T.F__law_leaf.ok sc__law_leaf (fun vs H Q E h => ?_) (fun cdv A outer s H vs Q E hr h => ?_)
  · obtain ⟨kr, kas, ks, cell, rfl, _⟩ := h
    rfl
  obtain ⟨kr, kas, ks, cell, rfl, ek, hks, g, k⟩ := h
  refine ⟨_, (pss_cons (ps_setC (i := 2) (N := [Str.ofString "kind"]) (js := [none]) (g := (gName 0)) (tt := (tTest (tOp (rEq) (tOp (rIxT K) (tVar 0) (tC (.int 1))) (tC (.int 0))))) (te := (tVar 0)) sc__law_leaf.nd rfl (Or.inl rfl) rfl (cs_mk rfl (by decide +kernel) (by decide +kernel) rfl rfl rfl) (pi_tup (pv 0)) (fun _ _ _ _ _ _ => (pg_name (i := 0) nd_0 rfl (Or.inl rfl))) (gk_name rfl) (fun _ _ _ _ _ _ => pts_one (pt_cmpR op_eq (pe_ix ix_tup (pv 0) pe_int (fun _ _ => rfl)) pe_int (nomark _))) (fun _ _ _ _ _ _ => (pv 0)))
      (pss_one (ps_ret (pe_ix ix_list (pv 2) (pe_op op_mod (pv 1) (pe_callB call_len_seq rfl T.n_len PySem.boot_len (pa_cons (pv 2) pa_nil))) (fun _ _ => rfl))))), ?_⟩
  have hk8 := g.le
  obtain ⟨kz, hkz, hkz0⟩ := g.zero
  refine ⟨_, rfl, kr, rfl, ⟨_, SqT.of ek⟩, some_kinds (K := K) (fun k => decide (V.int k.2 = V.int 0)) ek hks (by (first | lia | omega)) ⟨kz, hkz, by rw [hkz0]; rfl⟩ (fun z ka H2 R sm hz r => ?_) (fun ka H2 R r => ⟨_, rfl, r⟩) (fun D bs H' hD e' hb1 hb8 hbs => ?_)⟩
  · exact ⟨_, rfl, ka, _, 1, _, rfl, rfl, SqT.of hz, at1, rfl, _, rfl, r⟩
  subst e'
  have hlm : 0 < ((bs.map fun z => V.ref z.2).length : Int) := by rw [List.length_map]; (first | lia | omega)
  have hy0 := Int.emod_nonneg cell (Int.ne_of_gt hlm)
  have hy1 := Int.emod_lt_of_pos cell hlm
  obtain ⟨z, hz⟩ : ∃ z, bs[(cell % ((bs.map fun z => V.ref z.2).length : Int)).toNat]? = some z := ⟨_, List.getElem?_eq_getElem (by rw [List.length_map] at hy0 hy1 ⊢; (first | lia | omega))⟩
  obtain ⟨g1, g2, g3⟩ := hbs z (List.mem_of_getElem? hz)
  refine ⟨_, rfl, _, rfl, _, rfl, D, _, rfl, .inl (SqL.of upd_same), _, _, rfl, rfl, hlm, D, _, _, .ref z.2, rfl, rfl, SqL.of upd_same, at_nonneg hy0 (by rw [List.getElem?_map, hz]; rfl), ?_⟩
  exact k z.1 z.2 _ (same_new hD _) g1 (V.int.inj (of_decide_eq_true g2)) (same_new hD _ _ _ g3)
end
def sp__law_kinds : Sp := fun vs H Q _ => ∃ (cell : Int) (lt : Str), vs = [.int cell, .str lt] ∧ Picks lt ∧ ∀ (r : Addr) (as : List Addr) (ks : List (Str × Int)) (H' : Hp), L2.Same H H' → H' r = some (.tup (as.map V.ref)) → KsAt H' ks as → GoodN ks → Q (.ref r) H'
theorem nm_len {begun : Bool} {c0 : Nat} {stem : Str} {a' : Nat} {L : List Nat} (hs : stem.length ≤ 7) (ha : a' ≤ stem.length) {p : Nat} (hp : p < 8) : (nmOf begun c0 stem (a' : Int) L p).length ≤ 8 := by
  unfold nmOf
  cases begun with
  | true =>
    simp only [if_true]
    rw [repS_len]
    (first | lia | omega)
  | false =>
    simp only [Bool.false_eq_true, if_false]
    have h1 := (cutS_head (z := stem) ha).2
    have h2 : (cutS stem (some (a' : Int)) none).length = stem.length - a' := by
      show (cutS stem (some (a' : Int)) none).cps.size = _
      rw [← Array.length_toList]
      show ((cutL stem.cps.toList (some (a' : Int)) none).toArray.toList).length = _
      rw [List.toList_toArray]
      unfold cutL
      have hz : stem.cps.toList.length = stem.length := Array.length_toList
      rw [HT.sIx_nat, HT.sIx_none, hz, Nat.min_eq_left ha, List.length_take, List.length_drop, hz]
      (first | lia | omega)
    rw [strLen_append, strLen_append, h1, h2]
    show a' + 1 + (stem.length - a') ≤ 8
    (first | lia | omega)
def KInv (nm : Nat → Str) (turn leaf : Int) (m : Nat) (ks : List (Str × Int)) : Prop :=
  ∀ (j : Nat) (k : Str × Int), ks[j]? = some k → k.1 = nm ((3 * (j : Int) + turn) % (m : Int)).toNat ∧ 0 ≤ k.2 ∧ k.2 ≤ 3 ∧ ((j : Int) = leaf → k.2 = 0)
theorem KInv.good {nm : Nat → Str} {turn leaf : Int} {m : Nat} {ks : List (Str × Int)} (h : KInv nm turn leaf m ks) (h1 : 1 ≤ ks.length) (hm : (m = 4 ∧ ks.length ≤ 4) ∨ (m = 8 ∧ ks.length ≤ 8)) (ht : 0 ≤ turn) (hlf : 0 ≤ leaf ∧ leaf < (ks.length : Int))
    (hlow : ∀ p, p < m → Low (nm p) ∧ (nm p).length ≤ 8) (hinj : ∀ p r, p < m → r < m → nm p = nm r → p = r) : GoodN ks := by
  have hb : ∀ j : Nat, ((3 * (j : Int) + turn) % (m : Int)).toNat < m := fun j => by
    have h0 := Int.emod_nonneg (3 * (j : Int) + turn) (show (m : Int) ≠ 0 by (first | lia | omega))
    have h2 := Int.emod_lt_of_pos (3 * (j : Int) + turn) (show (0 : Int) < (m : Int) by (first | lia | omega))
    (first | lia | omega)
  refine ⟨h1, by (first | lia | omega), fun k hk => ?_, fun k hk => ?_, ?_, fun i j k l hk hl e => ?_⟩
  · obtain ⟨i, hi⟩ := List.mem_iff_getElem?.mp hk
    rw [(h i k hi).1]
    exact hlow _ (hb i)
  · obtain ⟨i, hi⟩ := List.mem_iff_getElem?.mp hk
    exact ⟨(h i k hi).2.1, (h i k hi).2.2.1⟩
  · have hl : leaf.toNat < ks.length := by (first | lia | omega)
    exact ⟨ks[leaf.toNat], List.getElem_mem hl, (h leaf.toNat _ (List.getElem?_eq_getElem hl)).2.2.2 (by (first | lia | omega))⟩
  · have hi' : i < ks.length := (List.getElem?_eq_some_iff.mp hk).1
    have hj' : j < ks.length := (List.getElem?_eq_some_iff.mp hl).1
    rw [(h i k hk).1, (h j l hl).1] at e
    have e2 := hinj _ _ (hb i) (hb j) e
    have h0 := Int.emod_nonneg (3 * (i : Int) + turn) (show (m : Int) ≠ 0 by (first | lia | omega))
    have h2 := Int.emod_nonneg (3 * (j : Int) + turn) (show (m : Int) ≠ 0 by (first | lia | omega))
    rcases hm with ⟨rfl, hm⟩ | ⟨rfl, hm⟩ <;> (first | lia | omega)
section
variable {P : Program} {w : World} {K : PySem.W.Frag} {mg : Str → Option Value} {base : Heap} (T : TX K mg)
set_option maxHeartbeats 4000000 in
theorem ok__law_kinds : FnOk P w K mg base CX0 2 T.f__law_kinds T.d__law_kinds ["cell", "letters"] sp__law_kinds := by
  refine T.F__law_kinds.ok sc__law_kinds (fun vs H Q E h => ?_) (fun cdv A outer s H vs Q E hr h => ?_)
  · obtain ⟨c, lt, rfl, _⟩ := h
    rfl
  obtain ⟨cell, lt, rfl, pk, q⟩ := h
  refine ⟨_, (pss_cons (ps_set (i := 2) sc__law_kinds.nd rfl (Or.inl rfl) (pe_call (ok__law_turn T) (hr.mono (by first | decide | (first | lia | omega))) rfl T.m__law_turn T.F__law_turn.kp T.b__law_turn .nil pass0 (pa_cons (pv 0) (pa_cons pe_int pa_nil))))
      (pss_cons (ps_set (i := 3) sc__law_kinds.nd rfl (Or.inl rfl) (pe_op op_add pe_int (pe_op op_mod (pv 2) pe_int)))
      (pss_cons (ps_if (pt_cmpR op_eq (pe_op op_mod (pe_op op_fdiv (pv 2) pe_int) pe_int) pe_int (nomark _)) (pss_one (ps_set (i := 3) sc__law_kinds.nd rfl (Or.inl rfl) (pe_op op_add pe_int (pe_op op_mod (pe_op op_fdiv (pv 2) pe_int) pe_int)))) pss_nil)
      (pss_cons (ps_set (i := 4) sc__law_kinds.nd rfl (Or.inl rfl) (pe_slice sl_str (pe_op op_add_str (pv 1) pe_str) po_none (po_some (pe_op op_add pe_int (pe_op op_mul pe_int (pe_callTy call_int1 rfl T.n_int PyProof.Rows.boot_int (pa_cons (pe_cmpR op_gt (pv 3) pe_int (nomark _)) pa_nil)))))))
      (pss_cons (ps_set (i := 5) sc__law_kinds.nd rfl (Or.inl rfl) (pe_slice sl_str pe_str po_none (po_some (pe_op op_mod (pe_op op_fdiv (pv 2) pe_int) pe_int))))
      (pss_cons (ps_set (i := 6) sc__law_kinds.nd rfl (Or.inl rfl) (pe_op op_mod (pe_op op_fdiv (pv 2) pe_int) (pe_op op_add (pe_callB call_len_str rfl T.n_len PySem.boot_len (pa_cons (pv 5) pa_nil)) pe_int)))
      (pss_cons (ps_set (i := 7) sc__law_kinds.nd rfl (Or.inl rfl) (pe_op op_mod (pe_op op_fdiv (pv 2) pe_int) (pv 3)))
      (pss_cons (ps_set (i := 8) sc__law_kinds.nd rfl (Or.inl rfl) (pe_op op_mod (pe_op op_fdiv (pv 2) pe_int) pe_int))
      (pss_cons (ps_set (i := 9) sc__law_kinds.nd rfl (Or.inl rfl) (pe_cmpR op_eq (pe_op op_mod (pe_op op_fdiv (pv 2) pe_int) pe_int) pe_int (nomark _)))
      (pss_cons (ps_set (i := 10) sc__law_kinds.nd rfl (Or.inl rfl) (pe_lst pa_nil))
      (pss_cons (ps_for PassesOwn.never rfl (pi_range1 rfl T.n_range (pa_cons (pv 3) pa_nil)) (pg_name (i := 11) sc__law_kinds.nd rfl (Or.inl rfl)) (pss_cons (ps_set (i := 2) sc__law_kinds.nd rfl (Or.inl rfl) (pe_call (ok__law_turn T) (hr.mono (by first | decide | (first | lia | omega))) rfl T.m__law_turn T.F__law_turn.kp T.b__law_turn .nil pass0 (pa_cons (pv 2) (pa_cons (pe_op op_add (pv 11) pe_int) pa_nil))))
      (pss_cons (ps_set (i := 12) sc__law_kinds.nd rfl (Or.inl rfl) (pe_op op_mul (pe_ix ix_list (pe_lst (pa_cons pe_int (pa_cons pe_int (pa_cons pe_int (pa_cons pe_int (pa_cons pe_int pa_nil)))))) (pe_op op_mod (pv 2) pe_int) (fun _ _ => rfl)) (pe_callTy call_int1 rfl T.n_int PyProof.Rows.boot_int (pa_cons (pe_cmpR op_ne (pv 11) (pv 7) (nomark _)) pa_nil))))
      (pss_cons (ps_set (i := 13) sc__law_kinds.nd rfl (Or.inl rfl) (pe_op op_mod (pe_op op_add (pe_op op_mul pe_int (pv 11)) (pv 8)) (pe_callB call_len_str rfl T.n_len PySem.boot_len (pa_cons (pv 4) pa_nil))))
      (pss_cons (ps_set (i := 14) sc__law_kinds.nd rfl (Or.inl rfl) (pe_op op_add_str (pe_op op_add_str (pe_slice sl_str (pv 5) po_none (po_some (pv 6))) (pe_ix ix_str (pv 4) (pv 13) (fun _ _ => rfl))) (pe_slice sl_str (pv 5) (po_some (pv 6)) po_none)))
      (pss_cons (ps_if (pt_truth (pv 9) (fun _ => rfl)) (pss_one (ps_set (i := 14) sc__law_kinds.nd rfl (Or.inl rfl) (pe_op op_mulS (pe_ix ix_str (pv 1) pe_int (fun _ _ => rfl)) (pe_op op_add pe_int (pv 13))))) pss_nil)
      (pss_one (ps_expr (pe_bm PySem.F.plainAttrs_list PySem.F.slot_list_append PySem.F.type_list_append mt_append (pv 10) (pa_cons (pe_tup (pa_cons (pv 14) (pa_cons (pv 12) pa_nil))) pa_nil))))))))))
      (pss_one (ps_ret (pe_callTy call_tuple_of rfl T.n_tuple PyProof.Rows.boot_tuple (pa_cons (pv 10) pa_nil))))))))))))))), ?_⟩
  refine ⟨_, rfl, _, _, rfl, by decide, by decide, fun rest r0 r1 => ?_⟩
  have z0 := Int.emod_nonneg rest (show (4 : Int) ≠ 0 by decide)
  have z1 := Int.emod_lt_of_pos rest (show (0 : Int) < 4 by decide)
  refine ⟨_, rfl, _, _, rfl, rfl, (by show (0 : Int) < 4; decide), _, _, rfl, rfl, ?_⟩
  dsimp only [gName]
  refine seq_intro (fun σ' H' => H = H' ∧ ∃ size : Int, 1 ≤ size ∧ size ≤ 8 ∧ σ' = [some (.int cell), some (.str lt), some (.int rest), some (.int size), none, none, none, none, none, none, none, none, none, none, none]) (fun kk hk => ?_) ?_
  · refine ⟨_, rfl, _, _, rfl, rfl, ⟨by decide, by decide⟩, _, _, rfl, rfl, (by show (0 : Int) < 4; decide), rfl, _, rfl, ?_⟩
    refine ite2 (fun _ => ?_) (fun _ => hk _ _ ⟨rfl, _, by (first | lia | omega), by (first | lia | omega), rfl⟩)
    have y0 := Int.emod_nonneg (rest / 55296) (show (4 : Int) ≠ 0 by decide)
    have y1 := Int.emod_lt_of_pos (rest / 55296) (show (0 : Int) < 4 by decide)
    exact ⟨_, rfl, _, _, rfl, rfl, ⟨by decide, by decide⟩, _, _, rfl, rfl, (by show (0 : Int) < 4; decide), _, _, rfl, rfl, hk _ _ ⟨rfl, _, by (first | lia | omega), by (first | lia | omega), rfl⟩⟩
  rintro σ' H' ⟨rfl, size, sz1, sz8, rfl⟩
  -- more
  have hl4 := pk.len
  have hL8 : (lt ++ aeio).length = 8 := by rw [strLen_append, hl4]; rfl
  obtain ⟨m, hm, hm4⟩ : ∃ m : Nat, (4 + 4 * (if decide ((4 : Int) < size) then 1 else 0) : Int) = (m : Int) ∧ ((m = 4 ∧ size ≤ 4) ∨ (m = 8 ∧ size ≤ 8)) := by
    by_cases c : (4 : Int) < size
    · exact ⟨8, by rw [decide_eq_true c]; rfl, .inr ⟨rfl, sz8⟩⟩
    · exact ⟨4, by rw [decide_eq_false c]; rfl, .inl ⟨rfl, by (first | lia | omega)⟩⟩
  refine ⟨_, rfl, _, _, rfl, rfl, line_le (by rw [hl4]; decide +kernel), _, rfl, _, _, rfl, rfl, .inr ⟨_, rfl, ?_⟩⟩
  refine ⟨_, _, rfl, rfl, .inl ⟨by decide, by decide⟩, _, _, rfl, rfl, _, rfl, _, rfl, line_le (by show (lt ++ aeio).length ≤ 1000000; (first | lia | omega)), ?_⟩
  dsimp only
  rw [hm]
  obtain ⟨cl, cn⟩ := cutS_head (z := lt ++ aeio) (n := m) (by (first | lia | omega))
  have hmore : ∀ p : Nat, p < m → (lt ++ aeio).cps.toList[p]? = some ((lt ++ aeio).cps.toList.getD p 0) ∧ (cutS (lt ++ aeio) none (some (m : Int))).cps.toList[p]? = some ((lt ++ aeio).cps.toList.getD p 0) := fun p hp => by
    have hpl : p < (lt ++ aeio).cps.toList.length := by rw [Array.length_toList]; show p < (lt ++ aeio).length; (first | lia | omega)
    have h1 : (lt ++ aeio).cps.toList[p]? = some ((lt ++ aeio).cps.toList.getD p 0) := by rw [List.getD, List.getElem?_eq_getElem hpl]; rfl
    refine ⟨h1, ?_⟩
    rw [cl, List.getElem?_take_of_lt hp]
    exact h1
  have hmo : cutS (lt ++ Str.ofString "aeio") none (some (m : Int)) = cutS (lt ++ aeio) none (some (m : Int)) := rfl
  rw [hmo]
  generalize cutS (lt ++ aeio) none (some (m : Int)) = more at cn hmore cl ⊢
  clear hmo
  -- stem
  have y0 := Int.emod_nonneg (rest / 4) (show (8 : Int) ≠ 0 by decide)
  have y1 := Int.emod_lt_of_pos (rest / 4) (show (0 : Int) < 8 by decide)
  obtain ⟨sn, hsn⟩ : ∃ n : Nat, rest / 4 % 8 = (n : Int) := ⟨_, (Int.toNat_of_nonneg y0).symm⟩
  refine ⟨_, rfl, _, _, rfl, rfl, ⟨by decide, by decide⟩, _, _, rfl, rfl, (by show (0 : Int) < 8; decide), _, rfl, _, rfl, line_le (by decide +kernel), ?_⟩
  dsimp only
  rw [hsn]
  rw [hsn] at y1
  have hsl : (cutS gum none (some (sn : Int))).length ≤ 7 := by
    rw [(cutS_head (z := gum) (n := sn) (by show sn ≤ 8; (first | lia | omega))).2]
    (first | lia | omega)
  have hsw : Low (cutS gum none (some (sn : Int))) := low_cut gum_low _ _
  have hst : cutS (Str.ofString "gumleafs") none (some (sn : Int)) = cutS gum none (some (sn : Int)) := rfl
  rw [hst]
  generalize cutS gum none (some (sn : Int)) = stem at hsl hsw ⊢
  clear hst
  -- at
  have x0 := Int.emod_nonneg (rest / 32) (show ((stem.length : Int) + 1) ≠ 0 by (first | lia | omega))
  have x1 := Int.emod_lt_of_pos (rest / 32) (show (0 : Int) < (stem.length : Int) + 1 by (first | lia | omega))
  obtain ⟨a', ha'⟩ : ∃ n : Nat, rest / 32 % ((stem.length : Int) + 1) = (n : Int) := ⟨_, (Int.toNat_of_nonneg x0).symm⟩
  refine ⟨_, rfl, _, _, rfl, rfl, ⟨by decide, by decide⟩, _, rfl, _, rfl, line_le (by (first | lia | omega)), _, _, rfl, rfl, _, _, rfl, rfl, (by show (0 : Int) < (stem.length : Int) + 1; (first | lia | omega)), ?_⟩
  dsimp only
  rw [ha']
  have ha'' : a' ≤ stem.length := by (first | lia | omega)
  -- leaf, turn, begun
  have l0 := Int.emod_nonneg (rest / 288) (show size ≠ 0 by (first | lia | omega))
  have l1 := Int.emod_lt_of_pos (rest / 288) (show (0 : Int) < size by (first | lia | omega))
  refine ⟨_, rfl, _, _, rfl, rfl, ⟨by decide, by decide⟩, _, rfl, _, _, rfl, rfl, (by show (0 : Int) < size; (first | lia | omega)), ?_⟩
  dsimp only
  generalize rest / 288 % size = leaf at l0 l1 ⊢
  have t0 := Int.emod_nonneg (rest / 1152) (show (4 : Int) ≠ 0 by decide)
  refine ⟨_, rfl, _, _, rfl, rfl, ⟨by decide, by decide⟩, _, _, rfl, rfl, (by show (0 : Int) < 4; decide), ?_⟩
  dsimp only
  generalize rest / 1152 % 4 = turn at t0 ⊢
  refine ⟨_, rfl, _, _, rfl, rfl, ⟨by decide, by decide⟩, _, _, rfl, rfl, (by show (0 : Int) < 3; decide), rfl, ?_⟩
  dsimp only
  generalize decide (V.int (rest / 4608 % 3) = V.int 1) = bg
  refine ⟨line_le (by show 0 ≤ 1000000; decide), fun kl hkl => ?_⟩
  obtain ⟨c0, hc0⟩ : ∃ c0, lt.cps.toList[0]? = some c0 := ⟨_, List.getElem?_eq_getElem (by rw [Array.length_toList]; show 0 < lt.length; (first | lia | omega))⟩
  have hc0l : 97 ≤ c0 ∧ c0 ≤ 122 := pk.low c0 (by
    show c0 ∈ (lt.cps ++ aeio.cps).toList
    rw [Array.toList_append]
    exact List.mem_append_left _ (List.mem_of_getElem? hc0))
  refine ⟨_, rfl, size, rfl, by (first | lia | omega), by (first | lia | omega), ?_⟩
  refine for_range (n := size.toNat) (fun i σ H2 => ∃ (rest' : Int) (kv mv pv nv : Option V) (as : List Addr) (ks : List (Str × Int)), σ = [some (.int cell), some (.str lt), some (.int rest'), some (.int size), some (.str more), some (.str stem), some (.int (a' : Int)), some (.int leaf), some (.int turn), some (.bl bg), some (.ref kl), kv, mv, pv, nv] ∧ L2.Same H H2 ∧ H2 kl = some (.lst (as.map V.ref)) ∧ KsAt H2 ks as ∧ ks.length = i ∧ KInv (nmOf bg c0 stem (a' : Int) (lt ++ aeio).cps.toList) turn leaf m ks)
    ⟨rest, none, none, none, none, [], [], rfl, same_new hkl _, upd_same, .nil, rfl, fun j k hj => by simp at hj⟩ ?_ ?_
  · rintro i σ H2 hi ⟨rest', kv, mv, pv, nv, as, ks, rfl, sm, e, hp, hkn, hinv⟩
    have hi8 : i < size.toNat := hi
    have hl : ks.length = as.length := Paired.length hp
    refine ⟨_, rfl, _, rfl, _, _, rfl, rfl, _, _, rfl, by (first | lia | omega), by (first | lia | omega), fun rest2 _ _ => ?_⟩
    have v0 := Int.emod_nonneg rest2 (show (5 : Int) ≠ 0 by decide)
    have v1 := Int.emod_lt_of_pos rest2 (show (0 : Int) < 5 by decide)
    obtain ⟨v, hv, hv0, hv3⟩ : ∃ v : Int, atI [V.int 0, V.int 2, V.int 1, V.int 3, V.int 2] (rest2 % 5) = some (.int v) ∧ 0 ≤ v ∧ v ≤ 3 := by
      rcases (by (first | lia | omega) : rest2 % 5 = 0 ∨ rest2 % 5 = 1 ∨ rest2 % 5 = 2 ∨ rest2 % 5 = 3 ∨ rest2 % 5 = 4) with z | z | z | z | z <;> rw [z]
      · exact ⟨0, rfl, by decide, by decide⟩
      · exact ⟨2, rfl, by decide, by decide⟩
      · exact ⟨1, rfl, by decide, by decide⟩
      · exact ⟨3, rfl, by decide, by decide⟩
      · exact ⟨2, rfl, by decide, by decide⟩
    refine ⟨line_le (by show 5 ≤ 1000000; decide), fun ll hll => ?_⟩
    refine ⟨_, rfl, _, _, rfl, rfl, (by show (0 : Int) < 5; decide), ll, _, _, .int v, rfl, rfl, SqL.of upd_same, hv, _, rfl, _, rfl, rfl, .inr ⟨_, rfl, _, _, rfl, rfl, .inl ⟨by (first | lia | omega), by (first | lia | omega)⟩, ?_⟩⟩
    have s3 : L2.Same H2 (upd H2 ll (.lst [.int 0, .int 2, .int 1, .int 3, .int 2])) := same_new hll _
    generalize (upd H2 ll (.lst [.int 0, .int 2, .int 1, .int 3, .int 2])) = H3 at s3 ⊢
    have e3 := s3 _ _ e
    have hp3 := hp.mono (Same.kt s3)
    have sm3 := sm.trans s3
    obtain ⟨mny, hmny, hm0, hm3, hmz⟩ : ∃ mny : Int, (v * (if (!decide (V.int (0 + (i : Int)) = V.int leaf)) = true then 1 else 0) : Int) = mny ∧ 0 ≤ mny ∧ mny ≤ 3 ∧ ((i : Int) = leaf → mny = 0) := by
      refine ⟨_, rfl, ?_⟩
      by_cases c : (i : Int) = leaf
      · have : (!decide (V.int (0 + (i : Int)) = V.int leaf)) = false := by rw [Int.zero_add, c, decide_eq_true rfl]; rfl
        rw [this]
        simp
      · have : (!decide (V.int (0 + (i : Int)) = V.int leaf)) = true := by
          rw [Int.zero_add, decide_eq_false (fun z => c (V.int.inj z))]; rfl
        rw [this]
        simp
        exact ⟨hv0, hv3, fun z => absurd z c⟩
    dsimp only
    rw [hmny]
    have p0 := Int.emod_nonneg (3 * (0 + (i : Int)) + turn) (show (more.length : Int) ≠ 0 by (first | lia | omega))
    have p1 := Int.emod_lt_of_pos (3 * (0 + (i : Int)) + turn) (show (0 : Int) < (more.length : Int) by (first | lia | omega))
    refine ⟨_, rfl, _, _, rfl, rfl, .inl ⟨by decide, by decide⟩, _, rfl, _, _, rfl, rfl, _, rfl, _, rfl, line_le (by (first | lia | omega)), _, _, rfl, rfl, (by show (0 : Int) < (more.length : Int); (first | lia | omega)), ?_⟩
    obtain ⟨pc, hpc⟩ : ∃ n : Nat, (3 * (0 + (i : Int)) + turn) % (more.length : Int) = (n : Int) := ⟨_, (Int.toNat_of_nonneg p0).symm⟩
    have hpc2 : ((3 * (i : Int) + turn) % (m : Int)).toNat = pc := by
      rw [cn, Int.zero_add] at hpc
      (first | lia | omega)
    dsimp only
    rw [hpc]
    have hpm : pc < m := by (first | lia | omega)
    obtain ⟨hL1, hL2⟩ := hmore pc hpm
    have hc1 := (cutS_length stem none (some (a' : Int)))
    have hc2 := (cutS_length stem (some (a' : Int)) none)
    refine ⟨_, rfl, _, rfl, _, rfl, _, rfl, line_le (by (first | lia | omega)), _, rfl, _, rfl, _, _, _, rfl, rfl, line_le (by (first | lia | omega)), atI_nat hL2, _, _, rfl, rfl, line_le (by show (cutS stem none (some (a' : Int))).length + 1 ≤ 1000000; (first | lia | omega)), _, rfl, _, rfl, _, rfl, _, rfl, line_le (by (first | lia | omega)), _, _, rfl, rfl, line_le (by rw [strLen_append]; show (cutS stem none (some (a' : Int))).length + 1 + (cutS stem (some (a' : Int)) none).length ≤ 1000000; (first | lia | omega)), ?_⟩
    dsimp only [gName]
    refine seq_intro (fun σ' H' => H3 = H' ∧ σ' = [some (.int cell), some (.str lt), some (.int rest2), some (.int size), some (.str more), some (.str stem), some (.int (a' : Int)), some (.int leaf), some (.int turn), some (.bl bg), some (.ref kl), some (.int (0 + (i : Int))), some (.int mny), some (.int (pc : Int)), some (.str (nmOf bg c0 stem (a' : Int) (lt ++ aeio).cps.toList pc))]) (fun kk hk => ?_) ?_
    · refine ⟨_, rfl, bg, rfl, ?_⟩
      cases bg with
      | false => exact iteF (hk _ _ ⟨rfl, rfl⟩)
      | true =>
        refine iteT ⟨_, rfl, _, _, c0, rfl, rfl, line_le (by (first | lia | omega)), atI_nat (j := 0) hc0, _, rfl, _, _, rfl, rfl, c0, _, rfl, rfl, by (first | lia | omega), by (first | lia | omega), hk _ _ ⟨rfl, ?_⟩⟩
        have : (1 + (pc : Int)).toNat = 1 + pc := by (first | lia | omega)
        rw [this]
        rfl
    rintro σ' H' ⟨rfl, rfl⟩
    refine ⟨_, rfl, .inl ⟨rfl, _, SqL.of e3⟩, _, rfl, _, rfl, line_le (by show 2 ≤ 1000000; decide), fun p hp' => ?_⟩
    have hpk : kl ≠ p := ne_of_none e3 hp'
    refine ⟨kl, _, _, rfl, rfl, by rw [upd_ne hpk]; exact e3, line_big (by rw [List.length_map]; (first | lia | omega)), ?_⟩
    refine ⟨rest2, _, _, _, _, as ++ [p], ks ++ [(nmOf bg c0 stem (a' : Int) (lt ++ aeio).cps.toList pc, mny)], rfl, same_upd (same_upd sm3 (sm3.free hp')) hkl, ?_, ?_, ?_, ?_⟩
    · rw [upd_same, List.map_append]; rfl
    · have kt : KT H3 (upd (upd H3 p (.tup [.str (nmOf bg c0 stem (a' : Int) (lt ++ aeio).cps.toList pc), .int mny])) kl (.lst (as.map V.ref ++ [.ref p]))) := (kt_new hp').trans (kt_lst (xs := as.map V.ref) (by rw [upd_ne hpk]; exact e3))
      refine P2.append (hp3.mono kt) (.cons ?_ .nil)
      show (upd (upd H3 p _) kl _) p = _
      rw [upd_ne hpk.symm, upd_same]
    · rw [List.length_append, hkn]; rfl
    · intro j k hj
      by_cases hji : j < ks.length
      · rw [List.getElem?_append_left hji] at hj
        exact hinv j k hj
      · rw [List.getElem?_append_right (by (first | lia | omega))] at hj
        have hj0 : j - ks.length = 0 := by
          have := (List.getElem?_eq_some_iff.mp hj).1
          simp at this
          (first | lia | omega)
        rw [hj0] at hj
        cases hj
        have hji' : j = i := by (first | lia | omega)
        subst hji'
        exact ⟨by rw [hpc2], hm0, hm3, hmz⟩
  · rintro σ H2 ⟨rest', kv, mv, pv, nv, as, ks, rfl, sm, e, hp, hkn, hinv⟩
    refine ⟨_, rfl, kl, _, rfl, .inl ⟨SqL.of e, fun tp htp => ?_⟩⟩
    have s3 := same_new htp (.tup (as.map V.ref))
    refine q tp as ks _ (sm.trans s3) upd_same (hp.mono (Same.kt s3)) ?_
    refine hinv.good (by (first | lia | omega)) (by (first | lia | omega)) t0 ⟨l0, by (first | lia | omega)⟩ (fun p hp' => ⟨nm_low hc0l hsw (fun c hc => pk.low c hc) (by rw [Array.length_toList]; show p < (lt ++ aeio).length; (first | lia | omega)), nm_len hsl ha'' (by (first | lia | omega))⟩) (fun p r hp' hr' e' => nm_inj (fun p r c h1 h2 => pk.inj p r c h1 h2) (by rw [Array.length_toList]; show p < (lt ++ aeio).length; (first | lia | omega)) (by rw [Array.length_toList]; show r < (lt ++ aeio).length; (first | lia | omega)) e')
end
def sp__law_pattern (n : Nat) : Sp := fun vs H Q _ => ∃ (cell : Int) (oa : Addr) (oas : List Addr) (outs : List (Str × Int)) (S C deep : Int), vs = [.int cell, .ref oa, .int S, .int C, .int deep] ∧ H oa = some (.tup (oas.map V.ref)) ∧ KsAt H outs oas ∧ GoodN outs ∧ 0 ≤ deep ∧ deep < (n : Int) ∧ ∀ (t : Th) (r : Addr) (H' : Hp), L2.Same H H' → At H' t r → t.FitS outs S C → t.tall ≤ deep.toNat + 1 → Q (.ref r) H'
section
variable {P : Program} {w : World} {K : PySem.W.Frag} {mg : Str → Option Value} {base : Heap} (T : TX K mg)
theorem ok__law_pattern : ∀ n : Nat, FnOk P w K mg base CX0 (n + 2) T.f__law_pattern T.d__law_pattern ["cell", "outs", "states", "kids", "deep"] (sp__law_pattern n)
  | 0 => ⟨fun _ _ _ _ h => by obtain ⟨_, _, _, _, _, _, _, _, _, _, _, h1, h2, _⟩ := h; (first | lia | omega), fun _ _ _ _ _ _ _ _ _ _ _ _ _ h => by obtain ⟨_, _, _, _, _, _, _, _, _, _, _, h1, h2, _⟩ := h; (first | lia | omega)⟩
  | n + 1 => by
    have ih := ok__law_pattern n
    refine T.F__law_pattern.ok sc__law_pattern (fun vs H Q E h => ?_) (fun cdv A outer s H vs Q E hr h => ?_)
    · obtain ⟨cell, oa, oas, outs, S, C, deep, rfl, _⟩ := h
      rfl
    obtain ⟨cell, oa, oas, outs, S, C, deep, rfl, eo, hks, g, d0, d1, q⟩ := h
    refine ⟨_, (pss_cons (ps_set (i := 5) sc__law_pattern.nd rfl (Or.inl rfl) (pe_call (ok__law_turn T) (hr.mono (by first | decide | (first | lia | omega))) rfl T.m__law_turn T.F__law_turn.kp T.b__law_turn .nil pass0 (pa_cons (pv 0) (pa_cons pe_int pa_nil))))
      (pss_cons (ps_if (PW.pt (pw_and (pt_cmpR op_gt (pv 2) pe_int (nomark _)) (pw_and (pt_cmpR op_gt (pv 3) pe_int (nomark _)) (pw_and1 (pt_cmpR op_lt (pe_op op_mod (pv 5) pe_int) pe_int (nomark _)))))) (pss_one (ps_ret (pe_tup (pa_cons pe_str (pa_cons (pe_op op_mod (pe_op op_fdiv (pv 5) pe_int) (pv 2)) (pa_cons (pe_op op_mod (pe_op op_fdiv (pv 5) pe_int) (pv 3)) pa_nil)))))) pss_nil)
      (pss_cons (ps_set (i := 6) sc__law_pattern.nd rfl (Or.inl rfl) (pe_ix ix_tup (pv 1) (pe_op op_mod (pe_op op_fdiv (pv 5) pe_int) (pe_callB call_len_seq rfl T.n_len PySem.boot_len (pa_cons (pv 1) pa_nil))) (fun _ _ => rfl)))
      (pss_cons (ps_if (PW.pt (pw_and (pt_cmpR op_eq (pv 4) pe_int (nomark _)) (pw_and1 (pt_cmpR op_gt (pe_ix ix_tup (pv 6) pe_int (fun _ _ => rfl)) pe_int (nomark _))))) (pss_one (ps_set (i := 6) sc__law_pattern.nd rfl (Or.inl rfl) (pe_call (ok__law_leaf T) (hr.mono (by first | decide | (first | lia | omega))) rfl T.m__law_leaf T.F__law_leaf.kp T.b__law_leaf .nil pass0 (pa_cons (pv 1) (pa_cons (pe_op op_fdiv (pv 5) pe_int) pa_nil))))) pss_nil)
      (pss_cons (ps_set (i := 7) sc__law_pattern.nd rfl (Or.inl rfl) (pe_lst pa_nil))
      (pss_cons (ps_for PassesOwn.never rfl (pi_range1 rfl T.n_range (pa_cons (pe_ix ix_tup (pv 6) pe_int (fun _ _ => rfl)) pa_nil)) (pg_name (i := 8) sc__law_pattern.nd rfl (Or.inl rfl)) (pss_one (ps_expr (pe_bm PySem.F.plainAttrs_list PySem.F.slot_list_append PySem.F.type_list_append mt_append (pv 7) (pa_cons (pe_call (ih) (hr.mono (Nat.le_refl _)) rfl T.m__law_pattern T.F__law_pattern.kp T.b__law_pattern .nil pass0 (pa_cons (pe_call (ok__law_turn T) (hr.mono (by first | decide | (first | lia | omega))) rfl T.m__law_turn T.F__law_turn.kp T.b__law_turn .nil pass0 (pa_cons (pv 5) (pa_cons (pe_op op_add (pv 8) pe_int) pa_nil))) (pa_cons (pv 1) (pa_cons (pv 2) (pa_cons (pv 3) (pa_cons (pe_op op_sub (pv 4) pe_int) pa_nil)))))) pa_nil)))))
      (pss_one (ps_ret (pe_op op_catA (pe_tup (pa_cons (pe_ix ix_tup (pv 6) pe_int (fun _ _ => rfl)) pa_nil)) (pe_callTy call_tuple_of rfl T.n_tuple PyProof.Rows.boot_tuple (pa_cons (pv 7) pa_nil))))))))))), ?_⟩
    have hkl : outs.length = oas.length := Paired.length hks
    have hk8 := g.le
    have hk1 := g.ne
    refine ⟨_, rfl, _, _, rfl, by decide, by decide, fun rest r0 r1 => ?_⟩
    dsimp only [gName]
    refine seq_intro (fun σ' H' => H = H' ∧ σ' = [some (.int cell), some (.ref oa), some (.int S), some (.int C), some (.int deep), some (.int rest), none, none, none]) (fun kk hk => ?_) ?_
    · refine if_intro (fun b H' => H = H' ∧ (b = true → 0 < S ∧ 0 < C)) (fun k2 hk2 => ?_) (fun H' hb => ?_) (fun H' hb => ?_)
      · refine ⟨_, rfl, _, _, rfl, rfl, _, rfl, ?_⟩
        refine ite2 (fun c1 => ?_) (fun c1 => hk2 _ _ ⟨rfl, fun z => by cases z⟩)
        refine ⟨_, rfl, _, _, rfl, rfl, _, rfl, ?_⟩
        refine ite2 (fun c2 => ?_) (fun c2 => hk2 _ _ ⟨rfl, fun z => by cases z⟩)
        exact ⟨_, rfl, _, _, rfl, rfl, (by show (0 : Int) < 5; decide), _, _, rfl, rfl, _, rfl, hk2 _ _ ⟨rfl, fun _ => ⟨of_decide_eq_true c1, of_decide_eq_true c2⟩⟩⟩
      · obtain ⟨rfl, hb⟩ := hb
        obtain ⟨hS, hC⟩ := hb rfl
        refine ⟨_, rfl, _, _, rfl, rfl, ⟨by decide, by decide⟩, _, rfl, _, _, rfl, rfl, hS, _, rfl, _, _, rfl, rfl, ⟨by decide, by decide⟩, _, rfl, _, _, rfl, rfl, hC, line_le (by show 3 ≤ 1000000; decide), fun ca hca => ?_⟩
        refine q (.call (rest / 5 % S) (rest / 97 % C)) ca _ (same_new hca _) ?_ ?_ ?_
        · rw [At]
          exact upd_same
        · rw [Th.FitS]
          exact ⟨Int.emod_nonneg _ (by (first | lia | omega)), Int.emod_lt_of_pos _ hS, Int.emod_nonneg _ (by (first | lia | omega)), Int.emod_lt_of_pos _ hC⟩
        · rw [Th.tall]; (first | lia | omega)
      · obtain ⟨rfl, _⟩ := hb
        exact hk _ _ ⟨rfl, rfl⟩
    rintro σ' H' ⟨rfl, rfl⟩
    have m0 := Int.emod_nonneg (rest / 5) (show ((oas.map V.ref).length : Int) ≠ 0 by rw [List.length_map]; (first | lia | omega))
    have m1 := Int.emod_lt_of_pos (rest / 5) (show (0 : Int) < ((oas.map V.ref).length : Int) by rw [List.length_map]; (first | lia | omega))
    obtain ⟨k0, hk0⟩ : ∃ k0, outs[(rest / 5 % ((oas.map V.ref).length : Int)).toNat]? = some k0 := ⟨_, List.getElem?_eq_getElem (by rw [List.length_map] at m0 m1 ⊢; (first | lia | omega))⟩
    obtain ⟨ka, hka, eka⟩ := P2.get hks hk0
    refine ⟨_, rfl, _, rfl, _, _, rfl, rfl, ⟨by decide, by decide⟩, _, rfl, oa, _, rfl, .inr (SqT.of eo), _, _, rfl, rfl, (by show (0 : Int) < ((oas.map V.ref).length : Int); rw [List.length_map]; (first | lia | omega)), oa, _, _, .ref ka, rfl, rfl, SqT.of eo, at_nonneg m0 (by rw [List.getElem?_map, hka]; rfl), ?_⟩
    dsimp only [gName]
    refine seq_intro (fun σ' H' => ∃ (k0 : Str × Int) (ka : Addr), k0 ∈ outs ∧ KAt H' k0 ka ∧ (deep = 0 → k0.2 = 0) ∧ L2.Same H H' ∧ σ' = [some (.int cell), some (.ref oa), some (.int S), some (.int C), some (.int deep), some (.int rest), some (.ref ka), none, none]) (fun kk hk => ?_) ?_
    · refine if_intro (fun b H' => H = H' ∧ (b = false → deep = 0 → k0.2 = 0)) (fun k2 hk2 => ?_) (fun H' hb => ?_) (fun H' hb => ?_)
      · refine ⟨_, rfl, rfl, _, rfl, ?_⟩
        refine ite2 (fun c1 => ?_) (fun c1 => hk2 _ _ ⟨rfl, fun _ z => absurd (decide_eq_true (congrArg V.int z)) c1⟩)
        refine ⟨_, rfl, ka, _, 1, _, rfl, rfl, SqT.of eka, at1, _, _, rfl, rfl, _, rfl, hk2 _ _ ⟨rfl, fun z _ => ?_⟩⟩
        have z' : ¬ 0 < k0.2 := of_decide_eq_false z
        have := (g.num k0 (List.mem_of_getElem? hk0)).1
        (first | lia | omega)
      · obtain ⟨rfl, _⟩ := hb
        refine ⟨_, rfl, _, rfl, _, _, rfl, rfl, ⟨by decide, by decide⟩, oa, oas, outs, _, rfl, eo, hks, g, fun k1 ka1 H1 s1 hm1 hz1 e1 => ?_⟩
        exact hk _ _ ⟨k1, ka1, hm1, e1, fun _ => hz1, s1, rfl⟩
      · obtain ⟨rfl, hb⟩ := hb
        exact hk _ _ ⟨k0, ka, List.mem_of_getElem? hk0, eka, hb rfl, .refl _, rfl⟩
    rintro σ' H1 ⟨k0, ka, hmem, eka, hz, s1, rfl⟩
    have hnum := g.num k0 hmem
    refine ⟨line_le (by show 0 ≤ 1000000; decide), fun pl hpl => ?_⟩
    have s2 : L2.Same H1 (upd H1 pl (.lst [])) := same_new hpl _
    have e2 : (upd H1 pl (.lst [])) pl = some (.lst []) := upd_same
    generalize (upd H1 pl (.lst [])) = H2 at s2 e2 ⊢
    have eka2 := s2 _ _ eka
    refine ⟨_, rfl, ka, _, 1, _, rfl, rfl, SqT.of eka2, at1, k0.2, rfl, by (first | lia | omega), by (first | lia | omega), ?_⟩
    refine for_range (n := k0.2.toNat) (fun i σ H3 => ∃ (kv : Option V) (bs : List Addr) (ts : List Th), σ = [some (.int cell), some (.ref oa), some (.int S), some (.int C), some (.int deep), some (.int rest), some (.ref ka), some (.ref pl), kv] ∧ (∀ b o, b ≠ pl → H2 b = some o → H3 b = some o) ∧ H3 pl = some (.lst (bs.map V.ref)) ∧ Ats H3 ts bs ∧ ts.length = i ∧ ∀ t ∈ ts, t.FitS outs S C ∧ t.tall ≤ (deep - 1).toNat + 1)
      ⟨none, [], [], rfl, fun _ _ _ e => e, e2, .nil, rfl, fun t ht => by cases ht⟩ ?_ ?_
    · rintro i σ H3 hi ⟨kv, bs, ts, rfl, s3, e3, hts, htl, hall⟩
      have hi3 : i < k0.2.toNat := hi
      have sB : ∀ b o, H b = some o → H3 b = some o := fun b o e => s3 b o (ne_of_none (s1 _ _ e) hpl) (s2 _ _ (s1 _ _ e))
      have hdeep : 1 ≤ deep := by
        by_cases z : deep = 0
        · have := hz z
          (first | lia | omega)
        · (first | lia | omega)
      refine ⟨_, rfl, .inl ⟨rfl, _, SqL.of e3⟩, _, rfl, _, rfl, _, _, rfl, rfl, _, _, rfl, by (first | lia | omega), by (first | lia | omega), fun r2 _ _ => ?_⟩
      refine ⟨_, rfl, _, rfl, _, rfl, _, rfl, _, _, rfl, rfl, r2, oa, oas, outs, S, C, deep - 1, rfl, sB _ _ eo, hks.mono (fun b ys e => sB b _ e), g, by (first | lia | omega), by (first | lia | omega), fun t r H4 s4 hat hfit htall => ?_⟩
      have e4 := s4 _ _ e3
      have hbl : bs.length = ts.length := hts.length
      refine ⟨pl, _, _, rfl, rfl, e4, line_big (by rw [List.length_map]; (first | lia | omega)), ?_⟩
      have kt : KT H4 (upd H4 pl (.lst (bs.map V.ref ++ [.ref r]))) := kt_lst e4
      refine ⟨_, bs ++ [r], ts ++ [t], rfl, fun b o hb e => ?_, ?_, ?_, ?_, ?_⟩
      · rw [upd_ne hb]; exact s4 _ _ (s3 b o hb e)
      · rw [upd_same, List.map_append]; rfl
      · exact (hts.mono ((Same.kt s4).trans kt)).append (.cons (hat.mono kt) .nil)
      · rw [List.length_append, htl]; rfl
      · intro u hu
        rcases List.mem_append.mp hu with hu | hu
        · exact hall u hu
        · rw [List.mem_singleton.mp hu]
          exact ⟨hfit, htall⟩
    · rintro σ H3 ⟨kv, bs, ts, rfl, s3, e3, hts, htl, hall⟩
      have sH : L2.Same H H3 := fun b o e => s3 b o (ne_of_none (s1 _ _ e) hpl) (s2 _ _ (s1 _ _ e))
      have eka3 : H3 ka = some (.tup [.str k0.1, .int k0.2]) := s3 ka _ (ne_of_none eka hpl) eka2
      have hbl : bs.length = ts.length := hts.length
      refine ⟨_, rfl, ka, _, 0, .str k0.1, rfl, rfl, SqT.of eka3, at0, line_le (by show 1 ≤ 1000000; decide), fun p1 hp1 => ?_⟩
      have s4 : L2.Same H3 (upd H3 p1 (.tup [.str k0.1])) := same_new hp1 _
      have e4 : (upd H3 p1 (.tup [.str k0.1])) p1 = some (.tup [.str k0.1]) := upd_same
      generalize (upd H3 p1 (.tup [.str k0.1])) = H4 at s4 e4 ⊢
      refine ⟨_, rfl, pl, _, rfl, .inl ⟨SqL.of (s4 _ _ e3), fun tp htp => ?_⟩⟩
      have s5 : L2.Same H4 (upd H4 tp (.tup (bs.map V.ref))) := same_new htp _
      have e5 : (upd H4 tp (.tup (bs.map V.ref))) tp = some (.tup (bs.map V.ref)) := upd_same
      generalize (upd H4 tp (.tup (bs.map V.ref))) = H5 at s5 e5 ⊢
      refine catT (s5 _ _ e4) e5 (by rw [List.length_map]; show 1 + bs.length ≤ 1000000; (first | lia | omega)) fun p H6 s6 e6 => ?_
      have hlow := (g.low k0 hmem).1
      refine q (.knot k0.1 ts) p H6 (sH.trans (s4.trans (s5.trans s6))) ?_ ?_ ?_
      · rw [At]
        exact ⟨low_q hlow, bs, e6, hts.mono (Same.kt (s4.trans (s5.trans s6)))⟩
      · rw [Th.FitS]
        refine ⟨?_, FitSs.of fun t ht => (hall t ht).1⟩
        have : (k0.1, (ts.length : Int)) = k0 := by
          rw [htl]
          exact Prod.ext rfl (by show ((k0.2.toNat : Nat) : Int) = k0.2; (first | lia | omega))
        rw [this]
        exact hmem
      · rw [Th.tall]
        by_cases z : deep = 0
        · have hk2 := hz z
          have : ts = [] := List.length_eq_zero_iff.mp (by (first | lia | omega))
          subst this
          rw [talls]
          (first | lia | omega)
        · have := talls_all (n := (deep - 1).toNat + 1) fun t ht => (hall t ht).2
          (first | lia | omega)
end
def sp__law_by_digits (n : Nat) : Sp := fun vs H Q _ => ∃ (l : Addr) (x : Int) (oa : Addr) (oas : List Addr) (outs : List (Str × Int)) (S C deep : Int), vs = [.ref l, .ref oa, .int S, .int C, .int deep] ∧ H l = some (.lst [.int x]) ∧ H oa = some (.tup (oas.map V.ref)) ∧ KsAt H outs oas ∧ GoodN outs ∧ S < 1000000 ∧ C < 1000000 ∧ 0 ≤ deep ∧ deep < (n : Int) ∧ ∀ (t : Th) (r : Addr) (x' : Int) (H' : Hp), SameB l H H' → H' l = some (.lst [.int x']) → At H' t r → t.FitS outs S C → t.tall ≤ deep.toNat + 1 → Q (.ref r) H'
section
variable {P : Program} {w : World} {K : PySem.W.Frag} {mg : Str → Option Value} {base : Heap} (T : TX K mg)
set_option maxHeartbeats 2000000 in
theorem ok__law_by_digits : ∀ n : Nat, FnOk P w K mg base CX0 (n + 2) T.f__law_by_digits T.d__law_by_digits ["left", "outs", "states", "kids", "deep"] (sp__law_by_digits n)
  | 0 => ⟨fun _ _ _ _ h => by obtain ⟨_, _, _, _, _, _, _, _, _, _, _, _, _, _, _, h1, h2, _⟩ := h; (first | lia | omega), fun _ _ _ _ _ _ _ _ _ _ _ _ _ h => by obtain ⟨_, _, _, _, _, _, _, _, _, _, _, _, _, _, _, h1, h2, _⟩ := h; (first | lia | omega)⟩
  | n + 1 => by
    have ih := ok__law_by_digits n
    refine T.F__law_by_digits.ok sc__law_by_digits (fun vs H Q E h => ?_) (fun cdv A outer s H vs Q E hr h => ?_)
    · obtain ⟨l, x, oa, oas, outs, S, C, deep, rfl, _⟩ := h
      rfl
    obtain ⟨l, x, oa, oas, outs, S, C, deep, rfl, el, eo, hks, g, hSm, hCm, d0, d1, q⟩ := h
    refine ⟨_, (pss_cons (ps_if (PW.pt (pw_and (pt_cmpR op_gt (pv 2) pe_int (nomark _)) (pw_and (pt_cmpR op_gt (pv 3) pe_int (nomark _)) (pw_and1 (pt_cmpR op_eq (pe_call (ok__law_digit T) (hr.mono (by first | decide | (first | lia | omega))) rfl T.m__law_digit T.F__law_digit.kp T.b__law_digit .nil pass0 (pa_cons (pv 0) (pa_cons pe_int pa_nil))) pe_int (nomark _)))))) (pss_cons (ps_set (i := 5) sc__law_by_digits.nd rfl (Or.inl rfl) (pe_call (ok__law_digit T) (hr.mono (by first | decide | (first | lia | omega))) rfl T.m__law_digit T.F__law_digit.kp T.b__law_digit .nil pass0 (pa_cons (pv 0) (pa_cons (pv 2) pa_nil))))
      (pss_one (ps_ret (pe_tup (pa_cons pe_str (pa_cons (pv 5) (pa_cons (pe_call (ok__law_digit T) (hr.mono (by first | decide | (first | lia | omega))) rfl T.m__law_digit T.F__law_digit.kp T.b__law_digit .nil pass0 (pa_cons (pv 0) (pa_cons (pv 3) pa_nil))) pa_nil))))))) pss_nil)
      (pss_cons (ps_setC (i := 6) (N := [Str.ofString "kind", Str.ofString "deep"]) (js := [none, some 4]) (g := (gName 0)) (tt := (tOr (tTest (tOp (rEq) (tOp (rIxT K) (tVar 0) (tC (.int 1))) (tC (.int 0)))) (tTest (tOp (rI0 fun i j => .bl (decide (j < i))) (tVar 1) (tC (.int 0)))))) (te := (tVar 0)) sc__law_by_digits.nd rfl (Or.inl rfl) rfl (cs_mk rfl (by decide +kernel) (by decide +kernel) rfl rfl rfl) (pi_tup (pv 1)) (fun _ _ _ _ _ _ => (pg_name (i := 0) nd_2 rfl (Or.inl rfl))) (gk_name rfl) (fun _ _ _ _ _ _ => pts_one (PW.pt (pw_or (pt_cmpR op_eq (pe_ix ix_tup (pv 0) pe_int (fun _ _ => rfl)) pe_int (nomark _)) (pw_or1 (pt_cmpR op_gt (pv 1) pe_int (nomark _)))))) (fun _ _ _ _ _ _ => (pv 0)))
      (pss_cons (ps_set (i := 7) sc__law_by_digits.nd rfl (Or.inl rfl) (pe_ix ix_list (pv 6) (pe_call (ok__law_digit T) (hr.mono (by first | decide | (first | lia | omega))) rfl T.m__law_digit T.F__law_digit.kp T.b__law_digit .nil pass0 (pa_cons (pv 0) (pa_cons (pe_callB call_len_seq rfl T.n_len PySem.boot_len (pa_cons (pv 6) pa_nil)) pa_nil))) (fun _ _ => rfl)))
      (pss_cons (ps_set (i := 8) sc__law_by_digits.nd rfl (Or.inl rfl) (pe_lst pa_nil))
      (pss_cons (ps_for PassesOwn.never rfl (pi_range1 rfl T.n_range (pa_cons (pe_ix ix_tup (pv 7) pe_int (fun _ _ => rfl)) pa_nil)) (pg_name (i := 9) sc__law_by_digits.nd rfl (Or.inl rfl)) (pss_one (ps_expr (pe_bm PySem.F.plainAttrs_list PySem.F.slot_list_append PySem.F.type_list_append mt_append (pv 8) (pa_cons (pe_call (ih) (hr.mono (Nat.le_refl _)) rfl T.m__law_by_digits T.F__law_by_digits.kp T.b__law_by_digits .nil pass0 (pa_cons (pv 0) (pa_cons (pv 1) (pa_cons (pv 2) (pa_cons (pv 3) (pa_cons (pe_op op_sub (pv 4) pe_int) pa_nil)))))) pa_nil)))))
      (pss_one (ps_ret (pe_op op_catA (pe_tup (pa_cons (pe_ix ix_tup (pv 7) pe_int (fun _ _ => rfl)) pa_nil)) (pe_callTy call_tuple_of rfl T.n_tuple PyProof.Rows.boot_tuple (pa_cons (pv 8) pa_nil)))))))))), ?_⟩
    have hkl : outs.length = oas.length := Paired.length hks
    have hk8 := g.le
    have hk1 := g.ne
    refine seq_intro (fun σ' H' => (∃ x', SameB l H H' ∧ H' l = some (.lst [.int x'])) ∧ σ' = [some (.ref l), some (.ref oa), some (.int S), some (.int C), some (.int deep), none, none, none, none, none]) (fun kk hk => ?_) ?_
    · refine if_intro (fun b H' => (∃ x', SameB l H H' ∧ H' l = some (.lst [.int x'])) ∧ (b = true → 0 < S ∧ 0 < C)) (fun k2 hk2 => ?_) (fun H' hb => ?_) (fun H' hb => ?_)
      · refine ⟨_, rfl, _, _, rfl, rfl, _, rfl, ?_⟩
        refine ite2 (fun c1 => ?_) (fun c1 => hk2 _ _ ⟨⟨x, .refl, el⟩, fun z => by cases z⟩)
        refine ⟨_, rfl, _, _, rfl, rfl, _, rfl, ?_⟩
        refine ite2 (fun c2 => ?_) (fun c2 => hk2 _ _ ⟨⟨x, .refl, el⟩, fun z => by cases z⟩)
        exact ⟨_, rfl, l, x, _, rfl, el, by decide, by decide, fun d x' _ _ => ⟨rfl, _, rfl, hk2 _ _ ⟨⟨x', .set, upd_same⟩, fun _ => ⟨of_decide_eq_true c1, of_decide_eq_true c2⟩⟩⟩⟩
      · obtain ⟨⟨x1, s1, e1⟩, hb⟩ := hb
        obtain ⟨hS, hC⟩ := hb rfl
        refine ⟨_, rfl, _, rfl, l, x1, _, rfl, e1, hS, hSm, fun d x2 d0' d1' => ?_⟩
        refine ⟨_, rfl, _, rfl, _, rfl, l, x2, _, rfl, upd_same, hC, hCm, fun c x3 c0' c1' => ?_⟩
        refine ⟨line_le (by show 3 ≤ 1000000; decide), fun ca hca => ?_⟩
        have hcl : l ≠ ca := fun z => by rw [← z, upd_same] at hca; cases hca
        refine q (.call d c) ca x3 _ (s1.trans (SameB.set.trans (SameB.set.trans (.of (same_new hca _))))) (by rw [upd_ne hcl]; exact upd_same) ?_ ?_ ?_
        · rw [At]
          exact upd_same
        · rw [Th.FitS]
          exact ⟨d0', d1', c0', c1'⟩
        · rw [Th.tall]; (first | lia | omega)
      · obtain ⟨h1, _⟩ := hb
        exact hk _ _ ⟨h1, rfl⟩
    rintro σ' H1 ⟨⟨x1, s1, e1⟩, rfl⟩
    have eo1 : H1 oa = some (.tup (oas.map V.ref)) := s1 _ _ (ne_of eo el (by intro z; cases z)) eo
    have kt1 : KT H H1 := s1.kt el
    have hks1 := hks.mono kt1
    obtain ⟨kz, hkz, hkz0⟩ := g.zero
    refine ⟨_, rfl, oa, rfl, ⟨_, SqT.of eo1⟩, some_kinds (K := K) (fun k => decide (V.int k.2 = V.int 0) || decide (0 < deep)) eo1 hks1 (by (first | lia | omega)) ⟨kz, hkz, by rw [hkz0]; rfl⟩ (fun z ka H2 R sm hz r => ?_) (fun ka H2 R r => ⟨_, rfl, r⟩) (fun D bs H2 hD e' hb1 hb8 hbs => ?_)⟩
    · refine ⟨_, rfl, ka, _, 1, _, rfl, rfl, SqT.of hz, at1, rfl, _, rfl, ?_⟩
      refine ite2 (fun c => ?_) (fun c => ?_)
      · rw [c] at r
        exact r
      · rw [Bool.eq_false_iff.mpr c] at r
        exact ⟨_, rfl, _, _, rfl, rfl, _, rfl, r⟩
    have s2 : L2.Same H1 H2 := by rw [e']; exact same_new hD _
    have eD : H2 D = some (.lst (bs.map fun z => V.ref z.2)) := by rw [e']; exact upd_same
    have hDl : D ≠ l := fun z => by rw [z, e1] at hD; cases hD
    have el2 := s2 _ _ e1
    clear e'
    have hlm : 0 < ((bs.map fun z => V.ref z.2).length : Int) := by rw [List.length_map]; (first | lia | omega)
    refine ⟨_, rfl, _, rfl, _, rfl, D, _, rfl, .inl (SqL.of eD), l, x1, _, rfl, el2, hlm, (by rw [List.length_map]; (first | lia | omega)), fun d x2 d0' d1' => ?_⟩
    have s3 : SameB l H2 (upd H2 l (.lst [.int x2])) := .set
    have el3 : (upd H2 l (.lst [.int x2])) l = some (.lst [.int x2]) := upd_same
    generalize (upd H2 l (.lst [.int x2])) = H3 at s3 el3 ⊢
    obtain ⟨z, hz⟩ : ∃ z, bs[d.toNat]? = some z := ⟨_, List.getElem?_eq_getElem (by rw [List.length_map] at d1'; (first | lia | omega))⟩
    obtain ⟨hmem, gp, eka⟩ := hbs z (List.mem_of_getElem? hz)
    obtain ⟨k0, ka⟩ := z
    dsimp only at hmem gp eka hz
    have kt3 : KT H2 H3 := s3.kt el2
    have eka3 : H3 ka = some (.tup [.str k0.1, .int k0.2]) := kt3 _ _ (s2 _ _ eka)
    have s13 : SameB l H H3 := s1.trans ((SameB.of s2).trans s3)
    have eo3 : H3 oa = some (.tup (oas.map V.ref)) := kt3 _ _ (s2 _ _ eo1)
    have hks3 := hks1.mono ((Same.kt s2).trans kt3)
    have hz0 : deep = 0 → k0.2 = 0 := fun z => by
      rw [z] at gp
      have : decide (V.int k0.2 = V.int 0) = true := by simpa using gp
      exact V.int.inj (of_decide_eq_true this)
    refine ⟨D, _, d, .ref ka, rfl, rfl, SqL.of (s3 _ _ hDl eD), at_nonneg d0' (by rw [List.getElem?_map, hz]; rfl), ?_⟩
    have hnum := g.num k0 hmem
    refine ⟨line_le (by show 0 ≤ 1000000; decide), fun pl hpl => ?_⟩
    have hpl' : pl ≠ l := fun z => by rw [z, el3] at hpl; cases hpl
    have s4 : L2.Same H3 (upd H3 pl (.lst [])) := same_new hpl _
    have e4 : (upd H3 pl (.lst [])) pl = some (.lst []) := upd_same
    generalize (upd H3 pl (.lst [])) = H4 at s4 e4 ⊢
    have eka4 := s4 _ _ eka3
    have el4 := s4 _ _ el3
    have eo4 := s4 _ _ eo3
    refine ⟨_, rfl, ka, _, 1, _, rfl, rfl, SqT.of eka4, at1, k0.2, rfl, by (first | lia | omega), by (first | lia | omega), ?_⟩
    refine for_range (n := k0.2.toNat) (fun i σ H5 => ∃ (kv : Option V) (bs : List Addr) (ts : List Th) (x' : Int), σ = [some (.ref l), some (.ref oa), some (.int S), some (.int C), some (.int deep), none, some (.ref D), some (.ref ka), some (.ref pl), kv] ∧ (∀ b o, b ≠ pl → b ≠ l → H4 b = some o → H5 b = some o) ∧ H5 l = some (.lst [.int x']) ∧ H5 pl = some (.lst (bs.map V.ref)) ∧ Ats H5 ts bs ∧ ts.length = i ∧ ∀ t ∈ ts, t.FitS outs S C ∧ t.tall ≤ (deep - 1).toNat + 1)
      ⟨none, [], [], x2, rfl, fun _ _ _ _ e => e, el4, e4, .nil, rfl, fun t ht => by cases ht⟩ ?_ ?_
    · rintro i σ H5 hi ⟨kv, bs', ts, x', rfl, s5, el5, e5, hts, htl, hall⟩
      have hi3 : i < k0.2.toNat := hi
      have kt5 : KT H4 H5 := fun b ys e => s5 b _ (ne_of e e4 (by intro z; cases z)) (ne_of e el4 (by intro z; cases z)) e
      have hdeep : 1 ≤ deep := by
        by_cases z : deep = 0
        · have := hz0 z
          (first | lia | omega)
        · (first | lia | omega)
      refine ⟨_, rfl, .inl ⟨rfl, _, SqL.of e5⟩, _, rfl, _, rfl, _, rfl, _, rfl, _, rfl, _, _, rfl, rfl, l, x', oa, oas, outs, S, C, deep - 1, rfl, el5, kt5 _ _ eo4, hks3.mono ((Same.kt s4).trans kt5), g, hSm, hCm, by (first | lia | omega), by (first | lia | omega), fun t r x6 H6 s6 el6 hat hfit htall => ?_⟩
      have e6 := s6 _ _ hpl' e5
      have kt6 : KT H5 H6 := s6.kt el5
      have hbl : bs'.length = ts.length := hts.length
      refine ⟨pl, _, _, rfl, rfl, e6, line_big (by rw [List.length_map]; (first | lia | omega)), ?_⟩
      have kt : KT H6 (upd H6 pl (.lst (bs'.map V.ref ++ [.ref r]))) := kt_lst e6
      refine ⟨_, bs' ++ [r], ts ++ [t], x6, rfl, fun b o hb hb2 e => ?_, ?_, ?_, ?_, ?_, ?_⟩
      · rw [upd_ne hb]; exact s6 _ _ hb2 (s5 b o hb hb2 e)
      · rw [upd_ne hpl'.symm]; exact el6
      · rw [upd_same, List.map_append]; rfl
      · exact (hts.mono (kt6.trans kt)).append (.cons (hat.mono kt) .nil)
      · rw [List.length_append, htl]; rfl
      · intro u hu
        rcases List.mem_append.mp hu with hu | hu
        · exact hall u hu
        · rw [List.mem_singleton.mp hu]
          exact ⟨hfit, htall⟩
    · rintro σ H5 ⟨kv, bs', ts, x', rfl, s5, el5, e5, hts, htl, hall⟩
      have hpH : H pl = none := s13.free el3 hpl
      have sH : SameB l H H5 := fun b o hb e => s5 b o (ne_of_none e hpH) hb (s4 _ _ (s13 b o hb e))
      have kt5 : KT H4 H5 := fun b ys e => s5 b _ (ne_of e e4 (by intro z; cases z)) (ne_of e el4 (by intro z; cases z)) e
      have eka5 : H5 ka = some (.tup [.str k0.1, .int k0.2]) := kt5 _ _ eka4
      have hbl : bs'.length = ts.length := hts.length
      refine ⟨_, rfl, ka, _, 0, .str k0.1, rfl, rfl, SqT.of eka5, at0, line_le (by show 1 ≤ 1000000; decide), fun p1 hp1 => ?_⟩
      have s6 : L2.Same H5 (upd H5 p1 (.tup [.str k0.1])) := same_new hp1 _
      have e6 : (upd H5 p1 (.tup [.str k0.1])) p1 = some (.tup [.str k0.1]) := upd_same
      generalize (upd H5 p1 (.tup [.str k0.1])) = H6 at s6 e6 ⊢
      refine ⟨_, rfl, pl, _, rfl, .inl ⟨SqL.of (s6 _ _ e5), fun tp htp => ?_⟩⟩
      have s7 : L2.Same H6 (upd H6 tp (.tup (bs'.map V.ref))) := same_new htp _
      have e7 : (upd H6 tp (.tup (bs'.map V.ref))) tp = some (.tup (bs'.map V.ref)) := upd_same
      generalize (upd H6 tp (.tup (bs'.map V.ref))) = H7 at s7 e7 ⊢
      refine catT (s7 _ _ e6) e7 (by rw [List.length_map]; show 1 + bs'.length ≤ 1000000; (first | lia | omega)) fun p H8 s8 e8 => ?_
      have s58 := s6.trans (s7.trans s8)
      have hlow := (g.low k0 hmem).1
      refine q (.knot k0.1 ts) p x' H8 (sH.trans (.of s58)) (s58 _ _ el5) ?_ ?_ ?_
      · rw [At]
        exact ⟨low_q hlow, bs', e8, hts.mono (Same.kt s58)⟩
      · rw [Th.FitS]
        refine ⟨?_, FitSs.of fun t ht => (hall t ht).1⟩
        have : (k0.1, (ts.length : Int)) = k0 := by
          rw [htl]
          exact Prod.ext rfl (by show ((k0.2.toNat : Nat) : Int) = k0.2; (first | lia | omega))
        rw [this]
        exact hmem
      · rw [Th.tall]
        by_cases z : deep = 0
        · have hk2 := hz0 z
          have : ts = [] := List.length_eq_zero_iff.mp (by (first | lia | omega))
          subst this
          rw [talls]
          (first | lia | omega)
        · have := talls_all (n := (deep - 1).toNat + 1) fun t ht => (hall t ht).2
          (first | lia | omega)
end
def sp__law_book_by_digits : Sp := fun vs H Q _ => ∃ (cell : Int) (ia : Addr) (ias : List Addr) (ins : List (Str × Int)) (oa : Addr) (oas : List Addr) (outs : List (Str × Int)) (S deep : Int), vs = [.int cell, .ref ia, .ref oa, .int S, .int deep] ∧ H ia = some (.tup (ias.map V.ref)) ∧ KsAt H ins ias ∧ GoodN ins ∧ H oa = some (.tup (oas.map V.ref)) ∧ KsAt H outs oas ∧ GoodN outs ∧ 0 ≤ S ∧ S ≤ 1000 ∧ 0 ≤ deep ∧ deep < 5 ∧ ∀ (r ha ra : Addr) (ras : List Addr) (head : Th) (rows : List (List Th)) (H' : Hp), L2.Same H H' → BookAt H' ins outs head rows r ia oa ha ra ias oas ras → BookOk ins outs S deep.toNat head rows → Q (.ref r) H'
section
variable {P : Program} {w : World} {K : PySem.W.Frag} {mg : Str → Option Value} {base : Heap} (T : TX K mg)
set_option maxHeartbeats 4000000 in
theorem ok__law_book_by_digits : FnOk P w K mg base CX0 8 T.f__law_book_by_digits T.d__law_book_by_digits ["cell", "ins", "outs", "states", "deep"] sp__law_book_by_digits := by
  refine T.F__law_book_by_digits.ok sc__law_book_by_digits (fun vs H Q E h => ?_) (fun cdv A outer s H vs Q E hr h => ?_)
  · obtain ⟨cell, ia, ias, ins, oa, oas, outs, S, deep, rfl, _⟩ := h
    rfl
  obtain ⟨cell, ia, ias, ins, oa, oas, outs, S, deep, rfl, ei, hki, gi, eo, hko, go, hS0, hS1, d0, d1, q⟩ := h
  refine ⟨_, (pss_cons (ps_set (i := 5) sc__law_book_by_digits.nd rfl (Or.inl rfl) (pe_lst (pa_cons (pv 0) pa_nil)))
      (pss_cons (ps_set (i := 6) sc__law_book_by_digits.nd rfl (Or.inl rfl) (pe_lst pa_nil))
      (pss_cons (ps_for PassesOwn.never rfl (pi_range1 rfl T.n_range (pa_cons (pv 3) pa_nil)) (pg_name (i := 7) sc__law_book_by_digits.nd rfl (Or.inl rfl)) (pss_cons (ps_set (i := 8) sc__law_book_by_digits.nd rfl (Or.inl rfl) (pe_lst pa_nil))
      (pss_cons (ps_for PassesOwn.never rfl (pi_range1 rfl T.n_range (pa_cons (pe_callB call_len_seq rfl T.n_len PySem.boot_len (pa_cons (pv 1) pa_nil)) pa_nil)) (pg_name (i := 9) sc__law_book_by_digits.nd rfl (Or.inl rfl)) (pss_one (ps_expr (pe_bm PySem.F.plainAttrs_list PySem.F.slot_list_append PySem.F.type_list_append mt_append (pv 8) (pa_cons (pe_call (ok__law_by_digits T 5) (hr.mono (by first | decide | (first | lia | omega))) rfl T.m__law_by_digits T.F__law_by_digits.kp T.b__law_by_digits .nil pass0 (pa_cons (pv 5) (pa_cons (pv 2) (pa_cons (pv 3) (pa_cons (pe_ix ix_tup (pe_ix ix_tup (pv 1) (pv 9) (fun _ _ => rfl)) pe_int (fun _ _ => rfl)) (pa_cons (pv 4) pa_nil)))))) pa_nil)))))
      (pss_one (ps_expr (pe_bm PySem.F.plainAttrs_list PySem.F.slot_list_append PySem.F.type_list_append mt_append (pv 6) (pa_cons (pe_callTy call_tuple_of rfl T.n_tuple PyProof.Rows.boot_tuple (pa_cons (pv 8) pa_nil)) pa_nil)))))))
      (pss_one (ps_ret (pe_tup (pa_cons (pv 1) (pa_cons (pv 2) (pa_cons (pe_call (ok__law_by_digits T 5) (hr.mono (by first | decide | (first | lia | omega))) rfl T.m__law_by_digits T.F__law_by_digits.kp T.b__law_by_digits .nil pass0 (pa_cons (pv 5) (pa_cons (pv 2) (pa_cons (pv 3) (pa_cons pe_int (pa_cons pe_int pa_nil)))))) (pa_cons (pe_callTy call_tuple_of rfl T.n_tuple PyProof.Rows.boot_tuple (pa_cons (pv 6) pa_nil)) pa_nil)))))))))), ?_⟩
  have hil : ins.length = ias.length := Paired.length hki
  have hi8 := gi.le
  have hrl : ((ias.map V.ref).length : Int) = (ins.length : Int) := by rw [List.length_map, hil]
  refine ⟨_, rfl, line_le (by show 1 ≤ 1000000; decide), fun lf hlf => ?_⟩
  refine ⟨line_le (by show 0 ≤ 1000000; decide), fun rl hrl0 => ?_⟩
  have hrlf : rl ≠ lf := fun z => by rw [z, upd_same] at hrl0; cases hrl0
  have hrlH : H rl = none := (same_new hlf _).free hrl0
  have sm1 : L2.Same H (upd (upd H lf (.lst [.int cell])) rl (.lst [])) := (same_new hlf _).trans (same_new hrl0 _)
  have el1 : (upd (upd H lf (.lst [.int cell])) rl (.lst [])) lf = some (.lst [.int cell]) := by rw [upd_ne hrlf.symm, upd_same]
  have er1 : (upd (upd H lf (.lst [.int cell])) rl (.lst [])) rl = some (.lst []) := upd_same
  generalize (upd (upd H lf (.lst [.int cell])) rl (.lst [])) = H1 at sm1 el1 er1 ⊢
  refine ⟨_, rfl, S, rfl, by (first | lia | omega), by (first | lia | omega), ?_⟩
  refine for_range (n := S.toNat) (fun i σ H3 => ∃ (sv rv kv : Option V) (ras : List Addr) (rows : List (List Th)) (x : Int), σ = [some (.int cell), some (.ref ia), some (.ref oa), some (.int S), some (.int deep), some (.ref lf), some (.ref rl), sv, rv, kv] ∧ L2.Same H H3 ∧ H3 lf = some (.lst [.int x]) ∧ H3 rl = some (.lst (ras.map V.ref)) ∧ Paired (RowAt H3) rows ras ∧ rows.length = i ∧ ∀ row ∈ rows, RowOk ins outs S deep.toNat row)
    ⟨none, none, none, [], [], cell, rfl, sm1, el1, er1, .nil, rfl, fun t ht => by cases ht⟩ ?_ ?_
  · rintro i σ H3 hi ⟨sv, rv, kv, ras, rows, x, rfl, s3, el3, er3, hrows, hrn, hall⟩
    have hi3 : i < S.toNat := hi
    have hrasl : rows.length = ras.length := Paired.length hrows
    refine ⟨line_le (by show 0 ≤ 1000000; decide), fun rw hrw => ?_⟩
    have hrwH : H rw = none := s3.free hrw
    have hrwr : rw ≠ rl := fun z => by rw [z, er3] at hrw; cases hrw
    have hrwl : rw ≠ lf := fun z => by rw [z, el3] at hrw; cases hrw
    have s4 : L2.Same H3 (upd H3 rw (.lst [])) := same_new hrw _
    have ew4 : (upd H3 rw (.lst [])) rw = some (.lst []) := upd_same
    generalize (upd H3 rw (.lst [])) = H4 at s4 ew4 ⊢
    refine ⟨_, rfl, ia, _, rfl, .inr (SqT.of (s4 _ _ (s3 _ _ ei))), _, rfl, by (first | lia | omega), by (first | lia | omega), ?_⟩
    refine for_range (n := ((ias.map V.ref).length : Int).toNat) (fun j σ H5 => ∃ (kv : Option V) (bs : List Addr) (ts : List Th) (x : Int), σ = [some (.int cell), some (.ref ia), some (.ref oa), some (.int S), some (.int deep), some (.ref lf), some (.ref rl), some (.int (0 + (i : Int))), some (.ref rw), kv] ∧ L2.Same H H5 ∧ H5 lf = some (.lst [.int x]) ∧ H5 rl = some (.lst (ras.map V.ref)) ∧ KT H4 H5 ∧ H5 rw = some (.lst (bs.map V.ref)) ∧ Ats H5 ts bs ∧ ts.length = j ∧ ∀ (j : Nat) (t : Th) (k : Str × Int), ts[j]? = some t → ins[j]? = some k → t.FitS outs S k.2 ∧ t.tall ≤ deep.toNat + 1)
      ⟨kv, [], [], x, rfl, s3.trans s4, s4 _ _ el3, s4 _ _ er3, fun _ _ e => e, ew4, .nil, rfl, fun j t k h => by simp at h⟩ ?_ ?_
    · rintro j σ H5 hj ⟨kv, bs, ts, x5, rfl, s5, el5, er5, kt5, ew5, hts, htl, hfits⟩
      have hj3 : j < ins.length := by
        have : j < ((ias.map V.ref).length : Int).toNat := hj
        (first | lia | omega)
      obtain ⟨k0, hk0⟩ : ∃ k0, ins[j]? = some k0 := ⟨_, List.getElem?_eq_getElem hj3⟩
      obtain ⟨ka, hka, eka⟩ := P2.get hki hk0
      have hnum := gi.num k0 (List.mem_of_getElem? hk0)
      have hat : atI (ias.map V.ref) (0 + (j : Int)) = some (.ref ka) := at_nonneg (by (first | lia | omega)) (by rw [show (0 + (j : Int)).toNat = j by (first | lia | omega), List.getElem?_map, hka]; rfl)
      refine ⟨_, rfl, .inl ⟨rfl, _, SqL.of ew5⟩, _, rfl, _, rfl, _, rfl, _, rfl, _, rfl, ia, _, _, .ref ka, rfl, rfl, SqT.of (s5 _ _ ei), hat, ka, _, 1, _, rfl, rfl, SqT.of (s5 _ _ eka), at1, _, rfl, lf, x5, oa, oas, outs, S, k0.2, deep, rfl, el5, s5 _ _ eo, hko.mono (Same.kt s5), go, by (first | lia | omega), by (first | lia | omega), d0, by (first | lia | omega), fun t r x6 H6 s6 el6 hat hfit htall => ?_⟩
      have ew6 := s6 _ _ hrwl ew5
      have er6 := s6 _ _ hrlf er5
      have kt6 : KT H5 H6 := s6.kt el5
      have sH6 : L2.Same H H6 := fun b o e => s6 b o (ne_of_none e hlf) (s5 b o e)
      have hbl : bs.length = ts.length := hts.length
      refine ⟨rw, _, _, rfl, rfl, ew6, line_big (by rw [List.length_map]; (first | lia | omega)), ?_⟩
      have kt : KT H6 (upd H6 rw (.lst (bs.map V.ref ++ [.ref r]))) := kt_lst ew6
      refine ⟨_, bs ++ [r], ts ++ [t], x6, rfl, same_upd sH6 hrwH, by rw [upd_ne hrwl.symm]; exact el6, by rw [upd_ne hrwr.symm]; exact er6, kt5.trans (kt6.trans kt), ?_, ?_, ?_, ?_⟩
      · rw [upd_same, List.map_append]; rfl
      · exact (hts.mono (kt6.trans kt)).append (.cons (hat.mono kt) .nil)
      · rw [List.length_append, htl]; rfl
      · intro j' t' k' ht' hk'
        by_cases hji : j' < ts.length
        · rw [List.getElem?_append_left hji] at ht'
          exact hfits j' t' k' ht' hk'
        · rw [List.getElem?_append_right (by (first | lia | omega))] at ht'
          have hj0 : j' - ts.length = 0 := by
            have := (List.getElem?_eq_some_iff.mp ht').1
            simp at this
            (first | lia | omega)
          rw [hj0] at ht'
          cases ht'
          have : j' = j := by (first | lia | omega)
          subst this
          rw [hk0] at hk'
          cases hk'
          exact ⟨hfit, htall⟩
    · rintro σ H5 ⟨kv, bs, ts, x5, rfl, s5, el5, er5, kt5, ew5, hts, htl, hfits⟩
      refine ⟨_, rfl, .inl ⟨rfl, _, SqL.of er5⟩, _, rfl, rw, _, rfl, .inl ⟨SqL.of ew5, fun tp htp => ?_⟩⟩
      have s6 : L2.Same H5 (upd H5 tp (.tup (bs.map V.ref))) := same_new htp _
      have e6 : (upd H5 tp (.tup (bs.map V.ref))) tp = some (.tup (bs.map V.ref)) := upd_same
      generalize (upd H5 tp (.tup (bs.map V.ref))) = H6 at s6 e6 ⊢
      have er6 := s6 _ _ er5
      refine ⟨rl, _, _, rfl, rfl, er6, line_big (by rw [List.length_map]; (first | lia | omega)), ?_⟩
      have kt : KT H6 (upd H6 rl (.lst (ras.map V.ref ++ [.ref tp]))) := kt_lst er6
      have ktA : KT H3 (upd H6 rl (.lst (ras.map V.ref ++ [.ref tp]))) := (Same.kt s4).trans (kt5.trans ((Same.kt s6).trans kt))
      refine ⟨_, _, _, ras ++ [tp], rows ++ [ts], x5, rfl, same_upd (s5.trans s6) hrlH, by rw [upd_ne hrlf.symm]; exact s6 _ _ el5, ?_, ?_, ?_, ?_⟩
      · rw [upd_same, List.map_append]; rfl
      · exact P2.append (P2.mp (fun _ _ e => RowAt.mono ktA e) hrows) (.cons ⟨bs, kt _ _ e6, hts.mono ((Same.kt s6).trans kt)⟩ .nil)
      · rw [List.length_append, hrn]; rfl
      · intro row hrow
        rcases List.mem_append.mp hrow with hrow | hrow
        · exact hall row hrow
        · rw [List.mem_singleton.mp hrow]
          exact ⟨by rw [htl]; (first | lia | omega), hfits⟩
  · rintro σ H3 ⟨sv, rv, kv, ras, rows, x, rfl, s3, el3, er3, hrows, hrn, hall⟩
    have hrasl : rows.length = ras.length := Paired.length hrows
    refine ⟨_, rfl, _, rfl, _, rfl, _, rfl, _, rfl, lf, x, oa, oas, outs, S, 1, 1, rfl, el3, s3 _ _ eo, hko.mono (Same.kt s3), go, by (first | lia | omega), by decide, by decide, by decide, fun t ha x6 H6 s6 el6 hat hfit htall => ?_⟩
    have er6 := s6 _ _ hrlf er3
    have kt6 : KT H3 H6 := s6.kt el3
    have sH6 : L2.Same H H6 := fun b o e => s6 b o (ne_of_none e hlf) (s3 b o e)
    refine ⟨_, rfl, rl, _, rfl, .inl ⟨SqL.of er6, fun ra hra => ?_⟩⟩
    have s7 : L2.Same H6 (upd H6 ra (.tup (ras.map V.ref))) := same_new hra _
    have e7 : (upd H6 ra (.tup (ras.map V.ref))) ra = some (.tup (ras.map V.ref)) := upd_same
    generalize (upd H6 ra (.tup (ras.map V.ref))) = H7 at s7 e7 ⊢
    refine ⟨line_le (by show 4 ≤ 1000000; decide), fun r hr' => ?_⟩
    have s8 : L2.Same H7 (upd H7 r (.tup [.ref ia, .ref oa, .ref ha, .ref ra])) := same_new hr' _
    have sA := sH6.trans (s7.trans s8)
    refine q r ha ra ras t rows _ sA ⟨upd_same, sA _ _ ei, hki.mono (Same.kt sA), sA _ _ eo, hko.mono (Same.kt sA), hat.mono (Same.kt (s7.trans s8)), s8 _ _ e7, P2.mp (fun _ _ e => RowAt.mono (kt6.trans (Same.kt (s7.trans s8))) e) hrows⟩ ⟨by rw [hrn]; (first | lia | omega), hall, hfit, htall⟩
end
def sp__law_book : Sp := fun vs H Q _ => ∃ (cell : Int) (ia : Addr) (ias : List Addr) (ins : List (Str × Int)) (oa : Addr) (oas : List Addr) (outs : List (Str × Int)) (S deep : Int), vs = [.int cell, .ref ia, .ref oa, .int S, .int deep] ∧ H ia = some (.tup (ias.map V.ref)) ∧ KsAt H ins ias ∧ GoodN ins ∧ H oa = some (.tup (oas.map V.ref)) ∧ KsAt H outs oas ∧ GoodN outs ∧ 0 ≤ S ∧ S ≤ 1000 ∧ 0 ≤ deep ∧ deep < 5 ∧ ∀ (r ha ra : Addr) (ras : List Addr) (head : Th) (rows : List (List Th)) (H' : Hp), L2.Same H H' → BookAt H' ins outs head rows r ia oa ha ra ias oas ras → BookOk ins outs S deep.toNat head rows → Q (.ref r) H'
section
variable {P : Program} {w : World} {K : PySem.W.Frag} {mg : Str → Option Value} {base : Heap} (T : TX K mg)
set_option maxHeartbeats 4000000 in
theorem ok__law_book : FnOk P w K mg base CX0 9 T.f__law_book T.d__law_book ["cell", "ins", "outs", "states", "deep"] sp__law_book := by
  refine T.F__law_book.ok sc__law_book (fun vs H Q E h => ?_) (fun cdv A outer s H vs Q E hr h => ?_)
  · obtain ⟨cell, ia, ias, ins, oa, oas, outs, S, deep, rfl, _⟩ := h
    rfl
  obtain ⟨cell, ia, ias, ins, oa, oas, outs, S, deep, rfl, ei, hki, gi, eo, hko, go, hS0, hS1, d0, d1, q⟩ := h
  refine ⟨_, (pss_cons (ps_if (pt_cmpR op_ge (pv 0) pe_int (nomark _)) (pss_one (ps_ret (pe_call (ok__law_book_by_digits T) (hr.mono (by first | decide | (first | lia | omega))) rfl T.m__law_book_by_digits T.F__law_book_by_digits.kp T.b__law_book_by_digits .nil pass0 (pa_cons (pe_op op_fdivB (pv 0) pe_int) (pa_cons (pv 1) (pa_cons (pv 2) (pa_cons (pv 3) (pa_cons (pv 4) pa_nil)))))))) pss_nil)
      (pss_cons (ps_set (i := 5) sc__law_book.nd rfl (Or.inl rfl) (pe_lst pa_nil))
      (pss_cons (ps_for PassesOwn.never rfl (pi_range1 rfl T.n_range (pa_cons (pv 3) pa_nil)) (pg_name (i := 6) sc__law_book.nd rfl (Or.inl rfl)) (pss_cons (ps_set (i := 7) sc__law_book.nd rfl (Or.inl rfl) (pe_lst pa_nil))
      (pss_cons (ps_for PassesOwn.never rfl (pi_range1 rfl T.n_range (pa_cons (pe_callB call_len_seq rfl T.n_len PySem.boot_len (pa_cons (pv 1) pa_nil)) pa_nil)) (pg_name (i := 8) sc__law_book.nd rfl (Or.inl rfl)) (pss_one (ps_expr (pe_bm PySem.F.plainAttrs_list PySem.F.slot_list_append PySem.F.type_list_append mt_append (pv 7) (pa_cons (pe_call (ok__law_pattern T 5) (hr.mono (by first | decide | (first | lia | omega))) rfl T.m__law_pattern T.F__law_pattern.kp T.b__law_pattern .nil pass0 (pa_cons (pe_call (ok__law_turn T) (hr.mono (by first | decide | (first | lia | omega))) rfl T.m__law_turn T.F__law_turn.kp T.b__law_turn .nil pass0 (pa_cons (pv 0) (pa_cons (pe_op op_add (pe_op op_add (pe_op op_mul pe_int (pv 6)) (pv 8)) pe_int) pa_nil))) (pa_cons (pv 2) (pa_cons (pv 3) (pa_cons (pe_ix ix_tup (pe_ix ix_tup (pv 1) (pv 8) (fun _ _ => rfl)) pe_int (fun _ _ => rfl)) (pa_cons (pv 4) pa_nil)))))) pa_nil)))))
      (pss_one (ps_expr (pe_bm PySem.F.plainAttrs_list PySem.F.slot_list_append PySem.F.type_list_append mt_append (pv 5) (pa_cons (pe_callTy call_tuple_of rfl T.n_tuple PyProof.Rows.boot_tuple (pa_cons (pv 7) pa_nil)) pa_nil)))))))
      (pss_one (ps_ret (pe_tup (pa_cons (pv 1) (pa_cons (pv 2) (pa_cons (pe_call (ok__law_pattern T 5) (hr.mono (by first | decide | (first | lia | omega))) rfl T.m__law_pattern T.F__law_pattern.kp T.b__law_pattern .nil pass0 (pa_cons (pe_call (ok__law_turn T) (hr.mono (by first | decide | (first | lia | omega))) rfl T.m__law_turn T.F__law_turn.kp T.b__law_turn .nil pass0 (pa_cons (pv 0) (pa_cons pe_int pa_nil))) (pa_cons (pv 2) (pa_cons (pv 3) (pa_cons pe_int (pa_cons pe_int pa_nil)))))) (pa_cons (pe_callTy call_tuple_of rfl T.n_tuple PyProof.Rows.boot_tuple (pa_cons (pv 5) pa_nil)) pa_nil)))))))))), ?_⟩
  have hil : ins.length = ias.length := Paired.length hki
  have hi8 := gi.le
  have hrl : ((ias.map V.ref).length : Int) = (ins.length : Int) := by rw [List.length_map, hil]
  refine seq_intro (fun σ' H' => H = H' ∧ σ' = [some (.int cell), some (.ref ia), some (.ref oa), some (.int S), some (.int deep), none, none, none, none]) (fun kk hk => ?_) ?_
  · refine ⟨_, rfl, _, _, rfl, rfl, _, rfl, ?_⟩
    refine ite2 (fun c1 => ?_) (fun c1 => hk _ _ ⟨rfl, rfl⟩)
    exact ⟨_, rfl, _, _, rfl, rfl, ⟨by decide, by decide⟩, _, rfl, _, rfl, _, rfl, _, rfl, _, ia, ias, ins, oa, oas, outs, S, deep, rfl, ei, hki, gi, eo, hko, go, hS0, hS1, d0, d1, fun r ha ra ras head rows H' s1 b1 b2 => q r ha ra ras head rows H' s1 b1 b2⟩
  rintro σ' H' ⟨rfl, rfl⟩
  refine ⟨line_le (by show 0 ≤ 1000000; decide), fun rl hrlH => ?_⟩
  have sm1 : L2.Same H (upd H rl (.lst [])) := same_new hrlH _
  have er1 : (upd H rl (.lst [])) rl = some (.lst []) := upd_same
  generalize (upd H rl (.lst [])) = H1 at sm1 er1 ⊢
  refine ⟨_, rfl, S, rfl, by (first | lia | omega), by (first | lia | omega), ?_⟩
  refine for_range (n := S.toNat) (fun i σ H3 => ∃ (sv rv kv : Option V) (ras : List Addr) (rows : List (List Th)), σ = [some (.int cell), some (.ref ia), some (.ref oa), some (.int S), some (.int deep), some (.ref rl), sv, rv, kv] ∧ L2.Same H H3 ∧ H3 rl = some (.lst (ras.map V.ref)) ∧ Paired (RowAt H3) rows ras ∧ rows.length = i ∧ ∀ row ∈ rows, RowOk ins outs S deep.toNat row)
    ⟨none, none, none, [], [], rfl, sm1, er1, .nil, rfl, fun t ht => by cases ht⟩ ?_ ?_
  · rintro i σ H3 hi ⟨sv, rv, kv, ras, rows, rfl, s3, er3, hrows, hrn, hall⟩
    have hi3 : i < S.toNat := hi
    have hrasl : rows.length = ras.length := Paired.length hrows
    refine ⟨line_le (by show 0 ≤ 1000000; decide), fun rw hrw => ?_⟩
    have hrwH : H rw = none := s3.free hrw
    have hrwr : rw ≠ rl := fun z => by rw [z, er3] at hrw; cases hrw
    have s4 : L2.Same H3 (upd H3 rw (.lst [])) := same_new hrw _
    have ew4 : (upd H3 rw (.lst [])) rw = some (.lst []) := upd_same
    generalize (upd H3 rw (.lst [])) = H4 at s4 ew4 ⊢
    refine ⟨_, rfl, ia, _, rfl, .inr (SqT.of (s4 _ _ (s3 _ _ ei))), _, rfl, by (first | lia | omega), by (first | lia | omega), ?_⟩
    refine for_range (n := ((ias.map V.ref).length : Int).toNat) (fun j σ H5 => ∃ (kv : Option V) (bs : List Addr) (ts : List Th), σ = [some (.int cell), some (.ref ia), some (.ref oa), some (.int S), some (.int deep), some (.ref rl), some (.int (0 + (i : Int))), some (.ref rw), kv] ∧ L2.Same H H5 ∧ H5 rl = some (.lst (ras.map V.ref)) ∧ KT H4 H5 ∧ H5 rw = some (.lst (bs.map V.ref)) ∧ Ats H5 ts bs ∧ ts.length = j ∧ ∀ (j : Nat) (t : Th) (k : Str × Int), ts[j]? = some t → ins[j]? = some k → t.FitS outs S k.2 ∧ t.tall ≤ deep.toNat + 1)
      ⟨kv, [], [], rfl, s3.trans s4, s4 _ _ er3, fun _ _ e => e, ew4, .nil, rfl, fun j t k h => by simp at h⟩ ?_ ?_
    · rintro j σ H5 hj ⟨kv, bs, ts, rfl, s5, er5, kt5, ew5, hts, htl, hfits⟩
      have hj3 : j < ins.length := by
        have : j < ((ias.map V.ref).length : Int).toNat := hj
        (first | lia | omega)
      obtain ⟨k0, hk0⟩ : ∃ k0, ins[j]? = some k0 := ⟨_, List.getElem?_eq_getElem hj3⟩
      obtain ⟨ka, hka, eka⟩ := P2.get hki hk0
      have hnum := gi.num k0 (List.mem_of_getElem? hk0)
      have hat : atI (ias.map V.ref) (0 + (j : Int)) = some (.ref ka) := at_nonneg (by (first | lia | omega)) (by rw [show (0 + (j : Int)).toNat = j by (first | lia | omega), List.getElem?_map, hka]; rfl)
      refine ⟨_, rfl, .inl ⟨rfl, _, SqL.of ew5⟩, _, rfl, _, rfl, _, _, rfl, rfl, .inl ⟨by decide, by decide⟩, _, rfl, _, _, rfl, rfl, _, _, rfl, rfl, _, _, rfl, by (first | lia | omega), by (first | lia | omega), fun r2 _ _ => ?_⟩
      refine ⟨_, rfl, _, rfl, _, rfl, _, rfl, ia, _, _, .ref ka, rfl, rfl, SqT.of (s5 _ _ ei), hat, ka, _, 1, _, rfl, rfl, SqT.of (s5 _ _ eka), at1, _, rfl, r2, oa, oas, outs, S, k0.2, deep, rfl, s5 _ _ eo, hko.mono (Same.kt s5), go, d0, by (first | lia | omega), fun t r H6 s6 hat hfit htall => ?_⟩
      have ew6 := s6 _ _ ew5
      have er6 := s6 _ _ er5
      have kt6 : KT H5 H6 := Same.kt s6
      have sH6 : L2.Same H H6 := s5.trans s6
      have hbl : bs.length = ts.length := hts.length
      refine ⟨rw, _, _, rfl, rfl, ew6, line_big (by rw [List.length_map]; (first | lia | omega)), ?_⟩
      have kt : KT H6 (upd H6 rw (.lst (bs.map V.ref ++ [.ref r]))) := kt_lst ew6
      refine ⟨_, bs ++ [r], ts ++ [t], rfl, same_upd sH6 hrwH, by rw [upd_ne hrwr.symm]; exact er6, kt5.trans (kt6.trans kt), ?_, ?_, ?_, ?_⟩
      · rw [upd_same, List.map_append]; rfl
      · exact (hts.mono (kt6.trans kt)).append (.cons (hat.mono kt) .nil)
      · rw [List.length_append, htl]; rfl
      · intro j' t' k' ht' hk'
        by_cases hji : j' < ts.length
        · rw [List.getElem?_append_left hji] at ht'
          exact hfits j' t' k' ht' hk'
        · rw [List.getElem?_append_right (by (first | lia | omega))] at ht'
          have hj0 : j' - ts.length = 0 := by
            have := (List.getElem?_eq_some_iff.mp ht').1
            simp at this
            (first | lia | omega)
          rw [hj0] at ht'
          cases ht'
          have : j' = j := by (first | lia | omega)
          subst this
          rw [hk0] at hk'
          cases hk'
          exact ⟨hfit, htall⟩
    · rintro σ H5 ⟨kv, bs, ts, rfl, s5, er5, kt5, ew5, hts, htl, hfits⟩
      refine ⟨_, rfl, .inl ⟨rfl, _, SqL.of er5⟩, _, rfl, rw, _, rfl, .inl ⟨SqL.of ew5, fun tp htp => ?_⟩⟩
      have s6 : L2.Same H5 (upd H5 tp (.tup (bs.map V.ref))) := same_new htp _
      have e6 : (upd H5 tp (.tup (bs.map V.ref))) tp = some (.tup (bs.map V.ref)) := upd_same
      generalize (upd H5 tp (.tup (bs.map V.ref))) = H6 at s6 e6 ⊢
      have er6 := s6 _ _ er5
      refine ⟨rl, _, _, rfl, rfl, er6, line_big (by rw [List.length_map]; (first | lia | omega)), ?_⟩
      have kt : KT H6 (upd H6 rl (.lst (ras.map V.ref ++ [.ref tp]))) := kt_lst er6
      have ktA : KT H3 (upd H6 rl (.lst (ras.map V.ref ++ [.ref tp]))) := (Same.kt s4).trans (kt5.trans ((Same.kt s6).trans kt))
      refine ⟨_, _, _, ras ++ [tp], rows ++ [ts], rfl, same_upd (s5.trans s6) hrlH, ?_, ?_, ?_, ?_⟩
      · rw [upd_same, List.map_append]; rfl
      · exact P2.append (P2.mp (fun _ _ e => RowAt.mono ktA e) hrows) (.cons ⟨bs, kt _ _ e6, hts.mono ((Same.kt s6).trans kt)⟩ .nil)
      · rw [List.length_append, hrn]; rfl
      · intro row hrow
        rcases List.mem_append.mp hrow with hrow | hrow
        · exact hall row hrow
        · rw [List.mem_singleton.mp hrow]
          exact ⟨by rw [htl]; (first | lia | omega), hfits⟩
  · rintro σ H3 ⟨sv, rv, kv, ras, rows, rfl, s3, er3, hrows, hrn, hall⟩
    have hrasl : rows.length = ras.length := Paired.length hrows
    refine ⟨_, rfl, _, rfl, _, rfl, _, _, rfl, by decide, by decide, fun r2 _ _ => ?_⟩
    refine ⟨_, rfl, _, rfl, r2, oa, oas, outs, S, 1, 1, rfl, s3 _ _ eo, hko.mono (Same.kt s3), go, by decide, by decide, fun t ha H6 s6 hat hfit htall => ?_⟩
    have er6 := s6 _ _ er3
    have kt6 : KT H3 H6 := Same.kt s6
    have sH6 : L2.Same H H6 := s3.trans s6
    refine ⟨_, rfl, rl, _, rfl, .inl ⟨SqL.of er6, fun ra hra => ?_⟩⟩
    have s7 : L2.Same H6 (upd H6 ra (.tup (ras.map V.ref))) := same_new hra _
    have e7 : (upd H6 ra (.tup (ras.map V.ref))) ra = some (.tup (ras.map V.ref)) := upd_same
    generalize (upd H6 ra (.tup (ras.map V.ref))) = H7 at s7 e7 ⊢
    refine ⟨line_le (by show 4 ≤ 1000000; decide), fun r hr' => ?_⟩
    have s8 : L2.Same H7 (upd H7 r (.tup [.ref ia, .ref oa, .ref ha, .ref ra])) := same_new hr' _
    have sA := sH6.trans (s7.trans s8)
    refine q r ha ra ras t rows _ sA ⟨upd_same, sA _ _ ei, hki.mono (Same.kt sA), sA _ _ eo, hko.mono (Same.kt sA), hat.mono (Same.kt (s7.trans s8)), s8 _ _ e7, P2.mp (fun _ _ e => RowAt.mono (kt6.trans (Same.kt (s7.trans s8))) e) hrows⟩ ⟨by rw [hrn]; (first | lia | omega), hall, hfit, htall⟩
end
def EH (H : Hp) (t : Th) (a : Addr) : Prop := ∃ ta, H a = some (.tup [.ref ta, .int (t.tall : Nat)]) ∧ At H t ta
theorem EH.mono {H H' : Hp} (k : KT H H') {t : Th} {a : Addr} (h : EH H t a) : EH H' t a := by
  obtain ⟨ta, h1, h2⟩ := h
  exact ⟨ta, k _ _ h1, h2.mono k⟩
theorem eh_split {H : Hp} : ∀ {ts : List Th} {es : List Addr}, Paired (EH H) ts es → ∃ tas : List Addr, Ats H ts tas ∧ tas.length = es.length ∧ ∀ (i : Nat) (e : Addr), es[i]? = some e → ∃ ta t, tas[i]? = some ta ∧ ts[i]? = some t ∧ H e = some (.tup [.ref ta, .int (t.tall : Nat)])
  | _, _, .nil => ⟨[], .nil, rfl, fun i e h => by simp at h⟩
  | _, _, .cons (a := t) (b := e) r h => by
    obtain ⟨ta, h1, h2⟩ := r
    obtain ⟨tas, g1, g2, g3⟩ := eh_split h
    refine ⟨ta :: tas, .cons h2 g1, by rw [List.length_cons, List.length_cons, g2], fun i e' he => ?_⟩
    cases i with
    | zero =>
      simp at he
      subst he
      exact ⟨ta, t, rfl, rfl, h1⟩
    | succ i =>
      obtain ⟨ta', t', q1, q2, q3⟩ := g3 i e' (by simpa using he)
      exact ⟨ta', t', by simpa using q1, by simpa using q2, q3⟩
theorem talls_max0 {ts : List Th} {M : Int} (h1 : M ∈ (ts.map fun t : Th => ((t.tall : Nat) : Int)) ++ [0]) (h2 : ∀ a ∈ (ts.map fun t : Th => ((t.tall : Nat) : Int)) ++ [0], a ≤ M) : M = ((talls ts : Nat) : Int) := by
  by_cases h : ts = []
  · subst h
    have : M = 0 := by simpa using h1
    rw [this, talls]
    rfl
  · have h0 := h2 0 (by simp)
    obtain ⟨t, ht, he⟩ := talls_mem h
    have h3 := h2 _ (List.mem_append_left _ (List.mem_map_of_mem (f := fun t : Th => ((t.tall : Nat) : Int)) ht))
    rcases List.mem_append.mp h1 with h1 | h1
    · obtain ⟨u, hu, e⟩ := List.mem_map.mp h1
      have := talls_le hu
      (first | lia | omega)
    · have h4 : M = 0 := List.mem_singleton.mp h1
      have h5 : t.tall = 0 := by (first | lia | omega)
      cases t with
      | knot n ks => rw [Th.tall] at h5; (first | lia | omega)
      | call a b => rw [Th.tall] at h5; (first | lia | omega)
def sp__law_knot : Sp := fun vs H Q _ => ∃ (ka kl : Addr) (k0 : Str × Int) (es : List Addr) (ts : List Th), vs = [.ref ka, .ref kl] ∧ KAt H k0 ka ∧ k0.1 ≠ q ∧ H kl = some (.lst (es.map V.ref)) ∧ Paired (EH H) ts es ∧ ts.length ≤ 1000 ∧ ∀ (r : Addr) (H' : Hp), L2.Same H H' → EH H' (.knot k0.1 ts) r → Q (.ref r) H'
section
variable {P : Program} {w : World} {K : PySem.W.Frag} {mg : Str → Option Value} {base : Heap} (T : TX K mg)
theorem ok__law_knot : FnOk P w K mg base CX0 1 T.f__law_knot T.d__law_knot ["kind", "kids"] sp__law_knot := by
  refine T.F__law_knot.ok sc__law_knot (fun vs H Q E h => ?_) (fun cdv A outer s H vs Q E hr h => ?_)
  · obtain ⟨ka, kl, k0, es, ts, rfl, _⟩ := h
    rfl
  obtain ⟨ka, kl, k0, es, ts, rfl, eka, hq, ekl, hes, hlen, q⟩ := h
  refine ⟨_, (pss_cons (ps_set (i := 2) sc__law_knot.nd rfl (Or.inl rfl) (pe_op op_add pe_int (pe_callB (call_maxL rfl) rfl T.n_max PyProof.Rows.boot_max (pa_cons (pe_op op_cat (pe_comp (N := [Str.ofString "kid"]) (js := [none]) (g := (gName 0)) (tt := tNoTest) (te := (tOp (rIxT K) (tVar 0) (tC (.int 1)))) rfl (cs_mk rfl (by decide +kernel) (by decide +kernel) rfl rfl rfl) (pi_list (pv 1)) (fun _ _ _ _ _ _ => (pg_name (i := 0) nd_3 rfl (Or.inl rfl))) (gk_name rfl) (fun _ _ _ _ _ _ => pts_nil) (fun _ _ _ _ _ _ => (pe_ix ix_tup (pv 0) pe_int (fun _ _ => rfl)))) (pe_lst (pa_cons pe_int pa_nil))) pa_nil))))
      (pss_one (ps_ret (pe_tup (pa_cons (pe_op op_catA (pe_tup (pa_cons (pe_ix ix_tup (pv 0) pe_int (fun _ _ => rfl)) pa_nil)) (pe_callTy call_tuple_of rfl T.n_tuple PyProof.Rows.boot_tuple (pa_cons (pe_comp (N := [Str.ofString "kid"]) (js := [none]) (g := (gName 0)) (tt := tNoTest) (te := (tOp (rIxT K) (tVar 0) (tC (.int 0)))) rfl (cs_mk rfl (by decide +kernel) (by decide +kernel) rfl rfl rfl) (pi_list (pv 1)) (fun _ _ _ _ _ _ => (pg_name (i := 0) nd_3 rfl (Or.inl rfl))) (gk_name rfl) (fun _ _ _ _ _ _ => pts_nil) (fun _ _ _ _ _ _ => (pe_ix ix_tup (pv 0) pe_int (fun _ _ => rfl)))) pa_nil))) (pa_cons (pv 2) pa_nil)))))), ?_⟩
  have hel : ts.length = es.length := Paired.length hes
  refine ⟨_, rfl, kl, rfl, ⟨_, SqL.of ekl⟩, comp_sm_list ts (fun t : Th => V.int (t.tall : Nat)) (SqL.of ekl) (by rw [List.length_map]; exact hel) (by rw [List.length_map]; (first | lia | omega)) (fun i x z H2 R W' hx hz s2 hR => ?_) (fun D H1 hD s1 e1 => ?_)⟩
  · obtain ⟨e, rfl, he⟩ := get_ref hx
    obtain ⟨t, ht, ta, h1, _⟩ := P2.get' hes he
    rw [hz] at ht
    cases ht
    exact ⟨_, rfl, e, _, 1, .int (z.tall : Nat), rfl, rfl, SqT.of (s2 _ _ h1), at1, hR H2 (.refl _)⟩
  refine ⟨line_le (by show 1 ≤ 1000000; decide), fun zl hzl => ?_⟩
  have s2 := same_new hzl (.lst [.int 0])
  refine ⟨D, zl, _, _, rfl, rfl, s2 _ _ e1, upd_same, line_le (by rw [List.length_map]; show ts.length + 1 ≤ 1000000; (first | lia | omega)), fun cl hcl => ?_⟩
  have s3 : L2.Same H _ := s1.trans (s2.trans (same_new hcl (.lst (ts.map (fun t : Th => V.int (t.tall : Nat)) ++ [.int 0]))))
  have e3 : (upd (upd H1 zl (.lst [.int 0])) cl (.lst (ts.map (fun t : Th => V.int (t.tall : Nat)) ++ [.int 0]))) cl = some (.lst (((ts.map fun t : Th => ((t.tall : Nat) : Int)) ++ [0]).map V.int)) := by
    rw [upd_same, List.map_append, List.map_map]
    rfl
  generalize (upd (upd H1 zl (.lst [.int 0])) cl (.lst (ts.map (fun t : Th => V.int (t.tall : Nat)) ++ [.int 0]))) = H3 at s3 e3 ⊢
  refine ⟨cl, (ts.map fun t : Th => ((t.tall : Nat) : Int)) ++ [0], rfl, SqL.of e3, by simp, fun M hM hmax => ⟨_, _, rfl, rfl, ?_⟩⟩
  have hMe := talls_max0 hM hmax
  subst hMe
  have eka3 := s3 _ _ eka
  refine ⟨_, rfl, ka, _, 0, .str k0.1, rfl, rfl, SqT.of eka3, at0, line_le (by show 1 ≤ 1000000; decide), fun p1 hp1 => ?_⟩
  have s4 := s3.trans (same_new hp1 (.tup [.str k0.1]))
  have e4 : (upd H3 p1 (.tup [.str k0.1])) p1 = some (.tup [.str k0.1]) := upd_same
  generalize (upd H3 p1 (.tup [.str k0.1])) = H4 at s4 e4 ⊢
  obtain ⟨tas, hats, htl, hget⟩ := eh_split (P2.mp (fun _ _ e => EH.mono (Same.kt s4) e) hes)
  have ekl4 := s4 _ _ ekl
  refine ⟨_, rfl, kl, rfl, ⟨_, SqL.of ekl4⟩, comp_sm_list tas V.ref (SqL.of ekl4) (by rw [List.length_map]; exact htl) (by rw [List.length_map]; (first | lia | omega)) (fun i x z H5 R W' hx hz s5 hR => ?_) (fun D5 H5 hD5 s5 e5 => ?_)⟩
  · obtain ⟨e, rfl, he⟩ := get_ref hx
    obtain ⟨ta, t, g1, _, g3⟩ := hget i e he
    rw [hz] at g1
    cases g1
    exact ⟨_, rfl, e, _, 0, .ref z, rfl, rfl, SqT.of (s5 _ _ g3), at0, hR H5 (.refl _)⟩
  refine ⟨D5, _, rfl, .inl ⟨SqL.of e5, fun tp htp => ?_⟩⟩
  have s6 : L2.Same H5 (upd H5 tp (.tup (tas.map V.ref))) := same_new htp _
  have e6 : (upd H5 tp (.tup (tas.map V.ref))) tp = some (.tup (tas.map V.ref)) := upd_same
  generalize (upd H5 tp (.tup (tas.map V.ref))) = H6 at s6 e6 ⊢
  refine catT (s6 _ _ (s5 _ _ e4)) e6 (by rw [List.length_map]; show 1 + tas.length ≤ 1000000; (first | lia | omega)) fun p H7 s7 e7 => ?_
  refine ⟨_, rfl, line_le (by show 2 ≤ 1000000; decide), fun r hr' => ?_⟩
  have s8 := same_new hr' (.tup [.ref p, .int (1 + ((talls ts : Nat) : Int))])
  have s48 := s5.trans (s6.trans (s7.trans s8))
  refine q r _ (s4.trans s48) ⟨p, ?_, ?_⟩
  · rw [upd_same, Th.tall]
    congr 4
    simp
    (first | lia | omega)
  · rw [At]
    exact ⟨hq, tas, s8 _ _ e7, hats.mono (Same.kt s48)⟩
end
theorem tt_intro {c : TT} {σ : St} {H : Hp} {K : Bool → Hp → Prop} (R : Bool → Hp → Prop) (h1 : ∀ k : Bool → Hp → Prop, (∀ b H', R b H' → k b H') → c σ H k) (h2 : ∀ b H', R b H' → K b H') : c σ H K := h1 K h2
theorem some_kinds0 {K : PySem.W.Frag} {js : List (Option Nat)} {tt : TT} {te : TE} {σ : St} {H : Hp} {kr : Addr} {kas : List Addr} {ks : List (Str × Int)} {fin : Addr → Hp → Prop} (p : Str × Int → Bool) (e : H kr = some (.tup (kas.map V.ref))) (hks : KsAt H ks kas) (hl : ks.length ≤ 1000)
    (htt : ∀ (z : Str × Int) (ka : Addr) (H2 : Hp) (R : Bool → Hp → Prop), L2.Same H H2 → KAt H2 z ka → R (p z) H2 → tt ((cσ js σ).set 0 (some (.ref ka))) H2 R)
    (hte : ∀ (ka : Addr) (H2 : Hp) (R : VK), R (.ref ka) H2 → te ((cσ js σ).set 0 (some (.ref ka))) H2 R)
    (q : ∀ (D : Addr) (bs : List ((Str × Int) × Addr)) (H' : Hp), H D = none → H' = upd H D (.lst (bs.map fun z => V.ref z.2)) → bs.length ≤ ks.length → (∀ z ∈ bs, z.1 ∈ ks ∧ p z.1 = true ∧ KAt H z.1 z.2) → fin D H') :
    ∀ D, H D = none → ∃ (n : Nat) (W : Nat → Hp → Prop), W 0 (upd H D (.lst [])) ∧ cTurn js (gName 0) tt te σ (Itt K kr) D n W fun H' => fin D H' := by
  have hkl : ks.length = kas.length := Paired.length hks
  have hzl : (ks.zip kas).length = ks.length := by rw [List.length_zip]; (first | lia | omega)
  have hza : ∀ (i : Nat) (x : V) (z : (Str × Int) × Addr), (kas.map V.ref)[i]? = some x → (ks.zip kas)[i]? = some z → x = .ref z.2 := fun i x z hx hz => by
    obtain ⟨ka, rfl, hka⟩ := get_ref hx
    obtain ⟨h1, h2⟩ := List.getElem?_zip_eq_some.mp hz
    rw [hka] at h2
    cases h2
    rfl
  refine comp_fm_tup (ks.zip kas) (fun z => p z.1) (fun z => .ref z.2) (SqT.of e) (by rw [hzl, List.length_map]; exact hkl) (by rw [List.length_map]; (first | lia | omega)) (fun i x z H2 R hx hz sm r => ?_) (fun i x z H2 R hx hz _ sm r => ?_) (fun D hD => ?_)
  · rw [hza i x z hx hz]
    have := (zip_mem hks z (List.mem_of_getElem? hz)).2
    exact htt z.1 z.2 H2 R sm (sm _ _ this) r
  · rw [hza i x z hx hz]
    exact hte z.2 H2 R r
  · refine q D _ _ hD rfl ?_ ?_
    · exact Nat.le_trans (List.length_filter_le _ _) (by (first | lia | omega))
    · intro z hz
      obtain ⟨h1, h2⟩ := List.mem_filter.mp hz
      obtain ⟨h3, h4⟩ := zip_mem hks z h1
      exact ⟨h3, h2, h4⟩
theorem cutV_to {xs : List V} {n : Nat} (h : n ≤ xs.length) : cutV xs none (some (n : Int)) = xs.take n := by
  unfold cutV
  rw [HT.sIx_nat, HT.sIx_none, Nat.min_eq_left h, Nat.sub_zero, List.drop_zero]
def sp__law_tree (K : PySem.W.Frag) : Sp := fun vs H Q _ => ∃ (cl ia : Addr) (xs : List V) (ias : List Addr) (ins : List (Str × Int)), vs = [.ref cl, .ref ia] ∧ H cl = some (.lst xs) ∧ (∀ v ∈ xs, ∃ z, v = .int z) ∧ xs.length ≤ 60 ∧ H ia = some (.tup (ias.map V.ref)) ∧ KsAt H ins ias ∧ GoodN ins ∧ ∀ (t : Th) (r : Addr) (H' : Hp), L2.Same H H' → At H' t r → t.Fit ins → t.tall ≤ 79 → Q (.ref r) H'
section
variable {P : Program} {w : World} {K : PySem.W.Frag} {mg : Str → Option Value} {base : Heap} (T : TX K mg)
set_option maxHeartbeats 4000000 in
theorem ok__law_tree : FnOk P w K mg base CX0 2 T.f__law_tree T.d__law_tree ["cells", "ins"] (sp__law_tree K) := by
  refine T.F__law_tree.ok sc__law_tree (fun vs H Q E h => ?_) (fun cdv A outer s H vs Q E hr h => ?_)
  · obtain ⟨cl, ia, xs, ias, ins, rfl, _⟩ := h
    rfl
  obtain ⟨cl, ia, xs, ias, ins, rfl, ecl, hint, hxl, ei, hki, gi, q⟩ := h
  refine ⟨_, (pss_cons (ps_set (i := 2) sc__law_tree.nd rfl (Or.inl rfl) (pe_call (ok__law_knot T) (hr.mono (by first | decide | (first | lia | omega))) rfl T.m__law_knot T.F__law_knot.kp T.b__law_knot .nil pass0 (pa_cons (pe_call (ok__law_leaf T) (hr.mono (by first | decide | (first | lia | omega))) rfl T.m__law_leaf T.F__law_leaf.kp T.b__law_leaf .nil pass0 (pa_cons (pv 1) (pa_cons (pe_callB call_len_seq rfl T.n_len PySem.boot_len (pa_cons (pv 0) pa_nil)) pa_nil))) (pa_cons (pe_lst pa_nil) pa_nil))))
      (pss_cons (ps_setC (i := 3) (N := [Str.ofString "kind"]) (js := [none]) (g := (gName 0)) (tt := (tTest (tOp (rI0 fun i j => .bl (decide (j < i))) (tOp (rIxT K) (tVar 0) (tC (.int 1))) (tC (.int 1))))) (te := (tVar 0)) sc__law_tree.nd rfl (Or.inl rfl) rfl (cs_mk rfl (by decide +kernel) (by decide +kernel) rfl rfl rfl) (pi_tup (pv 1)) (fun _ _ _ _ _ _ => (pg_name (i := 0) nd_0 rfl (Or.inl rfl))) (gk_name rfl) (fun _ _ _ _ _ _ => pts_one (pt_cmpR op_gt (pe_ix ix_tup (pv 0) pe_int (fun _ _ => rfl)) pe_int (nomark _))) (fun _ _ _ _ _ _ => (pv 0)))
      (pss_cons (ps_set (i := 4) sc__law_tree.nd rfl (Or.inl rfl) (pe_lst pa_nil))
      (pss_cons (ps_for PassesOwn.never rfl (pi_list (pe_slice sl_list (pv 0) po_none (po_some pe_int))) (pg_name (i := 5) sc__law_tree.nd rfl (Or.inl rfl)) (pss_cons (ps_set (i := 6) sc__law_tree.nd rfl (Or.inl rfl) (pe_call (ok__law_turn T) (hr.mono (by first | decide | (first | lia | omega))) rfl T.m__law_turn T.F__law_turn.kp T.b__law_turn .nil pass0 (pa_cons (pv 5) (pa_cons (pe_callB call_len_seq rfl T.n_len PySem.boot_len (pa_cons (pv 4) pa_nil)) pa_nil))))
      (pss_cons (ps_set (i := 7) sc__law_tree.nd rfl (Or.inl rfl) (pe_ix ix_tup (pv 1) (pe_op op_mod (pv 6) (pe_callB call_len_seq rfl T.n_len PySem.boot_len (pa_cons (pv 1) pa_nil))) (fun _ _ => rfl)))
      (pss_cons (ps_set (i := 8) sc__law_tree.nd rfl (Or.inl rfl) (pe_call (ok__law_knot T) (hr.mono (by first | decide | (first | lia | omega))) rfl T.m__law_knot T.F__law_knot.kp T.b__law_knot .nil pass0 (pa_cons (pv 7) (pa_cons (pe_op op_rep (pe_slice sl_list (pv 4) (po_some (pe_callB (call_max2 rfl) rfl T.n_max PyProof.Rows.boot_max (pa_cons pe_int (pa_cons (pe_op op_sub (pe_callB call_len_seq rfl T.n_len PySem.boot_len (pa_cons (pv 4) pa_nil)) (pe_ix ix_tup (pv 7) pe_int (fun _ _ => rfl))) pa_nil)))) po_none) (pe_callTy call_int1 rfl T.n_int PyProof.Rows.boot_int (pa_cons (pe_cmpR op_gt (pe_ix ix_tup (pv 7) pe_int (fun _ _ => rfl)) pe_int (nomark _)) pa_nil))) pa_nil))))
      (pss_one (ps_if (PW.pt (pw_or (pt_cmpR op_gt (pe_ix ix_tup (pv 7) pe_int (fun _ _ => rfl)) (pe_callB call_len_seq rfl T.n_len PySem.boot_len (pa_cons (pv 4) pa_nil)) (nomark _)) (pw_or1 (pt_cmpR op_gt (pe_ix ix_tup (pv 8) pe_int (fun _ _ => rfl)) pe_int (nomark _))))) (pss_one (ps_expr (pe_bm PySem.F.plainAttrs_list PySem.F.slot_list_append PySem.F.type_list_append mt_append (pv 4) (pa_cons (pe_call (ok__law_knot T) (hr.mono (by first | decide | (first | lia | omega))) rfl T.m__law_knot T.F__law_knot.kp T.b__law_knot .nil pass0 (pa_cons (pe_call (ok__law_leaf T) (hr.mono (by first | decide | (first | lia | omega))) rfl T.m__law_leaf T.F__law_leaf.kp T.b__law_leaf .nil pass0 (pa_cons (pv 1) (pa_cons (pe_op op_fdiv (pv 6) pe_int) pa_nil))) (pa_cons (pe_lst pa_nil) pa_nil))) pa_nil)))) (pss_one (ps_set (i := 4) sc__law_tree.nd rfl (Or.inl rfl) (pe_op op_cat (pe_slice sl_list (pv 4) po_none (po_some (pe_op op_sub (pe_callB call_len_seq rfl T.n_len PySem.boot_len (pa_cons (pv 4) pa_nil)) (pe_ix ix_tup (pv 7) pe_int (fun _ _ => rfl))))) (pe_lst (pa_cons (pv 8) pa_nil)))))))))))
      (pss_cons (ps_while PassesOwn.never (PW.pt (pw_and (pt_cmpR op_gt (pe_callB call_len_seq rfl T.n_len PySem.boot_len (pa_cons (pv 4) pa_nil)) pe_int (nomark _)) (pw_and1 (pt_cmpR op_gt (pe_callB call_len_seq rfl T.n_len PySem.boot_len (pa_cons (pv 3) pa_nil)) pe_int (nomark _))))) (pss_cons (ps_set (i := 7) sc__law_tree.nd rfl (Or.inl rfl) (pe_ix ix_list (pv 3) (pe_op op_mod (pe_callB call_len_seq rfl T.n_len PySem.boot_len (pa_cons (pv 4) pa_nil)) (pe_callB call_len_seq rfl T.n_len PySem.boot_len (pa_cons (pv 3) pa_nil))) (fun _ _ => rfl)))
      (pss_one (ps_set (i := 4) sc__law_tree.nd rfl (Or.inl rfl) (pe_op op_cat (pe_slice sl_list (pv 4) (po_some (pe_ix ix_tup (pv 7) pe_int (fun _ _ => rfl))) po_none) (pe_lst (pa_cons (pe_call (ok__law_knot T) (hr.mono (by first | decide | (first | lia | omega))) rfl T.m__law_knot T.F__law_knot.kp T.b__law_knot .nil pass0 (pa_cons (pv 7) (pa_cons (pe_slice sl_list (pe_op op_cat (pv 4) (pe_lst (pa_cons (pv 2) (pa_cons (pv 2) pa_nil)))) po_none (po_some (pe_ix ix_tup (pv 7) pe_int (fun _ _ => rfl)))) pa_nil))) pa_nil)))))))
      (pss_one (ps_ret (pe_ix ix_tup (pe_ix ix_list (pe_op op_cat (pv 4) (pe_lst (pa_cons (pv 2) pa_nil))) (pe_callB (call_max2 rfl) rfl T.n_max PyProof.Rows.boot_max (pa_cons pe_int (pa_cons (pe_op op_sub (pe_callB call_len_seq rfl T.n_len PySem.boot_len (pa_cons (pv 4) pa_nil)) pe_int) pa_nil))) (fun _ _ => rfl)) pe_int (fun _ _ => rfl))))))))), ?_⟩
  have hil : ins.length = ias.length := Paired.length hki
  have hi8 := gi.le
  have hi1 := gi.ne
  -- a leaf
  have leafFit : ∀ k0 : Str × Int, k0 ∈ ins → k0.2 = 0 → (Th.knot k0.1 []).Fit ins := fun k0 hm hz => by
    rw [Th.Fit, Fits]
    refine ⟨?_, trivial⟩
    have : (k0.1, ((([] : List Th).length : Nat) : Int)) = k0 := Prod.ext rfl hz.symm
    rw [this]
    exact hm
  refine ⟨_, rfl, _, rfl, cl, _, rfl, .inl (SqL.of ecl), ia, ias, ins, _, rfl, ei, hki, gi, fun k0 ka H1 s1 hm0 hz0 eka => ?_⟩
  refine ⟨line_le (by show 0 ≤ 1000000; decide), fun el hel => ?_⟩
  have s2 := s1.trans (same_new hel (.lst []))
  refine ⟨ka, el, k0, [], [], rfl, same_new hel _ _ _ eka, low_q (gi.low k0 hm0).1, upd_same, .nil, Nat.zero_le _, fun lf H2 s2' hlf => ?_⟩
  have s12 : L2.Same H H2 := s2.trans s2'
  have hlfit := leafFit k0 hm0 hz0
  have hlft : (Th.knot k0.1 []).tall ≤ 1 := by rw [Th.tall, talls]; exact Nat.le_refl _
  generalize Th.knot k0.1 [] = lft at hlf hlfit hlft
  clear s2 s2' eka hm0 hz0 s1 hel
  -- the wide ones
  have ei2 := s12 _ _ ei
  have hki2 := hki.mono (Same.kt s12)
  refine ⟨_, rfl, ia, rfl, ⟨_, SqT.of ei2⟩, some_kinds0 (K := K) (fun k => decide (1 < k.2)) ei2 hki2 (by (first | lia | omega)) (fun z ka H2 R sm hz r => ⟨_, rfl, ka, _, 1, _, rfl, rfl, SqT.of hz, at1, _, _, rfl, rfl, _, rfl, r⟩) (fun ka H2 R r => ⟨_, rfl, r⟩) (fun wd bs H3 hD e' hb8 hbs => ?_)⟩
  have s3 : L2.Same H2 H3 := by rw [e']; exact same_new hD _
  have ewd : H3 wd = some (.lst (bs.map fun z => V.ref z.2)) := by rw [e']; exact upd_same
  clear e'
  refine ⟨line_le (by show 0 ≤ 1000000; decide), fun rw0 hrw0 => ?_⟩
  have ecl3 := s3 _ _ (s12 _ _ ecl)
  have s4 : L2.Same H3 (upd H3 rw0 (.lst [])) := same_new hrw0 _
  refine ⟨_, rfl, _, rfl, cl, _, rfl, SqL.of (s4 _ _ ecl3), fun cc hcc => ?_⟩
  have hrc : rw0 ≠ cc := fun z => by rw [← z, upd_same] at hcc; cases hcc
  have s5 : L2.Same H3 (upd (upd H3 rw0 (.lst [])) cc (.lst (cutV xs none (some 96)))) := s4.trans (same_new hcc _)
  have er5 : (upd (upd H3 rw0 (.lst [])) cc (.lst (cutV xs none (some 96)))) rw0 = some (.lst []) := by rw [upd_ne hrc, upd_same]
  have ec5 : (upd (upd H3 rw0 (.lst [])) cc (.lst (cutV xs none (some 96)))) cc = some (.lst (cutV xs none (some 96))) := upd_same
  generalize (upd (upd H3 rw0 (.lst [])) cc (.lst (cutV xs none (some 96)))) = H5 at s5 er5 ec5 ⊢
  have hint2 : ∀ v ∈ cutV xs none (some 96), ∃ z, v = .int z := fun v hv => hint v (List.mem_of_mem_drop (List.mem_of_mem_take hv))
  have hcl := cutV_length xs none (some 96)
  generalize cutV xs none (some 96) = ys at ec5 hint2 hcl ⊢
  have hlf3 := hlf.mono (Same.kt s3)
  have sb : L2.Same H H3 := s12.trans s3
  have ei3 := sb _ _ ei
  have hki3 := hki.mono (Same.kt sb)
  have hbs3 : ∀ z ∈ bs, z.1 ∈ ins ∧ 1 < z.1.2 ∧ KAt H3 z.1 z.2 := fun z hz => by
    obtain ⟨h1, h2, h3⟩ := hbs z hz
    exact ⟨h1, of_decide_eq_true h2, s3 _ _ h3⟩
  clear hbs hlf hki2 ei2 s4
  refine ⟨cc, rfl, ⟨_, SqL.of ec5⟩, ?_⟩
  refine for_list (K := K) (a := cc) (xs := ys) (fun i σ H6 => ∃ (rw : Addr) (es : List Addr) (ts : List Th) (c5 c6 c7 c8 : Option V), σ = [some (.ref cl), some (.ref ia), some (.ref lf), some (.ref wd), some (.ref rw), c5, c6, c7, c8] ∧ L2.Same H3 H6 ∧ H3 rw = none ∧ rw ≠ cc ∧ H6 cc = some (.lst ys) ∧ H6 rw = some (.lst (es.map V.ref)) ∧ Paired (EH H6) ts es ∧ (∀ t ∈ ts, t.Fit ins) ∧ (∀ t ∈ ts, t.tall ≤ 20) ∧ ts.length ≤ i)
    ⟨rw0, [], [], none, none, none, none, rfl, s5, hrw0, hrc, ec5, er5, .nil, (fun t ht => by cases ht), (fun t ht => by cases ht), Nat.le_refl _⟩ (fun i σ H6 _ ⟨_, _, _, _, _, _, _, _, _, _, _, h, _⟩ => SqL.of h) ?_ ?_
  · rintro i x σ H6 hx ⟨rw, es, ts, c5, c6, c7, c8, rfl, s6, hrw, hrwc, ecc, erw, hes, hfit, h20, hti⟩
    obtain ⟨c, rfl⟩ := hint2 x (List.mem_of_getElem? hx)
    have hix : i < ys.length := (List.getElem?_eq_some_iff.mp hx).1
    have hel : ts.length = es.length := Paired.length hes
    have hml : ((es.map V.ref).length : Int) = (es.length : Int) := by rw [List.length_map]
    refine ⟨_, rfl, _, rfl, rw, _, rfl, .inl (SqL.of erw), _, _, rfl, by (first | lia | omega), by (first | lia | omega), fun rest r0 r1 => ?_⟩
    have ei6 := s6 _ _ ei3
    have m0 := Int.emod_nonneg rest (show ((ias.map V.ref).length : Int) ≠ 0 by rw [List.length_map]; (first | lia | omega))
    have m1 := Int.emod_lt_of_pos rest (show (0 : Int) < ((ias.map V.ref).length : Int) by rw [List.length_map]; (first | lia | omega))
    obtain ⟨k0, hk0⟩ : ∃ k0, ins[(rest % ((ias.map V.ref).length : Int)).toNat]? = some k0 := ⟨_, List.getElem?_eq_getElem (by rw [List.length_map] at m0 m1 ⊢; (first | lia | omega))⟩
    obtain ⟨ka, hka, eka3⟩ := P2.get hki3 hk0
    have hm0 := List.mem_of_getElem? hk0
    have hnum := gi.num k0 hm0
    have eka := s6 _ _ eka3
    refine ⟨_, rfl, _, rfl, _, rfl, ia, _, rfl, .inr (SqT.of ei6), _, _, rfl, rfl, (by show (0 : Int) < ((ias.map V.ref).length : Int); rw [List.length_map]; (first | lia | omega)), ia, _, _, .ref ka, rfl, rfl, SqT.of ei6, at_nonneg m0 (by rw [List.getElem?_map, hka]; rfl), ?_⟩
    -- made
    obtain ⟨lo, hlo, hlo2⟩ : ∃ lo : Nat, (if ((es.map V.ref).length : Int) - k0.2 > 0 then ((es.map V.ref).length : Int) - k0.2 else 0) = (lo : Int) ∧ lo = es.length - k0.2.toNat := by
      refine ⟨es.length - k0.2.toNat, ?_, rfl⟩
      rw [hml]
      split <;> (first | lia | omega)
    have hcut : cutV (es.map V.ref) (some (lo : Int)) none = (es.drop lo).map V.ref := by rw [cutV_from (by rw [List.length_map]; (first | lia | omega)), List.map_drop]
    refine ⟨_, rfl, _, rfl, _, rfl, rw, _, rfl, .inl (SqL.of erw), _, rfl, ka, _, 1, _, rfl, rfl, SqT.of eka, at1, _, _, rfl, rfl, _, _, rfl, _, rfl, rw, _, rfl, SqL.of erw, fun s1l hs1 => ?_⟩
    dsimp only
    rw [hlo, hcut]
    have sA : L2.Same H6 (upd H6 s1l (.lst ((es.drop lo).map V.ref))) := same_new hs1 _
    have eA : (upd H6 s1l (.lst ((es.drop lo).map V.ref))) s1l = some (.lst ((es.drop lo).map V.ref)) := upd_same
    generalize (upd H6 s1l (.lst ((es.drop lo).map V.ref))) = H7 at sA eA ⊢
    have hrep : (List.replicate (if decide ((0 : Int) < k0.2) = true then (1 : Int) else 0).toNat ((es.drop lo).map V.ref)).flatten = (es.drop lo).map V.ref := by
      by_cases hc : (0 : Int) < k0.2
      · rw [decide_eq_true hc]
        simp
      · have : es.drop lo = [] := List.drop_eq_nil_of_le (by (first | lia | omega))
        rw [this]
        simp
    have hk01 : (if decide ((0 : Int) < k0.2) = true then (1 : Int) else 0) = 0 ∨ (if decide ((0 : Int) < k0.2) = true then (1 : Int) else 0) = 1 := by split <;> simp
    refine ⟨_, rfl, ka, _, 1, _, rfl, rfl, SqT.of (sA _ _ eka), at1, _, _, rfl, rfl, .inr ⟨_, rfl, s1l, _, _, rfl, rfl, eA, by (first | lia | omega), by (first | lia | omega), line_le ?_, fun rp hrp => ?_⟩⟩
    · have : ((es.drop lo).map V.ref).length ≤ 1000 := by rw [List.length_map, List.length_drop]; (first | lia | omega)
      rcases hk01 with z | z <;> rw [z] <;> simp <;> (first | lia | omega)
    dsimp only
    rw [hrep]
    have sB := sA.trans (same_new hrp (.lst ((es.drop lo).map V.ref)))
    have eB : (upd H7 rp (.lst ((es.drop lo).map V.ref))) rp = some (.lst ((es.drop lo).map V.ref)) := upd_same
    generalize (upd H7 rp (.lst ((es.drop lo).map V.ref))) = H8 at sB eB ⊢
    refine ⟨ka, rp, k0, es.drop lo, ts.drop lo, rfl, sB _ _ eka, low_q (gi.low k0 hm0).1, eB, P2.mp (fun _ _ e => EH.mono (Same.kt sB) e) (P2.drop lo hes), by rw [List.length_drop]; (first | lia | omega), fun md H9 s9 hmd => ?_⟩
    have s69 : L2.Same H6 H9 := sB.trans s9
    have erw9 := s69 _ _ erw
    have ecc9 := s69 _ _ ecc
    have eka9 := s69 _ _ eka
    have hes9 := P2.mp (fun _ _ e => EH.mono (Same.kt s69) e) hes
    have s39 := s6.trans s69
    obtain ⟨mta, emd, hmA⟩ := id hmd
    dsimp only [gName]
    refine if_intro (fun b H' => H9 = H' ∧ (b = false → k0.2 ≤ (es.length : Int) ∧ (Th.knot k0.1 (ts.drop lo)).tall ≤ 20)) (fun k2 hk2 => ?_) (fun H' hb => ?_) (fun H' hb => ?_)
    · refine ⟨_, rfl, ka, _, 1, _, rfl, rfl, SqT.of eka9, at1, _, rfl, rw, _, rfl, .inl (SqL.of erw9), _, _, rfl, rfl, _, rfl, ?_⟩
      refine ite2 (fun c1 => hk2 _ _ ⟨rfl, fun z => by cases z⟩) (fun c1 => ?_)
      refine ⟨_, rfl, md, _, 1, _, rfl, rfl, SqT.of emd, at1, _, _, rfl, rfl, _, rfl, hk2 _ _ ⟨rfl, fun z2 => ⟨?_, ?_⟩⟩⟩
      · have : ¬ ((es.map V.ref).length : Int) < k0.2 := fun z => c1 (decide_eq_true z)
        (first | lia | omega)
      · have := of_decide_eq_false z2
        (first | lia | omega)
    · obtain ⟨rfl, _⟩ := hb
      refine ⟨_, rfl, .inl ⟨rfl, _, SqL.of erw9⟩, _, rfl, _, rfl, _, _, rfl, rfl, ⟨by decide, by decide⟩, ia, ias, ins, _, rfl, s39 _ _ ei3, hki3.mono (Same.kt s39), gi, fun k1 ka1 H10 s10 hm1 hz1 eka1 => ?_⟩
      refine ⟨line_le (by show 0 ≤ 1000000; decide), fun el hel' => ?_⟩
      refine ⟨ka1, el, k1, [], [], rfl, same_new hel' _ _ _ eka1, low_q (gi.low k1 hm1).1, upd_same, .nil, Nat.zero_le _, fun l2 H11 s11 hl2 => ?_⟩
      have sC : L2.Same H9 H11 := s10.trans ((same_new hel' _).trans s11)
      refine ⟨rw, _, _, rfl, rfl, sC _ _ erw9, line_big (by rw [List.length_map]; (first | lia | omega)), ?_⟩
      have kt : KT H11 (upd H11 rw (.lst (es.map V.ref ++ [.ref l2]))) := kt_lst (sC _ _ erw9)
      refine ⟨rw, es ++ [l2], ts ++ [.knot k1.1 []], _, _, _, _, rfl, same_upd (s39.trans sC) hrw, hrw, hrwc, by rw [upd_ne hrwc.symm]; exact sC _ _ ecc9, by rw [upd_same, List.map_append]; rfl, P2.append (P2.mp (fun _ _ e => EH.mono ((Same.kt sC).trans kt) e) hes9) (.cons (hl2.mono kt) .nil), fun t ht => ?_, fun t ht => ?_, by rw [List.length_append]; show ts.length + 1 ≤ i + 1; (first | lia | omega)⟩
      rotate_left
      · rcases List.mem_append.mp ht with ht | ht
        · exact h20 t ht
        · rw [List.mem_singleton.mp ht, Th.tall, talls]
          decide
      rcases List.mem_append.mp ht with ht | ht
      · exact hfit t ht
      · rw [List.mem_singleton.mp ht]
        exact leafFit k1 hm1 hz1
    · obtain ⟨rfl, hb⟩ := hb
      obtain ⟨hle, hmt⟩ := hb rfl
      have hn : (((es.map V.ref).length : Int) - k0.2) = (lo : Int) := by rw [hml]; (first | lia | omega)
      refine ⟨_, rfl, _, rfl, rw, _, rfl, .inl (SqL.of erw9), _, rfl, ka, _, 1, _, rfl, rfl, SqT.of eka9, at1, _, _, rfl, rfl, _, rfl, rw, _, rfl, SqL.of erw9, fun s2l hs2 => ?_⟩
      dsimp only
      rw [hn, cutV_to (by rw [List.length_map]; (first | lia | omega))]
      have sC : L2.Same H9 (upd H9 s2l (.lst ((es.map V.ref).take lo))) := same_new hs2 _
      have eC : (upd H9 s2l (.lst ((es.map V.ref).take lo))) s2l = some (.lst ((es.map V.ref).take lo)) := upd_same
      generalize (upd H9 s2l (.lst ((es.map V.ref).take lo))) = H10 at sC eC ⊢
      refine ⟨_, rfl, line_le (by show 1 ≤ 1000000; decide), fun m1l hm1l => ?_⟩
      have sD := sC.trans (same_new hm1l (.lst [.ref md]))
      refine ⟨s2l, m1l, _, _, rfl, rfl, same_new hm1l _ _ _ eC, upd_same, line_le (by rw [List.length_take, List.length_map]; show min lo es.length + 1 ≤ 1000000; (first | lia | omega)), fun nr hnr => ?_⟩
      have sE := sD.trans (same_new hnr (.lst ((es.map V.ref).take lo ++ [.ref md])))
      have hnr9 : H9 nr = none := sD.free hnr
      refine ⟨nr, es.take lo ++ [md], ts.take lo ++ [.knot k0.1 (ts.drop lo)], _, _, _, _, rfl, s39.trans sE, s39.free hnr9, (fun z => by rw [z, ecc9] at hnr9; cases hnr9), sE _ _ ecc9, by rw [upd_same, List.map_append, List.map_take]; rfl, P2.append (P2.mp (fun _ _ e => EH.mono (Same.kt sE) e) (P2.take lo hes9)) (.cons (hmd.mono (Same.kt sE)) .nil), fun t ht => ?_, fun t ht => ?_, by rw [List.length_append, List.length_take]; show min lo ts.length + 1 ≤ i + 1; (first | lia | omega)⟩
      rotate_left
      · rcases List.mem_append.mp ht with ht | ht
        · exact h20 t (List.mem_of_mem_take ht)
        · rw [List.mem_singleton.mp ht]
          exact hmt
      rcases List.mem_append.mp ht with ht | ht
      · exact hfit t (List.mem_of_mem_take ht)
      · rw [List.mem_singleton.mp ht, Th.Fit]
        refine ⟨?_, Fits.of fun u hu => hfit u (List.mem_of_mem_drop hu)⟩
        have : (k0.1, ((ts.drop lo).length : Int)) = k0 := Prod.ext rfl (by show (((ts.drop lo).length : Nat) : Int) = k0.2; rw [List.length_drop]; (first | lia | omega))
        rw [this]
        exact hm0
  · rintro σ H6 ⟨rw, es, ts, c5, c6, c7, c8, rfl, s6, hrw, hrwc, ecc, erw, hes, hfit, h20, hti⟩
    have hti2 : ts.length ≤ 1000 := by (first | lia | omega)
    have hel0 : ts.length = es.length := Paired.length hes
    have h80 : ∀ t ∈ ts, t.tall + es.length ≤ 80 := fun t ht => by
      have := h20 t ht
      (first | lia | omega)
    have hes60 : es.length ≤ 60 := by (first | lia | omega)
    clear hti ecc hrwc h20 hel0
    refine ⟨fun m σ H6 => ∃ (rw : Addr) (es : List Addr) (ts : List Th) (c5 c6 c7 c8 : Option V), σ = [some (.ref cl), some (.ref ia), some (.ref lf), some (.ref wd), some (.ref rw), c5, c6, c7, c8] ∧ L2.Same H3 H6 ∧ H6 rw = some (.lst (es.map V.ref)) ∧ Paired (EH H6) ts es ∧ (∀ t ∈ ts, t.Fit ins) ∧ (∀ t ∈ ts, t.tall + es.length ≤ 80) ∧ es.length ≤ 60 ∧ ts.length ≤ 1000 ∧ m = es.length, ⟨_, rw, es, ts, c5, c6, c7, c8, rfl, s6, erw, hes, hfit, h80, hes60, hti2, rfl⟩, ?_⟩
    clear s6 hrw erw hes hfit hti2 h80 hes60
    rintro m σ H6 ⟨rw, es, ts, c5, c6, c7, c8, rfl, s6, erw, hes, hfit, h80, hes60, hti2, rfl⟩
    have hel : ts.length = es.length := Paired.length hes
    have hml : ((es.map V.ref).length : Int) = (es.length : Int) := by rw [List.length_map]
    have ewd6 := s6 _ _ ewd
    have hwl : ((bs.map fun z => V.ref z.2).length : Int) = (bs.length : Int) := by rw [List.length_map]
    have hlf := hlf3
    refine tt_intro (fun b H' => H6 = H' ∧ (b = true → (1 : Int) < ((es.map V.ref).length : Int) ∧ (0 : Int) < ((bs.map fun z => V.ref z.2).length : Int))) (fun k2 hk2 => ?_) (fun b H' hb => ?_)
    · refine ⟨_, rfl, rw, _, rfl, .inl (SqL.of erw), _, _, rfl, rfl, _, rfl, ?_⟩
      refine ite2 (fun c1 => ?_) (fun c1 => hk2 _ _ ⟨rfl, fun z => absurd z Bool.false_ne_true⟩)
      exact ⟨_, rfl, wd, _, rfl, .inl (SqL.of ewd6), _, _, rfl, rfl, _, rfl, hk2 _ _ ⟨rfl, fun z => ⟨of_decide_eq_true c1, of_decide_eq_true z⟩⟩⟩
    obtain ⟨rfl, hb⟩ := hb
    cases b with
    | true =>
      obtain ⟨c1', c2'⟩ := hb rfl
      refine iteT ?_
      refine ⟨fun σ' H' => ∃ m', m' < es.length ∧ ∃ (rw : Addr) (es : List Addr) (ts : List Th) (c5 c6 c7 c8 : Option V), σ' = [some (.ref cl), some (.ref ia), some (.ref lf), some (.ref wd), some (.ref rw), c5, c6, c7, c8] ∧ L2.Same H3 H' ∧ H' rw = some (.lst (es.map V.ref)) ∧ Paired (EH H') ts es ∧ (∀ t ∈ ts, t.Fit ins) ∧ (∀ t ∈ ts, t.tall + es.length ≤ 80) ∧ es.length ≤ 60 ∧ ts.length ≤ 1000 ∧ m' = es.length, fun σ' H' h => h, ?_⟩
      have m0 := Int.emod_nonneg ((es.map V.ref).length : Int) (show ((bs.map fun z => V.ref z.2).length : Int) ≠ 0 by (first | lia | omega))
      have m1 := Int.emod_lt_of_pos ((es.map V.ref).length : Int) c2'
      obtain ⟨z, hz⟩ : ∃ z, bs[(((es.map V.ref).length : Int) % ((bs.map fun z => V.ref z.2).length : Int)).toNat]? = some z := ⟨_, List.getElem?_eq_getElem (by (first | lia | omega))⟩
      obtain ⟨hm0, hk1, eka3⟩ := hbs3 z (List.mem_of_getElem? hz)
      obtain ⟨k0, ka⟩ := z
      dsimp only at hm0 hk1 eka3 hz
      have hnum := gi.num k0 hm0
      have eka := s6 _ _ eka3
      refine ⟨_, rfl, _, rfl, rw, _, rfl, .inl (SqL.of erw), _, rfl, wd, _, rfl, .inl (SqL.of ewd6), _, _, rfl, rfl, c2', wd, _, _, .ref ka, rfl, rfl, SqL.of ewd6, at_nonneg m0 (by rw [List.getElem?_map, hz]; rfl), ?_⟩
      obtain ⟨kn, hkn⟩ : ∃ kn : Nat, k0.2 = (kn : Int) := ⟨k0.2.toNat, by (first | lia | omega)⟩
      have hcut : cutV (es.map V.ref) (some (kn : Int)) none = (es.drop kn).map V.ref := by
        by_cases hc : kn ≤ es.length
        · rw [cutV_from (by rw [List.length_map]; exact hc), List.map_drop]
        · have h1 : es.drop kn = [] := List.drop_eq_nil_of_le (by (first | lia | omega))
          have h2 : HT.sIx (es.map V.ref).length 0 (some (kn : Int)) = (es.map V.ref).length := by rw [HT.sIx_nat, List.length_map]; (first | lia | omega)
          unfold cutV
          rw [h1, h2, List.drop_length]
          simp
      refine ⟨_, rfl, _, rfl, ka, _, 1, _, rfl, rfl, SqT.of eka, at1, _, rfl, rw, _, rfl, SqL.of erw, fun dl hdl => ?_⟩
      dsimp only
      rw [hkn, hcut]
      have sA : L2.Same H6 (upd H6 dl (.lst ((es.drop kn).map V.ref))) := same_new hdl _
      have eA : (upd H6 dl (.lst ((es.drop kn).map V.ref))) dl = some (.lst ((es.drop kn).map V.ref)) := upd_same
      generalize (upd H6 dl (.lst ((es.drop kn).map V.ref))) = H7 at sA eA ⊢
      refine ⟨_, rfl, _, rfl, _, rfl, _, rfl, line_le (by show 2 ≤ 1000000; decide), fun ll hll => ?_⟩
      have s7B := same_new hll (.lst [.ref lf, .ref lf])
      have sB := sA.trans s7B
      refine ⟨rw, ll, _, _, rfl, rfl, sB _ _ erw, upd_same, line_le (by rw [List.length_map]; show es.length + 2 ≤ 1000000; (first | lia | omega)), fun cl2 hcl2 => ?_⟩
      have s7C := s7B.trans (same_new hcl2 (.lst (es.map V.ref ++ [.ref lf, .ref lf])))
      have eC : (upd (upd H7 ll (.lst [.ref lf, .ref lf])) cl2 (.lst (es.map V.ref ++ [.ref lf, .ref lf]))) cl2 = some (.lst ((es ++ [lf, lf]).map V.ref)) := by rw [upd_same, List.map_append]; rfl
      generalize (upd (upd H7 ll (.lst [.ref lf, .ref lf])) cl2 (.lst (es.map V.ref ++ [.ref lf, .ref lf]))) = H8 at s7C eC ⊢
      have sC := sA.trans s7C
      refine ⟨_, rfl, ka, _, 1, _, rfl, rfl, SqT.of (sC _ _ eka), at1, _, rfl, cl2, _, rfl, SqL.of eC, fun tl htl => ?_⟩
      have hesl : (es ++ [lf, lf]).length = es.length + 2 := by rw [List.length_append]; rfl
      dsimp only
      rw [hkn, cutV_to (by rw [List.length_map]; (first | lia | omega)), ← List.map_take]
      have s7D := s7C.trans (same_new htl (.lst (((es ++ [lf, lf]).take kn).map V.ref)))
      have eD : (upd H8 tl (.lst (((es ++ [lf, lf]).take kn).map V.ref))) tl = some (.lst (((es ++ [lf, lf]).take kn).map V.ref)) := upd_same
      generalize (upd H8 tl (.lst (((es ++ [lf, lf]).take kn).map V.ref))) = H9 at s7D eD ⊢
      have sD := sA.trans s7D
      have hlf9 := hlf.mono (Same.kt (s6.trans sD))
      have hes9 : Paired (EH H9) (ts ++ [lft, lft]) (es ++ [lf, lf]) := P2.append (P2.mp (fun _ _ e => EH.mono (Same.kt sD) e) hes) (.cons hlf9 (.cons hlf9 .nil))
      refine ⟨ka, tl, k0, (es ++ [lf, lf]).take kn, (ts ++ [lft, lft]).take kn, rfl, sD _ _ eka, low_q (gi.low k0 hm0).1, eD, P2.take kn hes9, by rw [List.length_take, List.length_append]; show min kn (ts.length + 2) ≤ 1000; (first | lia | omega), fun md H10 s10 hmd => ?_⟩
      have sE := sD.trans s10
      have eA10 := s10 _ _ (s7D _ _ eA)
      refine ⟨line_le (by show 1 ≤ 1000000; decide), fun m1l hm1l => ?_⟩
      have sF := same_new hm1l (.lst [.ref md])
      refine ⟨dl, m1l, _, _, rfl, rfl, sF _ _ eA10, upd_same, line_le (by rw [List.length_map, List.length_drop]; show es.length - kn + 1 ≤ 1000000; (first | lia | omega)), fun nr hnr => ?_⟩
      have sG := sF.trans (same_new hnr (.lst ((es.drop kn).map V.ref ++ [.ref md])))
      have sH := sE.trans sG
      refine ⟨(es.drop kn ++ [md]).length, ?_, nr, es.drop kn ++ [md], ts.drop kn ++ [.knot k0.1 ((ts ++ [lft, lft]).take kn)], _, _, _, _, rfl, s6.trans sH, by rw [upd_same, List.map_append]; rfl, P2.append (P2.mp (fun _ _ e => EH.mono (Same.kt sH) e) (P2.drop kn hes)) (.cons (hmd.mono (Same.kt sG)) .nil), fun t ht => ?_, fun t ht => ?_, by rw [List.length_append, List.length_drop]; show es.length - kn + 1 ≤ 60; (first | lia | omega), by rw [List.length_append, List.length_drop]; show ts.length - kn + 1 ≤ 1000; (first | lia | omega), rfl⟩
      · rw [List.length_append, List.length_drop]
        show es.length - kn + 1 < es.length
        (first | lia | omega)
      rotate_left
      · have hl2 : (es.drop kn ++ [md]).length = es.length - kn + 1 := by rw [List.length_append, List.length_drop]; rfl
        rw [hl2]
        rcases List.mem_append.mp ht with ht | ht
        · have := h80 t (List.mem_of_mem_drop ht)
          (first | lia | omega)
        · rw [List.mem_singleton.mp ht, Th.tall]
          have h1 : talls ((ts ++ [lft, lft]).take kn) ≤ 80 - es.length := talls_all fun u hu => by
            rcases List.mem_append.mp (List.mem_of_mem_take hu) with hu | hu
            · have := h80 u hu
              (first | lia | omega)
            · have : u = lft := by
                rcases List.mem_cons.mp hu with h | h
                · exact h
                · exact List.mem_singleton.mp h
              rw [this]
              (first | lia | omega)
          (first | lia | omega)
      · rcases List.mem_append.mp ht with ht | ht
        · exact hfit t (List.mem_of_mem_drop ht)
        · rw [List.mem_singleton.mp ht, Th.Fit]
          refine ⟨?_, Fits.of fun u hu => ?_⟩
          · have : (k0.1, (((ts ++ [lft, lft]).take kn).length : Int)) = k0 := Prod.ext rfl (by
              show ((((ts ++ [lft, lft]).take kn).length : Nat) : Int) = k0.2
              rw [List.length_take, List.length_append]
              show ((min kn (ts.length + 2) : Nat) : Int) = k0.2
              (first | lia | omega))
            rw [this]
            exact hm0
          · rcases List.mem_append.mp (List.mem_of_mem_take hu) with hu | hu
            · exact hfit u hu
            · have : u = lft := by
                rcases List.mem_cons.mp hu with h | h
                · exact h
                · exact List.mem_singleton.mp h
              rw [this]
              exact hlfit

    | false =>
      refine iteF ?_
      refine ⟨_, rfl, _, rfl, line_le (by show 1 ≤ 1000000; decide), fun l1 hl1 => ?_⟩
      have s7 := same_new hl1 (.lst [.ref lf])
      refine ⟨rw, l1, _, _, rfl, rfl, s7 _ _ erw, upd_same, line_le (by rw [List.length_map]; show es.length + 1 ≤ 1000000; (first | lia | omega)), fun cr hcr => ?_⟩
      have s8 := s7.trans (same_new hcr (.lst (es.map V.ref ++ [.ref lf])))
      have erw8 := s8 _ _ erw
      obtain ⟨e0, t0, he0, hE0, hF0, hT0⟩ : ∃ e0 t0, (es ++ [lf])[es.length - 1]? = some e0 ∧ EH H6 t0 e0 ∧ t0.Fit ins ∧ t0.tall ≤ 79 := by
        by_cases hz : es.length = 0
        · refine ⟨lf, _, ?_, hlf.mono (Same.kt s6), hlfit, by (first | lia | omega)⟩
          rw [List.length_eq_zero_iff.mp hz]
          rfl
        · obtain ⟨e0, he0⟩ : ∃ e0, es[es.length - 1]? = some e0 := ⟨_, List.getElem?_eq_getElem (by (first | lia | omega))⟩
          obtain ⟨t0, ht0, hE0⟩ := P2.get' hes he0
          exact ⟨e0, t0, by rw [List.getElem?_append_left (by (first | lia | omega))]; exact he0, hE0, hfit t0 (List.mem_of_getElem? ht0), by have := h80 t0 (List.mem_of_getElem? ht0); (first | lia | omega)⟩
      obtain ⟨ta0, ee0, hA0⟩ := hE0
      have hix : atI (es.map V.ref ++ [.ref lf]) (if ((es.map V.ref).length : Int) - 1 > 0 then ((es.map V.ref).length : Int) - 1 else 0) = some (.ref e0) := by
        have hi : (if ((es.map V.ref).length : Int) - 1 > 0 then ((es.map V.ref).length : Int) - 1 else 0) = ((es.length - 1 : Nat) : Int) := by
          rw [List.length_map]
          split <;> (first | lia | omega)
        rw [hi]
        refine atI_nat ?_
        have : es.map V.ref ++ [V.ref lf] = (es ++ [lf]).map V.ref := by rw [List.map_append]; rfl
        rw [this, List.getElem?_map, he0]
        rfl
      refine ⟨_, rfl, rw, _, rfl, .inl (SqL.of erw8), _, _, rfl, rfl, _, _, rfl, cr, _, _, .ref e0, rfl, rfl, SqL.of upd_same, hix, e0, _, 0, .ref ta0, rfl, rfl, SqT.of (s8 _ _ ee0), at0, ?_⟩
      exact q t0 ta0 _ ((sb.trans s6).trans s8) (hA0.mono (Same.kt s8)) hF0 hT0
end
theorem ats_of_get {H : Hp} : ∀ {ts : List Th} {as : List Addr}, ts.length = as.length → (∀ (i : Nat) (a : Addr) (t : Th), as[i]? = some a → ts[i]? = some t → At H t a) → Ats H ts as
  | [], [], _, _ => .nil
  | [], a :: as, h, _ => by simp at h
  | t :: ts, [], h, _ => by simp at h
  | t :: ts, a :: as, h, g => .cons (g 0 a t rfl rfl) (ats_of_get (by simpa using h) fun i b u hb hu => g (i + 1) b u (by simpa using hb) (by simpa using hu))
theorem rep_one (n : Nat) (z : Addr) : (List.replicate n [V.ref z]).flatten = (List.replicate n z).map V.ref := by
  induction n with
  | zero => rfl
  | succ n ih => rw [List.replicate_succ, List.flatten_cons, ih, List.replicate_succ]; rfl
theorem wr_split {H : Hp} {R : Th → Prop} : ∀ {ts : List Th} {as : List Addr}, Paired (fun (_ : Th) a => ∃ t', At H t' a ∧ R t') ts as → ∃ ts' : List Th, ts'.length = ts.length ∧ Ats H ts' as ∧ ∀ t ∈ ts', R t
  | _, _, .nil => ⟨[], rfl, .nil, fun t ht => by cases ht⟩
  | _, _, .cons r h => by
    obtain ⟨t', h1, h2⟩ := r
    obtain ⟨ts', g1, g2, g3⟩ := wr_split h
    refine ⟨t' :: ts', by rw [List.length_cons, List.length_cons, g1], .cons h1 g2, fun t ht => ?_⟩
    rcases List.mem_cons.mp ht with rfl | ht
    · exact h2
    · exact g3 t ht
def sp__law_wrapped : Nat → Sp
  | 0 => fun _ _ _ _ => False
  | n + 1 => fun vs H Q _ => ∃ (pa ka la : Addr) (outs : List (Str × Int)) (S C : Int) (p : Th) (k1 : Str × Int) (ln : Str) (many : Int), vs = [.ref pa, .ref ka, .ref la, .int many] ∧ At H p pa ∧ p.FitS outs S C ∧ GoodN outs ∧ KAt H k1 ka ∧ k1 ∈ outs ∧ 0 < k1.2 ∧ At H (.knot ln []) la ∧ (ln, (0 : Int)) ∈ outs ∧ 0 ≤ many ∧ many ≤ 20 ∧ p.tall ≤ n + 1 ∧ ∀ (p' : Th) (r : Addr) (H' : Hp), L2.Same H H' → At H' p' r → p'.FitS outs S C → p'.tall ≤ p.tall + many.toNat → Q (.ref r) H'
section
variable {P : Program} {w : World} {K : PySem.W.Frag} {mg : Str → Option Value} {base : Heap} (T : TX K mg)
set_option maxHeartbeats 2000000 in
theorem ok__law_wrapped : ∀ n : Nat, FnOk P w K mg base CX0 n T.f__law_wrapped T.d__law_wrapped ["pattern", "kind", "leaf", "many"] (sp__law_wrapped n)
  | 0 => ⟨fun _ _ _ _ h => h.elim, fun _ _ _ _ _ _ _ _ _ _ _ _ _ h => h.elim⟩
  | n + 1 => by
    have ih := ok__law_wrapped n
    refine T.F__law_wrapped.ok sc__law_wrapped (fun vs H Q E h => ?_) (fun cdv A outer s H vs Q E hr h => ?_)
    · obtain ⟨pa, ka, la, outs, S, C, p, k1, ln, many, rfl, _⟩ := h
      rfl
    obtain ⟨pa, ka, la, outs, S, C, p, k1, ln, many, rfl, hA, hF, go, eka, hm1, hk1', hlA, hlm, m0, m1, htl, q⟩ := h
    refine ⟨_, (pss_cons (ps_if (pt_cmpR op_eq (pe_ix ix_tup (pv 0) pe_int (fun _ _ => rfl)) pe_str (nomark _)) (pss_cons (ps_for PassesOwn.never rfl (pi_range1 rfl T.n_range (pa_cons (pv 3) pa_nil)) (pg_name (i := 4) sc__law_wrapped.nd rfl (Or.inl rfl)) (pss_cons (ps_set (i := 5) sc__law_wrapped.nd rfl (Or.inl rfl) (pe_op op_rep (pe_lst (pa_cons (pv 2) pa_nil)) (pe_ix ix_tup (pv 1) pe_int (fun _ _ => rfl))))
      (pss_cons (ps_asg (pv 0) (pg_sub (pv 5) (pe_op op_mod (pv 4) (pe_ix ix_tup (pv 1) pe_int (fun _ _ => rfl))) set_list))
      (pss_one (ps_set (i := 0) sc__law_wrapped.nd rfl (Or.inl rfl) (pe_op op_catA (pe_tup (pa_cons (pe_ix ix_tup (pv 1) pe_int (fun _ _ => rfl)) pa_nil)) (pe_callTy call_tuple_of rfl T.n_tuple PyProof.Rows.boot_tuple (pa_cons (pv 5) pa_nil))))))))
      (pss_one (ps_ret (pv 0)))) pss_nil)
      (pss_one (ps_ret (pe_op op_catA (pe_tup (pa_cons (pe_ix ix_tup (pv 0) pe_int (fun _ _ => rfl)) pa_nil)) (pe_callTy call_tuple_of rfl T.n_tuple PyProof.Rows.boot_tuple (pa_cons (pe_comp (N := [Str.ofString "part", Str.ofString "kind", Str.ofString "leaf", Str.ofString "many"]) (js := [none, some 1, some 2, some 3]) (g := (gName 0)) (tt := tNoTest) (te := (tCall (sp__law_wrapped _) [] E0 (tCons (tVar 0) (tCons (tVar 1) (tCons (tVar 2) (tCons (tVar 3) tNil)))))) rfl (cs_mk rfl (by decide +kernel) (by decide +kernel) rfl rfl rfl) (pi_tup (pe_slice sl_tup (pv 0) (po_some pe_int) po_none)) (fun _ _ _ _ _ _ => (pg_name (i := 0) nd_4 rfl (Or.inl rfl))) (gk_name rfl) (fun _ _ _ _ _ _ => pts_nil) (fun _ _ _ _ _ _ => (pe_call (ih) (hr.mono (Nat.le_refl _)) rfl T.m__law_wrapped T.F__law_wrapped.kp T.b__law_wrapped .nil pass0 (pa_cons (pv 0) (pa_cons (pv 1) (pa_cons (pv 2) (pa_cons (pv 3) pa_nil))))))) pa_nil)))))), ?_⟩
    have hnum := go.num k1 hm1
    cases p with
    | call sn cn =>
      have hA' := hA
      rw [At] at hA'
      refine ⟨_, rfl, pa, _, 0, .str BB.q, rfl, rfl, SqT.of hA', at0, rfl, _, rfl, ?_⟩
      refine ite2 (fun _ => ?_) (fun c => absurd (decide_eq_true rfl) c)
      refine ⟨_, rfl, _, rfl, by (first | lia | omega), by (first | lia | omega), ?_⟩
      have hlF : (Th.knot ln []).FitS outs S C := by
        rw [Th.FitS, FitSs]
        exact ⟨hlm, trivial⟩
      have hlT : (Th.knot ln []).tall ≤ 1 := by rw [Th.tall, talls]; exact Nat.le_refl _
      generalize Th.knot ln [] = lft at hlA hlF hlT
      refine for_range (n := many.toNat) (fun i σ H5 => ∃ (ta : Addr) (t : Th) (c5 c6 : Option V), σ = [some (.ref ta), some (.ref ka), some (.ref la), some (.int many), c5, c6] ∧ L2.Same H H5 ∧ At H5 t ta ∧ t.FitS outs S C ∧ t.tall ≤ 1 + i)
        ⟨pa, .call sn cn, none, none, rfl, .refl _, hA, hF, by rw [Th.tall]; exact Nat.le_refl _⟩ ?_ ?_
      · rintro i σ H5 hi ⟨ta, t, c5, c6, rfl, s5, hA5, hF5, hT5⟩
        have eka5 : H5 ka = some (.tup [.str k1.1, .int k1.2]) := s5 _ _ eka
        refine ⟨_, rfl, line_le (by show 1 ≤ 1000000; decide), fun l1 hl1 => ?_⟩
        have sa := same_new hl1 (.lst [.ref la])
        have e1 : (upd H5 l1 (.lst [.ref la])) l1 = some (.lst [.ref la]) := upd_same
        generalize (upd H5 l1 (.lst [.ref la])) = H6 at sa e1 ⊢
        refine ⟨_, rfl, ka, _, 1, _, rfl, rfl, SqT.of (sa _ _ eka5), at1, l1, _, _, rfl, rfl, e1, by (first | lia | omega), by (first | lia | omega), line_le (by show 1 * k1.2.toNat ≤ 1000000; (first | lia | omega)), fun kl hkl => ?_⟩
        dsimp only
        rw [rep_one]
        obtain ⟨kn, hkn⟩ : ∃ kn : Nat, k1.2.toNat = kn := ⟨_, rfl⟩
        rw [hkn]
        have s7 : L2.Same H6 (upd H6 kl (.lst ((List.replicate kn la).map V.ref))) := same_new hkl _
        have e7 : (upd H6 kl (.lst ((List.replicate kn la).map V.ref))) kl = some (.lst ((List.replicate kn la).map V.ref)) := upd_same
        generalize (upd H6 kl (.lst ((List.replicate kn la).map V.ref))) = H7 at s7 e7 ⊢
        have eka7 := s7 _ _ (sa _ _ eka5)
        have y0 := Int.emod_nonneg (0 + (i : Int)) (show k1.2 ≠ 0 by (first | lia | omega))
        have y1 := Int.emod_lt_of_pos (0 + (i : Int)) hk1'
        obtain ⟨ix, hix⟩ : ∃ ix : Nat, (0 + (i : Int)) % k1.2 = (ix : Int) := ⟨_, (Int.toNat_of_nonneg y0).symm⟩
        refine ⟨_, rfl, _, rfl, _, rfl, _, rfl, ka, _, 1, _, rfl, rfl, SqT.of eka7, at1, _, _, rfl, rfl, hk1', kl, _, _, ix, rfl, rfl, e7, ?_, ?_⟩
        · rw [hix]
          unfold ixN
          rw [if_pos (by (first | lia | omega)), if_pos (by rw [List.length_map, List.length_replicate]; (first | lia | omega))]
          simp
        have e8 : (upd H7 kl (.lst (((List.replicate kn la).map V.ref).set ix (.ref ta)))) kl = some (.lst (((List.replicate kn la).set ix ta).map V.ref)) := by rw [upd_same, List.map_set]
        have kt8 : KT H7 (upd H7 kl (.lst (((List.replicate kn la).map V.ref).set ix (.ref ta)))) := kt_lst e7
        have hkl5 : H5 kl = none := sa.free hkl
        have s8 : L2.Same H5 (upd H7 kl (.lst (((List.replicate kn la).map V.ref).set ix (.ref ta)))) := same_upd (sa.trans s7) hkl5
        generalize (upd H7 kl (.lst (((List.replicate kn la).map V.ref).set ix (.ref ta)))) = H8 at e8 kt8 s8 ⊢
        have hats : Ats H8 ((List.replicate kn lft).set ix t) ((List.replicate kn la).set ix ta) := by
          refine ats_of_get (by rw [List.length_set, List.length_set, List.length_replicate, List.length_replicate]) fun j a u ha hu => ?_
          by_cases hj : ix = j
          · subst hj
            rw [List.getElem?_set_self (by rw [List.length_replicate]; (first | lia | omega))] at ha hu
            cases ha
            cases hu
            exact hA5.mono (Same.kt s8)
          · rw [List.getElem?_set_ne hj] at ha hu
            have h1 := List.eq_of_mem_replicate (List.mem_of_getElem? ha)
            have h2 := List.eq_of_mem_replicate (List.mem_of_getElem? hu)
            rw [h1, h2]
            exact hlA.mono (Same.kt (s5.trans s8))
        refine ⟨_, rfl, ka, _, 0, .str k1.1, rfl, rfl, SqT.of (s8 _ _ eka5), at0, line_le (by show 1 ≤ 1000000; decide), fun p1 hp1 => ?_⟩
        dsimp only
        have s9 := same_new hp1 (.tup [.str k1.1])
        have e9 : (upd H8 p1 (.tup [.str k1.1])) p1 = some (.tup [.str k1.1]) := upd_same
        generalize (upd H8 p1 (.tup [.str k1.1])) = H9 at s9 e9 ⊢
        refine ⟨_, rfl, kl, _, rfl, .inl ⟨SqL.of (s9 _ _ e8), fun tp htp => ?_⟩⟩
        have s10 := same_new htp (.tup (((List.replicate kn la).set ix ta).map V.ref))
        have e10 : (upd H9 tp (.tup (((List.replicate kn la).set ix ta).map V.ref))) tp = some (.tup (((List.replicate kn la).set ix ta).map V.ref)) := upd_same
        generalize (upd H9 tp (.tup (((List.replicate kn la).set ix ta).map V.ref))) = H10 at s10 e10 ⊢
        refine catT (s10 _ _ e9) e10 (by rw [List.length_map, List.length_set, List.length_replicate]; show 1 + kn ≤ 1000000; (first | lia | omega)) fun p H11 s11 e11 => ?_
        have s811 := s9.trans (s10.trans s11)
        refine ⟨p, .knot k1.1 ((List.replicate kn lft).set ix t), _, _, rfl, s5.trans (s8.trans s811), ?_, ?_, ?_⟩
        · rw [At]
          exact ⟨low_q (go.low k1 hm1).1, _, e11, hats.mono (Same.kt s811)⟩
        · rw [Th.FitS]
          refine ⟨?_, FitSs.of fun u hu => ?_⟩
          · have : (k1.1, (((List.replicate kn lft).set ix t).length : Int)) = k1 := Prod.ext rfl (by
              show ((((List.replicate kn lft).set ix t).length : Nat) : Int) = k1.2
              rw [List.length_set, List.length_replicate]
              (first | lia | omega))
            rw [this]
            exact hm1
          · rcases List.mem_or_eq_of_mem_set hu with hu | hu
            · rw [List.eq_of_mem_replicate hu]
              exact hlF
            · rw [hu]
              exact hF5
        · rw [Th.tall]
          have : talls ((List.replicate kn lft).set ix t) ≤ 1 + i := talls_all fun u hu => by
            rcases List.mem_or_eq_of_mem_set hu with hu | hu
            · rw [List.eq_of_mem_replicate hu]
              (first | lia | omega)
            · rw [hu]
              exact hT5
          (first | lia | omega)
      · rintro σ H5 ⟨ta, t, c5, c6, rfl, s5, hA5, hF5, hT5⟩
        exact ⟨_, rfl, q t ta H5 s5 hA5 hF5 (by rw [Th.tall]; exact hT5)⟩
    | knot m ts =>
      rw [Th.tall] at htl
      have hF' := hF
      rw [Th.FitS] at hF'
      have hw : ts.length ≤ 3 := by
        have := (go.num _ hF'.1).2
        have h2 : ((ts.length : Nat) : Int) ≤ 3 := this
        (first | lia | omega)
      rw [At] at hA
      obtain ⟨hmq, tas, ea, hta⟩ := hA
      have htal : tas.length = ts.length := hta.length
      refine ⟨_, rfl, pa, _, 0, .str m, rfl, rfl, SqT.of ea, at0, rfl, _, rfl, ?_⟩
      refine ite2 (fun c => absurd (of_decide_eq_true c) (fun z => hmq (V.str.inj z))) (fun _ => ?_)
      refine ⟨_, rfl, pa, _, 0, .str m, rfl, rfl, SqT.of ea, at0, line_le (by show 1 ≤ 1000000; decide), fun p1 hp1 => ?_⟩
      dsimp only
      have s1 : L2.Same H (upd H p1 (.tup [.str m])) := same_new hp1 _
      have e1 : (upd H p1 (.tup [.str m])) p1 = some (.tup [.str m]) := upd_same
      generalize (upd H p1 (.tup [.str m])) = H1 at s1 e1 ⊢
      refine ⟨_, rfl, 1, rfl, pa, _, rfl, SqT.of (s1 _ _ ea), ?_, fun p2 hp2 => ?_⟩
      · rintro ⟨z, _⟩
        rw [List.length_cons, show (1 : Int) = ((1 : Nat) : Int) by rfl, HT.sIx_nat] at z
        (first | lia | omega)
      dsimp only
      rw [cut_tail]
      have s2 : L2.Same H1 (upd H1 p2 (.tup (tas.map V.ref))) := same_new hp2 _
      have e2 : (upd H1 p2 (.tup (tas.map V.ref))) p2 = some (.tup (tas.map V.ref)) := upd_same
      generalize (upd H1 p2 (.tup (tas.map V.ref))) = H2 at s2 e2 ⊢
      have s02 := s1.trans s2
      refine ⟨p2, rfl, ⟨_, SqT.of e2⟩, comp_nw (F := fun H (_ : Th) a => ∃ t', At H t' a ∧ t'.FitS outs S C ∧ t'.tall ≤ talls ts + many.toNat) (xs := tas.map V.ref) ts (fun H1 H2 z p kt h => by obtain ⟨t', h1, h2⟩ := h; exact ⟨t', h1.mono kt, h2⟩) (by rw [List.length_map]; (first | lia | omega)) (by rw [List.length_map]; (first | lia | omega)) (fun i Hx sx hi => ⟨_, _, SqT.of (sx _ _ e2), List.getElem?_eq_getElem hi⟩) (fun Hx sx => ⟨_, SqT.of (sx _ _ e2), Nat.le_refl _⟩) (fun i Hx x Hy sx hi hy => ⟨hy.1, hy.2 _ (SqT.of (sx _ _ e2))⟩) (fun i x z Hx R W' hx hzz sx hR => ?_) (fun D H3 as hD s3 eD hpD => ?_)⟩
      · obtain ⟨ua, rfl, hua⟩ := get_ref hx
        obtain ⟨u, hu, atu⟩ := hta.get hua
        have hum : u ∈ ts := List.mem_of_getElem? hu
        have htu := talls_le hum
        have hut := u.tall_eq
        have s0x := s02.trans sx
        cases n with
        | zero => (first | lia | omega)
        | succ n =>
        refine ⟨_, rfl, _, rfl, _, rfl, _, rfl, ua, ka, la, outs, S, C, u, k1, ln, many, rfl, atu.mono (Same.kt s0x), fitSs_mem hF'.2 u hum, go, s0x _ _ eka, hm1, hk1', hlA.mono (Same.kt s0x), hlm, m0, m1, by (first | lia | omega), fun p' r H4 s4 hr4 hf4 ht4 => ?_⟩
        exact hR H4 r s4 ⟨p', hr4, hf4, by (first | lia | omega)⟩
      have hal : ts.length = as.length := Paired.length hpD
      obtain ⟨ts', hl', hts', hok'⟩ := wr_split (R := fun t' => t'.FitS outs S C ∧ t'.tall ≤ talls ts + many.toNat) hpD
      refine ⟨D, _, rfl, .inl ⟨SqL.of eD, fun tp htp => ?_⟩⟩
      have s4 : L2.Same H3 (upd H3 tp (.tup (as.map V.ref))) := same_new htp _
      have e4 : (upd H3 tp (.tup (as.map V.ref))) tp = some (.tup (as.map V.ref)) := upd_same
      generalize (upd H3 tp (.tup (as.map V.ref))) = H4 at s4 e4 ⊢
      refine catT (s4 _ _ (s3 _ _ (s2 _ _ e1))) e4 (by rw [List.length_map]; show 1 + as.length ≤ 1000000; (first | lia | omega)) fun p H5 s5 e5 => ?_
      refine q (.knot m ts') p H5 (s02.trans (s3.trans (s4.trans s5))) ?_ ?_ ?_
      · rw [At]
        exact ⟨hmq, as, e5, hts'.mono (Same.kt (s4.trans s5))⟩
      · rw [Th.FitS, hl']
        exact ⟨hF'.1, FitSs.of fun t ht => (hok' t ht).1⟩
      · rw [Th.tall, Th.tall]
        have := talls_all fun t ht => (hok' t ht).2
        (first | lia | omega)
end
theorem row_split {α : Type} {H : Hp} {R : α → Th → Prop} : ∀ {zs : List α} {as : List Addr}, Paired (fun z a => ∃ t', At H t' a ∧ R z t') zs as → ∃ ts' : List Th, ts'.length = zs.length ∧ Ats H ts' as ∧ ∀ (i : Nat) (z : α) (t : Th), zs[i]? = some z → ts'[i]? = some t → R z t
  | _, _, .nil => ⟨[], rfl, .nil, fun i z t h => by simp at h⟩
  | _, _, .cons r h => by
    obtain ⟨t', h1, h2⟩ := r
    obtain ⟨ts', g1, g2, g3⟩ := row_split h
    refine ⟨t' :: ts', by rw [List.length_cons, List.length_cons, g1], .cons h1 g2, fun i z t hz ht => ?_⟩
    cases i with
    | zero =>
      simp at hz ht
      subst hz; subst ht
      exact h2
    | succ i => exact g3 i z t (by simpa using hz) (by simpa using ht)
theorem book_up {ins outs : List (Str × Int)} {S : Int} {d d' : Nat} {head : Th} {rows : List (List Th)} (h : BookOk ins outs S d head rows) (hd : d ≤ d') : BookOk ins outs S d' head rows := by
  refine ⟨h.len, fun row hr => ⟨(h.row row hr).len, fun j t k h1 h2 => ?_⟩, h.hdf, h.hdt⟩
  have := (h.row row hr).fit j t k h1 h2
  exact ⟨this.1, by (first | lia | omega)⟩
def sp__law_setting (K : PySem.W.Frag) : Sp := fun vs H Q _ => ∃ (a : Addr) (ns : List Int) (most deep : Int), vs = [.ref a, .int most, .int deep] ∧ SqL K H a (ns.map V.int) ∧ ns.length ≤ 63 ∧ 0 ≤ most ∧ most ≤ 100 ∧ 0 ≤ deep ∧ deep < 4 ∧ ∀ (r b ta : Addr) (ins outs : List (Str × Int)) (head : Th) (rows : List (List Th)) (S : Int) (t : Th) (H' : Hp), L2.Same H H' → H' r = some (.tup [.ref b, .ref ta]) → Bk H' ins outs head rows b → GoodN ins → GoodN outs → BookOk ins outs S (deep.toNat + 9) head rows → S ≤ 100 → At H' t ta → t.Fit ins → t.tall ≤ 79 → Q (.ref r) H'
section
variable {P : Program} {w : World} {K : PySem.W.Frag} {mg : Str → Option Value} {base : Heap} (T : TX K mg)
set_option maxHeartbeats 4000000 in
theorem ok__law_setting : FnOk P w K mg base CX0 10 T.f__law_setting T.d__law_setting ["script", "most", "deep"] (sp__law_setting K) := by
  refine T.F__law_setting.ok sc__law_setting (fun vs H Q E h => ?_) (fun cdv A outer s H vs Q E hr h => ?_)
  · obtain ⟨a, ns, most, deep, rfl, _⟩ := h
    rfl
  obtain ⟨a, ns, most, deep, rfl, hS, hns, m0, m1, d0, d1, q⟩ := h
  refine ⟨_, (pss_cons (ps_set (i := 3) sc__law_setting.nd rfl (Or.inl rfl) (pe_call (ok__law_kinds T) (hr.mono (by first | decide | (first | lia | omega))) rfl T.m__law_kinds T.F__law_kinds.kp T.b__law_kinds .nil pass0 (pa_cons (pe_call (ok__law_cell T) (hr.mono (by first | decide | (first | lia | omega))) rfl T.m__law_cell T.F__law_cell.kp T.b__law_cell .nil pass0 (pa_cons (pv 0) (pa_cons pe_int pa_nil))) (pa_cons pe_str pa_nil))))
      (pss_cons (ps_set (i := 4) sc__law_setting.nd rfl (Or.inl rfl) (pe_call (ok__law_kinds T) (hr.mono (by first | decide | (first | lia | omega))) rfl T.m__law_kinds T.F__law_kinds.kp T.b__law_kinds .nil pass0 (pa_cons (pe_call (ok__law_cell T) (hr.mono (by first | decide | (first | lia | omega))) rfl T.m__law_cell T.F__law_cell.kp T.b__law_cell .nil pass0 (pa_cons (pv 0) (pa_cons pe_int pa_nil))) (pa_cons (pe_ix ix_list (pe_lst (pa_cons pe_str (pa_cons pe_str pa_nil))) (pe_op op_mod (pe_op op_fdiv (pe_call (ok__law_cell T) (hr.mono (by first | decide | (first | lia | omega))) rfl T.m__law_cell T.F__law_cell.kp T.b__law_cell .nil pass0 (pa_cons (pv 0) (pa_cons pe_int pa_nil))) pe_int) pe_int) (fun _ _ => rfl)) pa_nil))))
      (pss_cons (ps_set (i := 5) sc__law_setting.nd rfl (Or.inl rfl) (pe_call (ok__law_cell T) (hr.mono (by first | decide | (first | lia | omega))) rfl T.m__law_cell T.F__law_cell.kp T.b__law_cell .nil pass0 (pa_cons (pv 0) (pa_cons pe_int pa_nil))))
      (pss_cons (ps_set (i := 6) sc__law_setting.nd rfl (Or.inl rfl) (pe_call (ok__law_book T) (hr.mono (by first | decide | (first | lia | omega))) rfl T.m__law_book T.F__law_book.kp T.b__law_book .nil pass0 (pa_cons (pv 5) (pa_cons (pv 3) (pa_cons (pv 4) (pa_cons (pe_op op_mod (pe_op op_fdiv (pv 5) pe_int) (pe_op op_add (pv 1) pe_int)) (pa_cons (pv 2) pa_nil)))))))
      (pss_cons (ps_set (i := 7) sc__law_setting.nd rfl (Or.inr rfl) (pe_call (ok__law_turn T) (hr.mono (by first | decide | (first | lia | omega))) rfl T.m__law_turn T.F__law_turn.kp T.b__law_turn .nil pass0 (pa_cons (pv 5) (pa_cons pe_int pa_nil))))
      (pss_cons (ps_setC (i := 8) (N := [Str.ofString "kind"]) (js := [none]) (g := (gName 0)) (tt := (tTest (tOp (rI0 fun i j => .bl (decide (j < i))) (tOp (rIxT K) (tVar 0) (tC (.int 1))) (tC (.int 0))))) (te := (tVar 0)) sc__law_setting.nd rfl (Or.inl rfl) rfl (cs_mk rfl (by decide +kernel) (by decide +kernel) rfl rfl rfl) (pi_tup (pv 4)) (fun _ _ _ _ _ _ => (pg_name (i := 0) nd_0 rfl (Or.inl rfl))) (gk_name rfl) (fun _ _ _ _ _ _ => pts_one (pt_cmpR op_gt (pe_ix ix_tup (pv 0) pe_int (fun _ _ => rfl)) pe_int (nomark _))) (fun _ _ _ _ _ _ => (pv 0)))
      (pss_cons (ps_if (PW.pt (pw_and (pt_cmpR op_eq (pe_op op_mod (pv 7) pe_int) pe_int (nomark _)) (pw_and1 (pt_cmpR op_gt (pe_callB call_len_seq rfl T.n_len PySem.boot_len (pa_cons (pv 8) pa_nil)) pe_int (nomark _))))) (pss_cons (ps_set (i := 9) sc__law_setting.nd rfl (Or.inr rfl) (pe_tup (pa_cons (pe_ix ix_tup (pe_call (ok__law_leaf T) (hr.mono (by first | decide | (first | lia | omega))) rfl T.m__law_leaf T.F__law_leaf.kp T.b__law_leaf .nil pass0 (pa_cons (pv 4) (pa_cons (pe_op op_fdiv (pv 7) pe_int) pa_nil))) pe_int (fun _ _ => rfl)) pa_nil)))
      (pss_cons (ps_set (i := 10) sc__law_setting.nd rfl (Or.inr rfl) (pe_ix ix_list (pv 8) (pe_op op_mod (pe_op op_fdiv (pv 7) pe_int) (pe_callB call_len_seq rfl T.n_len PySem.boot_len (pa_cons (pv 8) pa_nil))) (fun _ _ => rfl)))
      (pss_cons (ps_set (i := 11) sc__law_setting.nd rfl (Or.inl rfl) (pe_lst pa_nil))
      (pss_cons (ps_for PassesOwn.never rfl (pi_tup (pe_ix ix_tup (pv 6) pe_int (fun _ _ => rfl))) (pg_name (i := 12) sc__law_setting.nd rfl (Or.inl rfl)) (pss_one (ps_expr (pe_bm PySem.F.plainAttrs_list PySem.F.slot_list_append PySem.F.type_list_append mt_append (pv 11) (pa_cons (pe_callTy call_tuple_of rfl T.n_tuple PyProof.Rows.boot_tuple (pa_cons (pe_comp (N := [Str.ofString "pattern", Str.ofString "kind", Str.ofString "leaf", Str.ofString "rest"]) (js := [none, some 10, some 9, some 7]) (g := (gName 0)) (tt := tNoTest) (te := (tCall (sp__law_wrapped _) [] E0 (tCons (tVar 0) (tCons (tVar 1) (tCons (tVar 2) (tCons (tOp (rI0 fun i j => .int (i + j)) (tC (.int 1)) (tOp (rI (fun _ j => 0 < j) fun i j => .int (i % j)) (tOp (rI CDiv fun i j => .int (i / j)) (tVar 3) (tC (.int 7))) (tC (.int 9)))) tNil)))))) rfl (cs_mk rfl (by decide +kernel) (by decide +kernel) rfl rfl rfl) (pi_tup (pv 12)) (fun _ _ _ _ _ _ => (pg_name (i := 0) nd_5 rfl (Or.inl rfl))) (gk_name rfl) (fun _ _ _ _ _ _ => pts_nil) (fun _ _ _ _ _ _ => (pe_call (ok__law_wrapped T 5) (hr.mono (by first | decide | (first | lia | omega))) rfl T.m__law_wrapped T.F__law_wrapped.kp T.b__law_wrapped .nil pass0 (pa_cons (pv 0) (pa_cons (pv 1) (pa_cons (pv 2) (pa_cons (pe_op op_add pe_int (pe_op op_mod (pe_op op_fdiv (pv 3) pe_int) pe_int)) pa_nil))))))) pa_nil)) pa_nil)))))
      (pss_one (ps_set (i := 6) sc__law_setting.nd rfl (Or.inl rfl) (pe_tup (pa_cons (pv 3) (pa_cons (pv 4) (pa_cons (pe_ix ix_tup (pv 6) pe_int (fun _ _ => rfl)) (pa_cons (pe_callTy call_tuple_of rfl T.n_tuple PyProof.Rows.boot_tuple (pa_cons (pv 11) pa_nil)) pa_nil))))))))))) pss_nil)
      (pss_one (ps_ret (pe_tup (pa_cons (pv 6) (pa_cons (pe_call (ok__law_tree T) (hr.mono (by first | decide | (first | lia | omega))) rfl T.m__law_tree T.F__law_tree.kp T.b__law_tree .nil pass0 (pa_cons (pe_slice sl_list (pv 0) (po_some pe_int) po_none) (pa_cons (pv 3) pa_nil))) pa_nil)))))))))))), ?_⟩
  refine ⟨_, rfl, a, ns, 0, rfl, hS, by decide, fun c => ⟨c, _, rfl, picks_a, fun ia ias ins H1 s1 ei hki gi => ?_⟩⟩
  refine ⟨_, rfl, a, ns, 1, rfl, s1.seq hS, by decide, fun c1 => ?_⟩
  refine ⟨line_le (by show 2 ≤ 1000000; decide), fun ll hll => ?_⟩
  have sl := same_new hll (.lst [.str (Str.ofString "npwz"), .str (Str.ofString "bdhk")])
  refine ⟨_, rfl, a, ns, 1, rfl, (s1.trans sl).seq hS, by decide, fun c2 => ?_⟩
  obtain ⟨lt, hlt, hpk⟩ : ∃ lt, atI [V.str (Str.ofString "npwz"), V.str (Str.ofString "bdhk")] (c2 / 3 % 2) = some (.str lt) ∧ Picks lt := by
    have z0 := Int.emod_nonneg (c2 / 3) (show (2 : Int) ≠ 0 by decide)
    have z1 := Int.emod_lt_of_pos (c2 / 3) (show (0 : Int) < 2 by decide)
    rcases (by (first | lia | omega) : c2 / 3 % 2 = 0 ∨ c2 / 3 % 2 = 1) with z | z <;> rw [z]
    · exact ⟨_, rfl, picks_b⟩
    · exact ⟨_, rfl, picks_a⟩
  refine ⟨_, _, rfl, rfl, ⟨by decide, by decide⟩, _, _, rfl, rfl, (by show (0 : Int) < 2; decide), ll, _, _, .str lt, rfl, rfl, SqL.of upd_same, hlt, ?_⟩
  refine ⟨c1, lt, rfl, hpk, fun oa oas outs H2 s2 eo hko go => ?_⟩
  have s12 : L2.Same H1 H2 := sl.trans s2
  have sH2 := s1.trans s12
  refine ⟨_, rfl, a, ns, 2, rfl, sH2.seq hS, by decide, fun cell => ?_⟩
  have z0 := Int.emod_nonneg (cell / 7) (show (most + 1) ≠ 0 by (first | lia | omega))
  have z1 := Int.emod_lt_of_pos (cell / 7) (show (0 : Int) < most + 1 by (first | lia | omega))
  refine ⟨_, rfl, _, rfl, _, rfl, _, rfl, _, _, rfl, rfl, ⟨by decide, by decide⟩, _, rfl, _, _, rfl, rfl, _, _, rfl, rfl, (by show (0 : Int) < most + 1; (first | lia | omega)), _, rfl, cell, ia, ias, ins, oa, oas, outs, _, deep, rfl, s12 _ _ ei, hki.mono (Same.kt s12), gi, eo, hko, go, z0, by (first | lia | omega), d0, by (first | lia | omega), fun r ha ra ras head rows H3 s3 b3 bo => ?_⟩
  have sH3 := sH2.trans s3
  have s13 := s12.trans s3
  have ei3 := s13 _ _ ei
  have hki3 := hki.mono (Same.kt s13)
  have eo3 := s3 _ _ eo
  have hko3 := hko.mono (Same.kt s3)
  have hSl : cell / 7 % (most + 1) ≤ 100 := by (first | lia | omega)
  generalize cell / 7 % (most + 1) = S at bo hSl
  refine ⟨_, rfl, _, _, rfl, by (first | lia | omega), by (first | lia | omega), fun rest r0 r1 => ?_⟩
  have ho8 := go.le
  refine ⟨_, rfl, oa, rfl, ⟨_, SqT.of eo3⟩, some_kinds0 (K := K) (fun k => decide (0 < k.2)) eo3 hko3 (by (first | lia | omega)) (fun z ka H2 R sm hz r => ⟨_, rfl, ka, _, 1, _, rfl, rfl, SqT.of hz, at1, _, _, rfl, rfl, _, rfl, r⟩) (fun ka H2 R r => ⟨_, rfl, r⟩) (fun wd bs H4 hD e' hb8 hbs => ?_)⟩
  have s4 : L2.Same H3 H4 := by rw [e']; exact same_new hD _
  have ewd : H4 wd = some (.lst (bs.map fun z => V.ref z.2)) := by rw [e']; exact upd_same
  clear e'
  have hwl : ((bs.map fun z => V.ref z.2).length : Int) = (bs.length : Int) := by rw [List.length_map]
  have b4 := b3.mono (Same.kt s4)
  dsimp only
  refine seq_intro (fun σ' H' => ∃ (b' : Addr) (rows' : List (List Th)) (c9 c10 c11 c12 : Option V), σ' = [some (.ref a), some (.int most), some (.int deep), some (.ref ia), some (.ref oa), some (.int cell), some (.ref b'), some (.int rest), some (.ref wd), c9, c10, c11, c12] ∧ L2.Same H4 H' ∧ Bk H' ins outs head rows' b' ∧ BookOk ins outs S (deep.toNat + 9) head rows') (fun kk hk => ?_) ?_
  · dsimp only
    refine if_intro (fun b H' => H4 = H' ∧ (b = true → 0 < bs.length)) (fun k2 hk2 => ?_) (fun H' hb => ?_) (fun H' hb => ?_)
    · refine ⟨_, rfl, _, _, rfl, rfl, (by show (0 : Int) < 5; decide), rfl, _, rfl, ?_⟩
      refine ite2 (fun c1 => ?_) (fun c1 => hk2 _ _ ⟨rfl, fun z => absurd z Bool.false_ne_true⟩)
      refine ⟨_, rfl, wd, _, rfl, .inl (SqL.of ewd), _, _, rfl, rfl, _, rfl, hk2 _ _ ⟨rfl, fun z => ?_⟩⟩
      have := of_decide_eq_true z
      (first | lia | omega)
    rotate_left
    · obtain ⟨rfl, _⟩ := hb
      exact hk _ _ ⟨r, rows, none, none, none, none, rfl, .refl _, ⟨_, _, _, _, _, _, _, b4⟩, book_up bo (by (first | lia | omega))⟩
    obtain ⟨rfl, hb⟩ := hb
    have hbl := hb rfl
    have eo4 := s4 _ _ eo3
    have hko4 := hko3.mono (Same.kt s4)
    refine ⟨_, rfl, _, rfl, _, _, rfl, rfl, ⟨by decide, by decide⟩, oa, oas, outs, _, rfl, eo4, hko4, go, fun k0 ka0 H5 s5 hm0 hz0 eka0 => ?_⟩
    refine ⟨ka0, _, 0, .str k0.1, rfl, rfl, SqT.of eka0, at0, line_le (by show 1 ≤ 1000000; decide), fun lf hlf => ?_⟩
    have s6 := s5.trans (same_new hlf (.tup [.str k0.1]))
    have elf : (upd H5 lf (.tup [.str k0.1])) lf = some (.tup [.str k0.1]) := upd_same
    generalize (upd H5 lf (.tup [.str k0.1])) = H6 at s6 elf ⊢
    have hlA : At H6 (.knot k0.1 []) lf := by
      rw [At]
      exact ⟨low_q (go.low k0 hm0).1, [], elf, .nil⟩
    have hlm : (k0.1, (0 : Int)) ∈ outs := by
      have : (k0.1, (0 : Int)) = k0 := Prod.ext rfl hz0.symm
      rw [this]
      exact hm0
    have ewd6 := s6 _ _ ewd
    have y0 := Int.emod_nonneg (rest / 5) (show ((bs.map fun z => V.ref z.2).length : Int) ≠ 0 by (first | lia | omega))
    have y1 := Int.emod_lt_of_pos (rest / 5) (show (0 : Int) < ((bs.map fun z => V.ref z.2).length : Int) by (first | lia | omega))
    obtain ⟨z, hz⟩ : ∃ z, bs[(rest / 5 % ((bs.map fun z => V.ref z.2).length : Int)).toNat]? = some z := ⟨_, List.getElem?_eq_getElem (by (first | lia | omega))⟩
    obtain ⟨hm1, hk1, ekaH⟩ := hbs z (List.mem_of_getElem? hz)
    obtain ⟨k1, ka⟩ := z
    dsimp only at hm1 hk1 ekaH hz
    have hk1' : (0 : Int) < k1.2 := of_decide_eq_true hk1
    have eka6 : KAt H6 k1 ka := s6 _ _ (s4 _ _ ekaH)
    refine ⟨_, rfl, _, rfl, _, _, rfl, rfl, ⟨by decide, by decide⟩, _, rfl, wd, _, rfl, .inl (SqL.of ewd6), _, _, rfl, rfl, (by show (0 : Int) < ((bs.map fun z => V.ref z.2).length : Int); (first | lia | omega)), wd, _, _, .ref ka, rfl, rfl, SqL.of ewd6, at_nonneg y0 (by rw [List.getElem?_map, hz]; rfl), ?_⟩
    refine ⟨line_le (by show 0 ≤ 1000000; decide), fun ru hru => ?_⟩
    have s7 : L2.Same H6 (upd H6 ru (.lst [])) := same_new hru _
    have e7 : (upd H6 ru (.lst [])) ru = some (.lst (([] : List Addr).map V.ref)) := upd_same
    generalize (upd H6 ru (.lst [])) = H7 at s7 e7 ⊢
    have s47 := s6.trans s7
    have b7 := b4.mono (Same.kt s47)
    have hrl : rows.length = ras.length := Paired.length b7.rw
    have hrS := bo.len
    have hil : ins.length = ias.length := Paired.length hki
    have hi8 := gi.le
    have w0 := Int.emod_nonneg (rest / 7) (show (9 : Int) ≠ 0 by decide)
    have w1 := Int.emod_lt_of_pos (rest / 7) (show (0 : Int) < 9 by decide)
    refine ⟨_, rfl, r, _, 3, .ref ra, rfl, rfl, SqT.of b7.bk, atI_nat (j := 3) rfl, ra, rfl, ⟨_, SqT.of b7.rl⟩, ?_⟩
    refine for_tup (K := K) (a := ra) (xs := ras.map V.ref) (fun i σ H8 => ∃ (c12 : Option V) (nas : List Addr) (nrows : List (List Th)), σ = [some (.ref a), some (.int most), some (.int deep), some (.ref ia), some (.ref oa), some (.int cell), some (.ref r), some (.int rest), some (.ref wd), some (.ref lf), some (.ref ka), some (.ref ru), c12] ∧ L2.Same H6 H8 ∧ H8 ru = some (.lst (nas.map V.ref)) ∧ Paired (RowAt H8) nrows nas ∧ nrows.length = i ∧ ∀ row ∈ nrows, RowOk ins outs S (deep.toNat + 9) row)
      ⟨none, [], [], rfl, s7, e7, .nil, rfl, fun row hrow => by cases hrow⟩ (fun i σ H8 _ ⟨_, _, _, _, s8, _⟩ => SqT.of (s8 _ _ (b4.mono (Same.kt s6)).rl)) ?_ ?_
    · rintro i x σ H8 hx ⟨c12, nas, nrows, rfl, s8, eru, hnr, hni, hnok⟩
      have hix : i < ras.length := by
        have := (List.getElem?_eq_some_iff.mp hx).1
        rw [List.length_map] at this
        exact this
      have b8 := b4.mono (Same.kt (s6.trans s8))
      obtain ⟨rowA, rfl, hrowA⟩ := get_ref hx
      obtain ⟨row, hrow, tas, erow, htas⟩ := P2.get' b8.rw hrowA
      have rok := bo.row row (List.mem_of_getElem? hrow)
      have htl := htas.length
      have hzl : (row.zip ins).length = row.length := by rw [List.length_zip, rok.len]; exact Nat.min_self _
      have hnl : nrows.length = nas.length := Paired.length hnr
      refine ⟨_, rfl, .inl ⟨rfl, _, SqL.of eru⟩, _, rfl, rowA, rfl, ⟨_, SqT.of erow⟩, comp_nw (F := fun H (z : Th × (Str × Int)) a => ∃ t', At H t' a ∧ t'.FitS outs S z.2.2 ∧ t'.tall ≤ deep.toNat + 9 + 1) (xs := tas.map V.ref) (row.zip ins) (fun H1 H2 z p kt h => by obtain ⟨t', h1, h2⟩ := h; exact ⟨t', h1.mono kt, h2⟩) (by rw [List.length_map]; (first | lia | omega)) (by rw [List.length_map, htl, rok.len]; (first | lia | omega)) (fun i Hx sx hi => ⟨_, _, SqT.of (sx _ _ erow), List.getElem?_eq_getElem hi⟩) (fun Hx sx => ⟨_, SqT.of (sx _ _ erow), Nat.le_refl _⟩) (fun i Hx x Hy sx hi hy => ⟨hy.1, hy.2 _ (SqT.of (sx _ _ erow))⟩) (fun i x z Hx R W' hx hzz sx hR => ?_) (fun D H9 as hD s9 eD hpD => ?_)⟩
      · obtain ⟨ua, rfl, hua⟩ := get_ref hx
        obtain ⟨u, hu, atu⟩ := htas.get hua
        obtain ⟨h1, h2⟩ := List.getElem?_zip_eq_some.mp hzz
        rw [hu] at h1
        cases h1
        obtain ⟨hf1, ht1⟩ := rok.fit i _ _ hu h2
        have s6x := s8.trans sx
        refine ⟨_, rfl, _, rfl, _, rfl, _, rfl, _, _, rfl, rfl, ⟨by decide, by decide⟩, _, _, rfl, rfl, (by show (0 : Int) < 9; decide), _, _, rfl, rfl, ua, ka, lf, outs, S, z.2.2, z.1, k1, k0.1, _, rfl, atu.mono (Same.kt sx), hf1, go, s6x _ _ eka6, hm1, hk1', hlA.mono (Same.kt s6x), hlm, by (first | lia | omega), by (first | lia | omega), (by show z.1.tall ≤ 5; (first | lia | omega)), fun p' r4 H4' s4' hr4 hf4 ht4 => ?_⟩
        exact hR H4' r4 s4' ⟨p', hr4, hf4, by (first | lia | omega)⟩
      · obtain ⟨ts', hl', hts', hok'⟩ := row_split (R := fun (z : Th × (Str × Int)) t' => t'.FitS outs S z.2.2 ∧ t'.tall ≤ deep.toNat + 9 + 1) hpD
        refine ⟨D, _, rfl, .inl ⟨SqL.of eD, fun tp htp => ?_⟩⟩
        have s10 : L2.Same H9 (upd H9 tp (.tup (as.map V.ref))) := same_new htp _
        have e10 : (upd H9 tp (.tup (as.map V.ref))) tp = some (.tup (as.map V.ref)) := upd_same
        generalize (upd H9 tp (.tup (as.map V.ref))) = H10 at s10 e10 ⊢
        have s810 := s9.trans s10
        have eru10 := s810 _ _ eru
        refine ⟨ru, _, _, rfl, rfl, eru10, line_big (by rw [List.length_map]; (first | lia | omega)), ?_⟩
        have kt : KT H10 (upd H10 ru (.lst (nas.map V.ref ++ [.ref tp]))) := kt_lst eru10
        refine ⟨_, nas ++ [tp], nrows ++ [ts'], rfl, same_upd (s8.trans s810) hru, by rw [upd_same, List.map_append]; rfl, P2.append (P2.mp (fun _ _ e => e.mono ((Same.kt s810).trans kt)) hnr) (.cons ⟨as, kt _ _ e10, hts'.mono ((Same.kt s10).trans kt)⟩ .nil), by rw [List.length_append, hni]; rfl, fun row' hrow' => ?_⟩
        rcases List.mem_append.mp hrow' with hrow' | hrow'
        · exact hnok row' hrow'
        · rw [List.mem_singleton.mp hrow']
          refine ⟨by rw [hl', hzl, rok.len], fun j t k h1 h2 => ?_⟩
          have hjl := (List.getElem?_eq_some_iff.mp h2).1
          obtain ⟨u, hu⟩ : ∃ u, row[j]? = some u := ⟨_, List.getElem?_eq_getElem (by rw [rok.len]; exact hjl)⟩
          exact hok' j (u, k) t (List.getElem?_zip_eq_some.mpr ⟨hu, h2⟩) h1
    · rintro σ H8 ⟨c12, nas, nrows, rfl, s8, eru, hnr, hni, hnok⟩
      rw [List.length_map] at hni
      have b8 := b4.mono (Same.kt (s6.trans s8))
      refine ⟨_, rfl, _, rfl, _, rfl, r, _, 2, .ref ha, rfl, rfl, SqT.of b8.bk, at2, _, rfl, ru, _, rfl, .inl ⟨SqL.of eru, fun tp htp => ?_⟩⟩
      have s9 : L2.Same H8 (upd H8 tp (.tup (nas.map V.ref))) := same_new htp _
      have e9 : (upd H8 tp (.tup (nas.map V.ref))) tp = some (.tup (nas.map V.ref)) := upd_same
      generalize (upd H8 tp (.tup (nas.map V.ref))) = H9 at s9 e9 ⊢
      refine ⟨line_le (by show 4 ≤ 1000000; decide), fun nb hnb => ?_⟩
      have s10 := same_new hnb (.tup [.ref ia, .ref oa, .ref ha, .ref tp])
      have s810 := s9.trans s10
      have b10 := b8.mono (Same.kt s810)
      refine hk _ _ ⟨nb, nrows, _, _, _, _, rfl, s6.trans (s8.trans s810), ⟨ia, oa, ha, tp, ias, oas, nas, ⟨upd_same, b10.inE, b10.inK, b10.outE, b10.outK, b10.hd, s10 _ _ e9, P2.mp (fun _ _ e => e.mono (Same.kt s810)) hnr⟩⟩, ⟨by (first | lia | omega), hnok, bo.hdf, bo.hdt⟩⟩
  rintro σ' H5 ⟨b', rows', c9, c10, c11, c12, rfl, s5, bk5, bo5⟩
  have s35 := s4.trans s5
  have sH5 := sH3.trans s35
  refine ⟨_, rfl, _, rfl, _, rfl, a, _, rfl, sH5.seq hS, fun sc hsc => ?_⟩
  have s6 := same_new hsc (.lst (cutV (ns.map V.int) (some 3) none))
  have hcut : (cutV (ns.map V.int) (some 3) none).length ≤ 60 := by
    by_cases h3 : 3 ≤ ns.length
    · rw [show (some (3 : Int)) = some ((3 : Nat) : Int) from rfl, cutV_from (by rw [List.length_map]; exact h3), List.length_drop, List.length_map]
      (first | lia | omega)
    · have hcl := cutV_length (ns.map V.int) (some 3) none
      rw [List.length_map] at hcl
      (first | lia | omega)
  refine ⟨_, rfl, sc, ia, _, ias, ins, rfl, upd_same, (fun v hv => ?_), hcut, s6 _ _ (s35 _ _ ei3), hki3.mono (Same.kt (s35.trans s6)), gi, fun t ta H7 s7 hA hF hT => ?_⟩
  · obtain ⟨z, _, rfl⟩ := List.mem_map.mp (List.mem_of_mem_drop (List.mem_of_mem_take hv))
    exact ⟨z, rfl⟩
  refine ⟨line_le (by show 2 ≤ 1000000; decide), fun rr hrr => ?_⟩
  have s8 := same_new hrr (.tup [.ref b', .ref ta])
  have s58 := s6.trans (s7.trans s8)
  exact q rr b' ta ins outs head rows' S t _ (sH5.trans s58) upd_same (bk5.mono (Same.kt s58)) gi go bo5 hSl (hA.mono (Same.kt s8)) hF hT
end
theorem run_empty_q : Str.ofString "" ≠ q := by decide +kernel
def RunI (b ha ta tl ah : Addr) (ins outs : List (Str × Int)) (rows : List (List Th)) (o : Th) (H : Hp) (m : Nat) (σ : St) (H2 : Hp) : Prop :=
  ∃ (tls as : List Addr) (done : List Th) (js : List Job) (c5 c6 c7 : Option V), σ = [some (.ref b), some (.ref ha), some (.ref ta), some (.ref tl), some (.ref ah), c5, c6, c7] ∧ L2.Same H H2 ∧ H2 tl = some (.lst (tls.map V.ref)) ∧ H2 ah = some (.lst (as.map V.ref)) ∧
    Paired (TopAt H2) (done.map (topOf Th.call)) tls ∧ Paired (JAt H2 ins rows) js as ∧ JInv outs o done js ∧ m = sizes (jos js)
def sp_runX (C : Addr) : Sp := fun vs H Q E => ∃ (b ha ta : Addr) (ins outs : List (Str × Int)) (head : Th) (rows : List (List Th)) (p t o : Th), vs = [.ref b, .ref ha, .ref ta] ∧ Bk H ins outs head rows b ∧ GoodN ins ∧ GoodN outs ∧ At H p ha ∧ At H t ta ∧ Out ins rows p (.knot (Str.ofString "") [t]) o ∧ o.Fit outs ∧ ((o.size ≤ 2000 ∧ o.tall ≤ 150) → ∀ (r : Addr) (H' : Hp), L2.Same H H' → At H' o r → Q (.ref r) H') ∧ (¬ (o.size ≤ 2000 ∧ o.tall ≤ 150) → ∀ H', L2.Same H H' → E (.ref C) none H')
section
variable {P : Program} {w : World} {K : PySem.W.Frag} {mg : Str → Option Value} {base : Heap} (T : TX K mg)
set_option maxHeartbeats 2000000 in
theorem ok_runX : FnOk P w K mg base (CX1 P w) 6 T.f_run T.d_run ["book", "head", "tree"] (sp_runX T.e_Great) := by
  refine T.F_run.ok1 sc_run (fun vs H Q E h => ?_) (fun cdv A outer s H vs Q E hr h => ?_)
  · obtain ⟨b, ha, ta, ins, outs, head, rows, p, t, o, rfl, _⟩ := h
    rfl
  obtain ⟨b, ha, ta, ins, outs, head, rows, p, t, o, rfl, hb, gi, go, hp, ht, hout, hfit, q, hE⟩ := h
  refine ⟨_, (pss_cons (ps_set (i := 3) sc_run.nd rfl (Or.inl rfl) (pe_lst pa_nil))
      (pss_cons (ps_set (i := 4) sc_run.nd rfl (Or.inl rfl) (pe_lst (pa_cons (pe_tup (pa_cons (pv 1) (pa_cons (pe_call (ok_above T) (hr.mono (by first | decide | (first | lia | omega))) rfl T.m_above T.F_above.kp T.b_above .nil pass0 (pa_cons (pv 2) pa_nil)) (pa_cons pe_int pa_nil)))) pa_nil)))
      (pss_cons (ps_while PassesOwn.leaving (pt_truth (pv 4) (fun _ => rfl)) (pss_cons (ps_asg (pe_bm0 PySem.F.plainAttrs_list PySem.F.slot_list_pop PySem.F.type_list_pop mt_pop (pv 4)) (pg_tup rfl (pgs_cons (pg_name (i := 5) sc_run.nd rfl (Or.inl rfl)) (pgs_cons (pg_name (i := 6) sc_run.nd rfl (Or.inr rfl)) (pgs_cons (pg_name (i := 7) sc_run.nd rfl (Or.inr rfl)) pgs_nil)))))
      (pss_cons (ps_asg (pe_call (ok_resolved T) (hr.mono (by first | decide | (first | lia | omega))) rfl T.m_resolved T.F_resolved.kp T.b_resolved .nil pass0 (pa_cons (pv 0) (pa_cons (pv 5) (pa_cons (pv 6) pa_nil)))) (pg_tup rfl (pgs_cons (pg_name (i := 5) sc_run.nd rfl (Or.inl rfl)) (pgs_cons (pg_name (i := 6) sc_run.nd rfl (Or.inr rfl)) pgs_nil))))
      (pss_cons (ps_if (PW.pt (pw_or (pt_cmpR op_eq (pe_callB call_len_seq rfl T.n_len PySem.boot_len (pa_cons (pv 3) pa_nil)) (pe_glob (v := .int 2000) rfl T.c_MOST_KNOTS.choose_spec ⟨_, rfl⟩) (nomark _)) (pw_or1 (pt_cmpR op_gt (pv 7) (pe_glob (v := .int 150) rfl T.c_TALLEST.choose_spec ⟨_, rfl⟩) (nomark _))))) (pss_one (ps_raise T.X_Great T.x_Great pe_str)) pss_nil)
      (pss_cons (ps_expr (pe_bm PySem.F.plainAttrs_list PySem.F.slot_list_append PySem.F.type_list_append mt_append (pv 3) (pa_cons (pe_tup (pa_cons (pe_slice sl_tupA (pv 5) po_none (po_some pe_int)) (pa_cons (pe_op op_sub (pe_callB call_len_seq rfl T.n_len PySem.boot_len (pa_cons (pv 5) pa_nil)) pe_int) pa_nil))) pa_nil)))
      (pss_one (ps_expr (pe_bm PySem.F.plainAttrs_list PySem.F.slot_list_extend PySem.F.type_list_extend mt_extend (pv 4) (pa_cons (pe_comp (N := [Str.ofString "kid", Str.ofString "knot", Str.ofString "row"]) (js := [none, some 6, some 7]) (g := (gName 0)) (tt := tNoTest) (te := (tTup (tCons (tVar 0) (tCons (tVar 1) (tCons (tOp (rI0 fun i j => .int (i + j)) (tVar 2) (tC (.int 1))) tNil))))) rfl (cs_mk rfl (by decide +kernel) (by decide +kernel) rfl rfl rfl) (pi_revT rfl T.n_reversed (pe_slice sl_tup (pv 5) (po_some pe_int) po_none)) (fun _ _ _ _ _ _ => (pg_name (i := 0) nd_6 rfl (Or.inl rfl))) (gk_name rfl) (fun _ _ _ _ _ _ => pts_nil) (fun _ _ _ _ _ _ => (pe_tup (pa_cons (pv 0) (pa_cons (pv 1) (pa_cons (pe_op op_add (pv 2) pe_int) pa_nil)))))) pa_nil)))))))))
      (pss_one (ps_ret (pe_call (ok_built T) (hr.mono (by first | decide | (first | lia | omega))) rfl T.m_built T.F_built.kp T.b_built .nil pass0 (pa_cons (pv 3) pa_nil))))))), ?_⟩
  refine ⟨line_le (by show 0 ≤ 1000000; decide), fun tl htl => ?_⟩
  refine ⟨_, rfl, _, rfl, .ref ta, rfl, fun ab hab => ⟨line_le (by show 3 ≤ 1000000; decide), fun tp htp => ⟨line_le (by show 1 ≤ 1000000; decide), fun ah hah => ?_⟩⟩⟩
  have s1 : L2.Same H (upd H tl (.lst [])) := same_new htl _
  have e1 : (upd H tl (.lst [])) tl = some (.lst (([] : List Addr).map V.ref)) := upd_same
  have nah : H ah = none := s1.free ((same_new hab _).free ((same_new htp _).free hah))
  generalize hH1 : (upd H tl (.lst [])) = H1 at s1 e1 hab htp hah ⊢
  have s2 : L2.Same H1 (upd H1 ab (.tup [.str (Str.ofString ""), .ref ta])) := same_new hab _
  have e2 : (upd H1 ab (.tup [.str (Str.ofString ""), .ref ta])) ab = some (.tup [.str (Str.ofString ""), .ref ta]) := upd_same
  generalize (upd H1 ab (.tup [.str (Str.ofString ""), .ref ta])) = H2 at s2 e2 htp hah ⊢
  have s3 : L2.Same H2 (upd H2 tp (.tup [.ref ha, .ref ab, .int 1])) := same_new htp _
  have e3 : (upd H2 tp (.tup [.ref ha, .ref ab, .int 1])) tp = some (.tup [.ref ha, .ref ab, .int 1]) := upd_same
  generalize (upd H2 tp (.tup [.ref ha, .ref ab, .int 1])) = H3 at s3 e3 hah ⊢
  have s4 : L2.Same H3 (upd H3 ah (.lst [.ref tp])) := same_new hah _
  have e4 : (upd H3 ah (.lst [.ref tp])) ah = some (.lst ([tp].map V.ref)) := upd_same
  generalize (upd H3 ah (.lst [.ref tp])) = H4 at s4 e4 ⊢
  have hta : tl ≠ ah := fun z => by
    have := s3 _ _ (s2 _ _ e1)
    rw [z, hah] at this
    cases this
  have s24 := s3.trans s4
  have s14 := s2.trans s24
  have s04 := s1.trans s14
  refine ⟨RunI b ha ta tl ah ins outs rows o H, ⟨_, [], [tp], [], [⟨p, .knot (Str.ofString "") [t], 1, o⟩], none, none, none, rfl, s04, s14 _ _ e1, e4, .nil, .cons ⟨ha, ab, s4 _ _ e3, hp.mono (Same.kt s04), ?_, hout⟩ .nil, JInv.start hfit, rfl⟩, ?_⟩
  · show At H4 (.knot (Str.ofString "") [t]) ab
    rw [At]
    exact ⟨run_empty_q, [ta], s24 _ _ e2, .cons (ht.mono (Same.kt s04)) .nil⟩
  clear s14 s24 s04 s4 e4 s3 e3 s2 e2 s1 e1
  rintro m σ H2 ⟨tls, as, done, js, c5, c6, c7, rfl, sm, et, ea, hT, hJ, J, rfl⟩
  refine ⟨_, rfl, _, .inl ⟨_, SqL.of ea, rfl⟩, ?_⟩
  refine ite2 (fun c => ?_) (fun c => ?_)
  · have hne0 : as ≠ [] := by intro z; subst z; simp at c
    obtain ⟨as', x, rfl⟩ : ∃ as' x, as = as' ++ [x] := ⟨as.dropLast, as.getLast hne0, (List.dropLast_concat_getLast hne0).symm⟩
    obtain ⟨js', j, rfl, hJ', hj⟩ := P2.snoc_inv hJ
    obtain ⟨jp, jk, jr, jo⟩ := j
    obtain ⟨pa, ka, ex, hpa, hka, hjo⟩ := hj
    dsimp only at ex hpa hka hjo
    cases hjo with
    | @mk _ _ n ts k' os hres hos =>
    have hl := hos.length
    have hms : sizes (jos (js' ++ [⟨jp, jk, jr, .knot n os⟩])) = sizes (jos js') + (sizes os + 1) := by
      unfold jos
      rw [List.map_append, sizes_append]
      show _ + sizes [Th.knot n os] = _
      rw [sizes, sizes, Th.size]
    refine ⟨fun σ' H' => ∃ m', m' < sizes (jos (js' ++ [⟨jp, jk, jr, .knot n os⟩])) ∧ RunI b ha ta tl ah ins outs rows o H m' σ' H', fun σ' H' h => h, ?_⟩
    refine ⟨_, rfl, .inl ⟨rfl, _, SqL.of ea⟩, ah, _, .ref x, rfl, rfl, ea, by simp, ?_⟩
    have d1 : ((as' ++ [x]).map V.ref).dropLast = as'.map V.ref := by simp
    rw [d1]
    have k3 : KT H2 (upd H2 ah (.lst (as'.map V.ref))) := kt_lst ea
    have s3 : L2.Same H (upd H2 ah (.lst (as'.map V.ref))) := same_upd sm nah
    have e3 : (upd H2 ah (.lst (as'.map V.ref))) ah = some (.lst (as'.map V.ref)) := upd_same
    have t3 : (upd H2 ah (.lst (as'.map V.ref))) tl = some (.lst (tls.map V.ref)) := by rw [upd_ne hta]; exact et
    generalize (upd H2 ah (.lst (as'.map V.ref))) = H3 at k3 s3 e3 t3 ⊢
    refine ⟨x, _, rfl, SqT.of (k3 _ _ ex), rfl, _, _, rfl, _, _, rfl, _, _, rfl, rfl, ?_⟩
    refine ⟨_, rfl, _, rfl, _, rfl, b, pa, ka, ins, outs, head, rows, jp, jk, .knot n ts, k', rfl, hb.mono (Same.kt s3), gi, hpa.mono k3, hka.mono k3, hres, fun r pa1 ka1 H4 s4 er hp1 hk1 => ?_⟩
    refine ⟨r, _, rfl, SqT.of er, rfl, _, _, rfl, _, _, rfl, rfl, ?_⟩
    have t4 := s4 _ _ t3
    have hdl : done.length = tls.length := by
      have := Paired.length hT
      rw [List.length_map] at this
      exact this
    dsimp only [tSeq]
    refine if_intro (fun bb H' => H4 = H' ∧ (bb = true → done.length = 2000 ∨ 150 < jr) ∧ (bb = false → done.length ≠ 2000 ∧ jr ≤ 150)) (fun k2 hk2 => ?_) (fun H' hb2 => ?_) (fun H' hb2 => ?_)
    · refine ⟨_, rfl, tl, _, rfl, .inl (SqL.of t4), rfl, _, rfl, ?_⟩
      refine ite2 (fun c1 => hk2 _ _ ⟨rfl, fun _ => .inl ?_, fun z => by cases z⟩) (fun c1 => ?_)
      · have c2 := V.int.inj (of_decide_eq_true c1)
        rw [List.length_map] at c2
        (first | lia | omega)
      · refine ⟨_, rfl, _, _, rfl, rfl, _, rfl, hk2 _ _ ⟨rfl, fun z => .inr ?_, fun z => ⟨fun z2 => c1 (decide_eq_true ?_), ?_⟩⟩⟩
        · have := of_decide_eq_true z
          (first | lia | omega)
        · rw [List.length_map, ← hdl, z2]
          rfl
        · have := of_decide_eq_false z
          (first | lia | omega)
    · obtain ⟨rfl, hb2, _⟩ := hb2
      exact hE (J.great (hb2 rfl)) _ (s3.trans s4)
    obtain ⟨rfl, _, hb2⟩ := hb2
    obtain ⟨hn2, hr2⟩ := hb2 rfl
    have hdn := J.dn
    have hfk := J.fit ⟨jp, jk, jr, .knot n os⟩ (by simp)
    have hwid := fit_width go hfk
    have hjl := J.len
    rw [List.length_append] at hjl
    have hjl' : js'.length = as'.length := Paired.length hJ'
    have hp1' := hp1
    rw [At] at hp1'
    obtain ⟨hnq, kas, ep1, hkas⟩ := hp1'
    have hkl : kas.length = ts.length := hkas.length
    have hdn2 : done.length < 2000 := by (first | lia | omega)
    have a4 := s4 _ _ e3
    have s04 := s3.trans s4
    have kt24 := k3.trans (Same.kt s4)
    -- tops.append
    refine ⟨_, rfl, .inl ⟨rfl, _, SqL.of t4⟩, _, rfl, 1, rfl, pa1, _, rfl, ep1, fun p2 H5 s5 e5 => ?_⟩
    rw [cut_one] at e5
    refine ⟨_, rfl, pa1, _, rfl, .inr (SqT.of (s5 _ _ ep1)), _, _, rfl, rfl, line_le (by show 2 ≤ 1000000; decide), fun tp2 htp2 => ?_⟩
    have hlen1 : ((V.str n :: kas.map V.ref).length : Int) - 1 = ((os.length : Nat) : Int) := by
      rw [List.length_cons, List.length_map]
      (first | lia | omega)
    dsimp only [tNil, rAppend]
    rw [hlen1]
    have s6 : L2.Same H5 (upd H5 tp2 (.tup [.ref p2, .int (os.length : Nat)])) := same_new htp2 _
    have e6 : (upd H5 tp2 (.tup [.ref p2, .int (os.length : Nat)])) tp2 = some (.tup [.ref p2, .int (os.length : Nat)]) := upd_same
    generalize (upd H5 tp2 (.tup [.ref p2, .int (os.length : Nat)])) = H6 at s6 e6 ⊢
    have s46 := s5.trans s6
    refine ⟨tl, _, _, rfl, rfl, s46 _ _ t4, line_big (by rw [List.length_map]; (first | lia | omega)), ?_⟩
    have k7 : KT H6 (upd H6 tl (.lst (tls.map V.ref ++ [.ref tp2]))) := kt_lst (s46 _ _ t4)
    have s7 : L2.Same H (upd H6 tl (.lst (tls.map V.ref ++ [.ref tp2]))) := same_upd (s04.trans s46) htl
    have t7 : (upd H6 tl (.lst (tls.map V.ref ++ [.ref tp2]))) tl = some (.lst ((tls ++ [tp2]).map V.ref)) := by rw [upd_same, List.map_append]; rfl
    have a7 : (upd H6 tl (.lst (tls.map V.ref ++ [.ref tp2]))) ah = some (.lst (as'.map V.ref)) := by rw [upd_ne hta.symm]; exact s46 _ _ a4
    generalize (upd H6 tl (.lst (tls.map V.ref ++ [.ref tp2]))) = H7 at k7 s7 t7 a7 ⊢
    have k47 := (Same.kt s46).trans k7
    have k27 := kt24.trans k47
    have hT7 : Paired (TopAt H7) ((done ++ [Th.knot n os]).map (topOf Th.call)) (tls ++ [tp2]) := by
      rw [List.map_append]
      exact P2.append (tops_mono k27 hT) (.cons ⟨p2, k7 _ _ e6, hnq, ((Same.kt s6).trans k7) _ _ e5⟩ .nil)
    -- ahead.extend
    refine ⟨_, rfl, .inl ⟨rfl, _, SqL.of a7⟩, _, rfl, 1, rfl, pa1, _, rfl, SqT.of (k47 _ _ ep1), ?_, fun p3 hp3 => ?_⟩
    · rintro ⟨z, _⟩
      rw [List.length_cons, show (1 : Int) = ((1 : Nat) : Int) by rfl, HT.sIx_nat] at z
      (first | lia | omega)
    dsimp only
    rw [cut_tail]
    have s8 : L2.Same H7 (upd H7 p3 (.tup (kas.map V.ref))) := same_new hp3 _
    have e8 : (upd H7 p3 (.tup (kas.map V.ref))) p3 = some (.tup (kas.map V.ref)) := upd_same
    generalize (upd H7 p3 (.tup (kas.map V.ref))) = H8 at s8 e8 ⊢
    have k48 := k47.trans (Same.kt s8)
    have hl' : ts.length = os.length := hl.symm
    have hxl : ((kas.map V.ref).reverse).length = os.length := by rw [List.length_reverse, List.length_map]; (first | lia | omega)
    refine ⟨p3, _, rfl, SqT.of e8, comp_nw (F := fun H j a => JAt H ins rows j a) (xs := (kas.map V.ref).reverse) (kidJobs k' (jr + 1) ts os).reverse (fun H1 H2 z p kt h => h.mono kt) (by rw [List.length_reverse, kidJobs_len hl', hxl]) (by (first | lia | omega)) (fun i Hx sx hi => ⟨by rw [List.length_reverse] at hi; exact hi, _, SqT.of (sx _ _ e8), rfl⟩) (fun Hx sx => by rw [List.length_reverse]; rfl) (fun i Hx x Hy sx hi hy => ⟨hy.1, ?_⟩) (fun i x z Hx R W' hx hzz sx hR => ?_) (fun D Hx as2 hD sx eD hpD => ?_)⟩
    · rw [List.length_reverse] at hi
      rw [List.getElem?_reverse hi]
      exact hy.2 _ (SqT.of (sx _ _ e8))
    · have hik : i < (kidJobs k' (jr + 1) ts os).length := by
        rw [kidJobs_len hl']
        have := (List.getElem?_eq_some_iff.mp hx).1
        (first | lia | omega)
      rw [List.getElem?_reverse hik, kidJobs_len hl'] at hzz
      have hi2 : i < os.length := by rw [kidJobs_len hl'] at hik; exact hik
      have hi3 : i < (kas.map V.ref).length := by rw [List.length_map]; (first | lia | omega)
      rw [List.getElem?_reverse hi3, List.length_map] at hx
      obtain ⟨xa, rfl, hxa⟩ := get_ref hx
      have hix : kas.length - 1 - i = os.length - 1 - i := by (first | lia | omega)
      rw [hix] at hxa
      obtain ⟨u, hu, hau⟩ := hkas.get hxa
      obtain ⟨ou, hou⟩ : ∃ ou, os[os.length - 1 - i]? = some ou := ⟨_, List.getElem?_eq_getElem (by (first | lia | omega))⟩
      unfold kidJobs at hzz
      have hzip : (ts.zip os)[os.length - 1 - i]? = some (u, ou) := List.getElem?_zip_eq_some.mpr ⟨hu, hou⟩
      rw [List.getElem?_map, hzip] at hzz
      cases hzz
      refine ⟨_, rfl, _, rfl, _, rfl, _, _, rfl, rfl, line_le (by show 3 ≤ 1000000; decide), fun p4 hp4 => ?_⟩
      have s9 := same_new hp4 (.tup [.ref xa, .ref ka1, .int ((jr : Nat) + 1)])
      have k49 := k48.trans (Same.kt (sx.trans s9))
      refine hR _ p4 s9 ⟨xa, ka1, ?_, hau.mono k49, hk1.mono k49, hos.get _ hu hou⟩
      rw [upd_same]
      congr 4
    · have hlD := Paired.length hpD
      rw [List.length_reverse, kidJobs_len hl'] at hlD
      refine ⟨ah, D, _, _, rfl, rfl, sx _ _ (s8 _ _ a7), eD, Nat.le_of_lt (line_big (by rw [List.length_map, List.length_map]; (first | lia | omega))), ?_⟩
      have a9 := sx _ _ (s8 _ _ a7)
      have k9 : KT Hx (upd Hx ah (.lst (as'.map V.ref ++ as2.map V.ref))) := kt_lst a9
      have k79 := (Same.kt (s8.trans sx)).trans k9
      refine ⟨sizes (jos (js' ++ (kidJobs k' (jr + 1) ts os).reverse)), ?_, tls ++ [tp2], as' ++ as2, done ++ [.knot n os], js' ++ (kidJobs k' (jr + 1) ts os).reverse, _, _, _, rfl, same_upd (s7.trans (s8.trans sx)) nah, by rw [upd_ne hta]; exact sx _ _ (s8 _ _ t7), by rw [upd_same, List.map_append], tops_mono k79 hT7, P2.append (P2.mp (fun _ _ e => e.mono (k27.trans k79)) hJ') (P2.mp (fun _ _ e => e.mono k9) hpD), J.turn go hr2 hdn2 hl', rfl⟩
      rw [hms]
      have e1 := kidJobs_o k' (jr + 1) ts os hl'
      unfold jos at e1 ⊢
      rw [List.map_append, List.map_reverse, e1, sizes_append, sizes_rev']
      (first | lia | omega)
  · have hz : as = [] := by
      cases as with
      | nil => rfl
      | cons y ys => simp at c
    subst hz
    have hj0 : js = [] := List.length_eq_zero_iff.mp (Paired.length hJ)
    subst hj0
    obtain ⟨hsm, hdn⟩ := J.done
    subst hdn
    obtain ⟨b1, b2⟩ := bl_walk Th.call o
    rw [fill_id] at b1
    have hsz := Th.walk_len o
    refine ⟨_, rfl, tl, tls, _, o, rfl, et, hT, by rw [List.length_map]; (first | lia | omega), b2, ?_, b1, fun r H3 s3 hr3 => q hsm r H3 (sm.trans s3) hr3⟩
    intro u hu
    obtain ⟨x, hx, e⟩ := List.mem_map.mp hu
    cases x with
    | knot nm us => cases e
    | call sn kn =>
      cases e
      rw [Th.size]
      decide
end
def sp_turned : Sp := fun vs H Q _ => ∃ (b ta : Addr) (ins outs : List (Str × Int)) (head : Th) (rows : List (List Th)) (t o : Th), vs = [.ref b, .ref ta] ∧ Bk H ins outs head rows b ∧ GoodN ins ∧ GoodN outs ∧ At H t ta ∧ Out ins rows head (.knot (Str.ofString "") [t]) o ∧ o.Fit outs ∧ (o.size ≤ 2000 ∧ o.tall ≤ 150) ∧ ∀ (r : Addr) (H' : Hp), L2.Same H H' → At H' o r → Q (.ref r) H'
def sp_turned_by : Sp := fun vs H Q _ => ∃ (b ta : Addr) (ins outs : List (Str × Int)) (head : Th) (rows : List (List Th)) (st : Int) (t o : Th), vs = [.ref b, .int st, .ref ta] ∧ Bk H ins outs head rows b ∧ GoodN ins ∧ GoodN outs ∧ At H t ta ∧ Out ins rows (.call st 0) (.knot (Str.ofString "") [t]) o ∧ o.Fit outs ∧ (o.size ≤ 2000 ∧ o.tall ≤ 150) ∧ ∀ (r : Addr) (H' : Hp), L2.Same H H' → At H' o r → Q (.ref r) H'
def sp_turnedX (C : Addr) : Sp := fun vs H Q E => ∃ (b ta : Addr) (ins outs : List (Str × Int)) (head : Th) (rows : List (List Th)) (t o : Th), vs = [.ref b, .ref ta] ∧ Bk H ins outs head rows b ∧ GoodN ins ∧ GoodN outs ∧ At H t ta ∧ Out ins rows head (.knot (Str.ofString "") [t]) o ∧ o.Fit outs ∧ ((o.size ≤ 2000 ∧ o.tall ≤ 150) → ∀ (r : Addr) (H' : Hp), L2.Same H H' → At H' o r → Q (.ref r) H') ∧ (¬ (o.size ≤ 2000 ∧ o.tall ≤ 150) → ∀ H', L2.Same H H' → E (.ref C) none H')
def sp_turned_byX (C : Addr) : Sp := fun vs H Q E => ∃ (b ta : Addr) (ins outs : List (Str × Int)) (head : Th) (rows : List (List Th)) (st : Int) (t o : Th), vs = [.ref b, .int st, .ref ta] ∧ Bk H ins outs head rows b ∧ GoodN ins ∧ GoodN outs ∧ At H t ta ∧ Out ins rows (.call st 0) (.knot (Str.ofString "") [t]) o ∧ o.Fit outs ∧ ((o.size ≤ 2000 ∧ o.tall ≤ 150) → ∀ (r : Addr) (H' : Hp), L2.Same H H' → At H' o r → Q (.ref r) H') ∧ (¬ (o.size ≤ 2000 ∧ o.tall ≤ 150) → ∀ H', L2.Same H H' → E (.ref C) none H')
section
variable {P : Program} {w : World} {K : PySem.W.Frag} {mg : Str → Option Value} {base : Heap} (T : TX K mg)
theorem ok_turnedX : FnOk P w K mg base (CX1 P w) 7 T.f_turned T.d_turned ["book", "tree"] (sp_turnedX T.e_Great) := by
  refine T.F_turned.ok1 sc_turned (fun vs H Q E h => ?_) (fun cdv A outer s H vs Q E hr h => ?_)
  · obtain ⟨b, ta, ins, outs, head, rows, t, o, rfl, _⟩ := h
    rfl
  obtain ⟨b, ta, ins, outs, head, rows, t, o, rfl, hb, gi, go, ht, hout, hfit, q, hE⟩ := h
  refine ⟨_, (pss_one (ps_ret (pe_call (ok_runX T) (hr.mono (by first | decide | (first | lia | omega))) rfl T.m_run T.F_run.kp T.b_run .nil pass1 (pa_cons (pv 0) (pa_cons (pe_call (ok_head_of T) (hr.mono (by first | decide | (first | lia | omega))) rfl T.m_head_of T.F_head_of.kp T.b_head_of .nil pass0 (pa_cons (pv 0) pa_nil)) (pa_cons (pv 1) pa_nil)))))), ?_⟩
  obtain ⟨ia, oa, hda, ra, ias, oas, ras, bk⟩ := id hb
  exact ⟨_, rfl, _, rfl, b, _, _, _, _, rfl, bk.bk, _, rfl, b, hda, ta, ins, outs, head, rows, head, t, o, rfl, hb, gi, go, bk.hd, ht, hout, hfit, q, hE⟩
theorem ok_turned_byX : FnOk P w K mg base (CX1 P w) 7 T.f_turned_by T.d_turned_by ["book", "state", "tree"] (sp_turned_byX T.e_Great) := by
  refine T.F_turned_by.ok1 sc_turned_by (fun vs H Q E h => ?_) (fun cdv A outer s H vs Q E hr h => ?_)
  · obtain ⟨b, ta, ins, outs, head, rows, st, t, o, rfl, _⟩ := h
    rfl
  obtain ⟨b, ta, ins, outs, head, rows, st, t, o, rfl, hb, gi, go, ht, hout, hfit, q, hE⟩ := h
  refine ⟨_, (pss_one (ps_ret (pe_call (ok_runX T) (hr.mono (by first | decide | (first | lia | omega))) rfl T.m_run T.F_run.kp T.b_run .nil pass1 (pa_cons (pv 0) (pa_cons (pe_call (ok_call_of T) (hr.mono (by first | decide | (first | lia | omega))) rfl T.m_call_of T.F_call_of.kp T.b_call_of .nil pass0 (pa_cons (pv 1) pa_nil)) (pa_cons (pv 2) pa_nil)))))), ?_⟩
  refine ⟨_, rfl, _, rfl, st, rfl, fun ca hca => ?_⟩
  have s1 := same_new hca (.tup [.str BB.q, .int st, .int 0])
  refine ⟨_, rfl, b, ca, ta, ins, outs, head, rows, .call st 0, t, o, rfl, hb.mono (Same.kt s1), gi, go, ?_, ht.mono (Same.kt s1), hout, hfit, fun hs r H' s' => q hs r H' (s1.trans s'), fun hn H' s' => hE hn H' (s1.trans s')⟩
  rw [At]
  exact upd_same
theorem ok_turned : FnOk P w K mg base CX0 7 T.f_turned T.d_turned ["book", "tree"] sp_turned :=
  (ok_turnedX T).x0 fun vs H Q E h => by
    obtain ⟨b, ta, ins, outs, head, rows, t, o, rfl, hb, gi, go, ht, hout, hfit, hsm, q⟩ := h
    exact ⟨b, ta, ins, outs, head, rows, t, o, rfl, hb, gi, go, ht, hout, hfit, fun _ => q, fun hn => absurd hsm hn⟩
theorem ok_turned_by : FnOk P w K mg base CX0 7 T.f_turned_by T.d_turned_by ["book", "state", "tree"] sp_turned_by :=
  (ok_turned_byX T).x0 fun vs H Q E h => by
    obtain ⟨b, ta, ins, outs, head, rows, st, t, o, rfl, hb, gi, go, ht, hout, hfit, hsm, q⟩ := h
    exact ⟨b, ta, ins, outs, head, rows, st, t, o, rfl, hb, gi, go, ht, hout, hfit, fun _ => q, fun hn => absurd hsm hn⟩
end
def sp__law_refusal : Sp := fun vs H Q _ => ∃ (b ta : Addr) (ins outs : List (Str × Int)) (head : Th) (rows : List (List Th)) (st : Int) (t o : Th), vs = [.ref b, .ref ta, .int st] ∧ Bk H ins outs head rows b ∧ GoodN ins ∧ GoodN outs ∧ At H t ta ∧ (st < 0 → Out ins rows head (.knot (Str.ofString "") [t]) o) ∧ (¬ st < 0 → Out ins rows (.call st 0) (.knot (Str.ofString "") [t]) o) ∧ o.Fit outs ∧ ((o.size ≤ 2000 ∧ o.tall ≤ 150) → ∀ H', L2.Same H H' → Q .non H') ∧ (¬ (o.size ≤ 2000 ∧ o.tall ≤ 150) → ∀ (l : Addr) (H' : Hp), L2.Same H H' → H' l = some (.lst ([true, false, true].map V.bl)) → Q (.ref l) H')
section
variable {P : Program} {w : World} {K : PySem.W.Frag} {mg : Str → Option Value} {base : Heap} (T : TX K mg)
theorem ok__law_refusal : FnOk P w K mg base CX0 9 T.f__law_refusal T.d__law_refusal ["book", "tree", "state"] sp__law_refusal := by
  refine T.F__law_refusal.ok sc__law_refusal (fun vs H Q E h => ?_) (fun cdv A outer s H vs Q E hr h => ?_)
  · obtain ⟨b, ta, ins, outs, head, rows, st, t, o, rfl, _⟩ := h
    rfl
  obtain ⟨b, ta, ins, outs, head, rows, st, t, o, rfl, hb, gi, go, ht, h1, h2, hfit, hq, hn⟩ := h
  refine ⟨_, (pss_cons (ps_set (i := 3) sc__law_refusal.nd rfl (Or.inl rfl) pe_non)
      (pss_cons (ps_try_as (Ch := T.e_BookError) (i := 4) (tb := fun R => (tIfS (tTest (tOp (rI0 fun i j => .bl (decide (i < j))) (tVar 2) (tC (.int 0)))) (tDrop (tCallT (sp_turnedX T.e_Great) [] R (tCons (tVar 0) (tCons (tVar 1) tNil)))) (tDrop (tCallT (sp_turned_byX T.e_Great) [] R (tCons (tVar 0) (tCons (tVar 2) (tCons (tVar 1) tNil))))))) (ts := fun ea C => (tAsg (tLst (tCons (tCB (rIsx K ea C) (tCons (tVar 4) (tCons (tC (.ref T.e_Great)) tNil))) (tCons (tCB (rIsx K ea C) (tCons (tVar 4) (tCons (tC (.ref T.e_Many)) tNil))) (tCons (tCB (rIsx K ea C) (tCons (tVar 4) (tCons (tC (.ty "ValueError")) tNil))) tNil)))) (gName 3))) (fun pins R => (pss_one (ps_if (pt_cmpR op_lt (pv 2) pe_int (nomark _)) (pss_one (ps_expr (pe_callT (ok_turnedX T) (hr.mono (by first | decide | (first | lia | omega))) rfl T.m_turned T.F_turned.kp T.b_turned .nil (pa_cons (pv 0) (pa_cons (pv 1) pa_nil))))) (pss_one (ps_expr (pe_callT (ok_turned_byX T) (hr.mono (by first | decide | (first | lia | omega))) rfl T.m_turned_by T.F_turned_by.kp T.b_turned_by .nil (pa_cons (pv 0) (pa_cons (pv 2) (pa_cons (pv 1) pa_nil))))))))) (fun ea oe C hoc hX => (pss_one (ps_set (i := 3) sc__law_refusal.nd rfl (Or.inl rfl) (pe_lst (pa_cons (pe_callB (call_isx pin_suite hoc hX) rfl T.n_isinstance PyProof.Rows.boot_isinstance (pa_cons (pv 4) (pa_cons (pe_glob (v := .ref T.e_Great) rfl T.x_Great rfl) pa_nil))) (pa_cons (pe_callB (call_isx pin_suite hoc hX) rfl T.n_isinstance PyProof.Rows.boot_isinstance (pa_cons (pv 4) (pa_cons (pe_glob (v := .ref T.e_Many) rfl T.x_Many rfl) pa_nil))) (pa_cons (pe_callB (call_isx pin_suite hoc hX) rfl T.n_isinstance PyProof.Rows.boot_isinstance (pa_cons (pv 4) (pa_cons (pe_bltn (v := .ty "ValueError") rfl T.n_ValueError PyProof.Rows.Boot.«ValueError» rfl) pa_nil))) pa_nil))))))) sc__law_refusal.nd rfl rfl rfl rfl rfl T.x_BookError)
      (pss_one (ps_ret (pv 3))))), ?_⟩
  dsimp only [tAsg, tC, gName, tSeq]
  refine try_intro (fun σ1 c H2 => σ1 = [some (.ref b), some (.ref ta), some (.int st), some .non, none] ∧ c = .ref T.e_Great ∧ L2.Same H H2 ∧ ¬ (o.size ≤ 2000 ∧ o.tall ≤ 150)) (fun R' hR => ?_) ?_
  · refine ⟨_, rfl, _, _, rfl, rfl, _, rfl, ?_⟩
    refine ite2 (fun c => ?_) (fun c => ?_)
    · exact ⟨_, rfl, _, rfl, b, ta, ins, outs, head, rows, t, o, rfl, hb, gi, go, ht, h1 (of_decide_eq_true c), hfit, fun hs r H2 s2 _ => ⟨_, rfl, hq hs H2 s2⟩, fun hn' H2 s2 => hR _ _ _ ⟨rfl, rfl, s2, hn'⟩⟩
    · exact ⟨_, rfl, _, rfl, _, rfl, b, ta, ins, outs, head, rows, st, t, o, rfl, hb, gi, go, ht, h2 (fun z => c (decide_eq_true z)), hfit, fun hs r H2 s2 _ => ⟨_, rfl, hq hs H2 s2⟩, fun hn' H2 s2 => hR _ _ _ ⟨rfl, rfl, s2, hn'⟩⟩
  · rintro σ1 c H2 ⟨rfl, rfl, s2, ho⟩
    refine ⟨_, rfl, ⟨T.X_Great, T.hit_Great_BookError⟩, fun ea hea => ?_⟩
    refine ⟨_, rfl, _, _, rfl, T.kit_Great_Great, _, rfl, _, _, rfl, T.kit_Great_Many, _, rfl, _, _, rfl, T.kit_Great_ValueError, line_le (by show 3 ≤ 1000000; decide), fun la hla => ?_⟩
    exact ⟨_, rfl, hn ho la _ (s2.trans (same_new hla _)) upd_same⟩
end
def PrAt (H : Hp) (o : Th) (r : Addr) : Prop := H r = some (.tup [.int (o.size : Nat), .int (o.tall : Nat)])
def sp__law_size : Nat → Sp
  | 0 => fun _ _ _ _ => False
  | n + 1 => fun vs H Q _ => ∃ (pa kl : Addr) (ins outs : List (Str × Int)) (rows : List (List Th)) (S C : Int) (p : Th) (nm : Str) (ks : List Th) (kas : List Addr) (o : Th), vs = [.ref pa, .ref kl] ∧ At H p pa ∧ H kl = some (.lst (kas.map V.ref)) ∧ Paired (SzAt H ins rows) ks kas ∧ Out ins rows p (.knot nm ks) o ∧ p.tall ≤ n + 1 ∧ p.FitS outs S C ∧ GoodN outs ∧ ∀ (r : Addr) (H' : Hp), L2.Same H H' → PrAt H' o r → Q (.ref r) H'
section
variable {P : Program} {w : World} {K : PySem.W.Frag} {mg : Str → Option Value} {base : Heap} (T : TX K mg)
set_option maxHeartbeats 2000000 in
theorem ok__law_size : ∀ n : Nat, FnOk P w K mg base CX0 n T.f__law_size T.d__law_size ["pattern", "kids"] (sp__law_size n)
  | 0 => ⟨fun _ _ _ _ h => h.elim, fun _ _ _ _ _ _ _ _ _ _ _ _ _ h => h.elim⟩
  | n + 1 => by
    have ih := ok__law_size n
    refine T.F__law_size.ok sc__law_size (fun vs H Q E h => ?_) (fun cdv A outer s H vs Q E hr h => ?_)
    · obtain ⟨pa, kl, ins, outs, rows, S, C, p, nm, ks, kas, o, rfl, _⟩ := h
      rfl
    obtain ⟨pa, kl, ins, outs, rows, S, C, p, nm, ks, kas, o, rfl, hA, ekl, hks, hout, htl, hfit, go, k⟩ := h
    refine ⟨_, (pss_cons (ps_if (pt_cmpR op_eq (pe_ix ix_tup (pv 0) pe_int (fun _ _ => rfl)) pe_str (nomark _)) (pss_one (ps_ret (pe_ix ix_list (pe_ix ix_list (pv 1) (pe_ix ix_tup (pv 0) pe_int (fun _ _ => rfl)) (fun _ _ => rfl)) (pe_ix ix_tup (pv 0) pe_int (fun _ _ => rfl)) (fun _ _ => rfl)))) pss_nil)
      (pss_cons (ps_setC (i := 2) (N := [Str.ofString "part", Str.ofString "kids"]) (js := [none, some 1]) (g := (gName 0)) (tt := tNoTest) (te := (tCall (sp__law_size _) [] E0 (tCons (tVar 0) (tCons (tVar 1) tNil)))) sc__law_size.nd rfl (Or.inl rfl) rfl (cs_mk rfl (by decide +kernel) (by decide +kernel) rfl rfl rfl) (pi_tup (pe_slice sl_tup (pv 0) (po_some pe_int) po_none)) (fun _ _ _ _ _ _ => (pg_name (i := 0) nd_7 rfl (Or.inl rfl))) (gk_name rfl) (fun _ _ _ _ _ _ => pts_nil) (fun _ _ _ _ _ _ => (pe_call (ih) (hr.mono (Nat.le_refl _)) rfl T.m__law_size T.F__law_size.kp T.b__law_size .nil pass0 (pa_cons (pv 0) (pa_cons (pv 1) pa_nil)))))
      (pss_one (ps_ret (pe_tup (pa_cons (pe_op op_add pe_int (pe_callB (call_sum rfl) rfl T.n_sum PyProof.Rows.boot_sum (pa_cons (pe_comp (N := [Str.ofString "size"]) (js := [none]) (g := (gName 0)) (tt := tNoTest) (te := (tOp (rIxT K) (tVar 0) (tC (.int 0)))) rfl (cs_mk rfl (by decide +kernel) (by decide +kernel) rfl rfl rfl) (pi_list (pv 2)) (fun _ _ _ _ _ _ => (pg_name (i := 0) nd_8 rfl (Or.inl rfl))) (gk_name rfl) (fun _ _ _ _ _ _ => pts_nil) (fun _ _ _ _ _ _ => (pe_ix ix_tup (pv 0) pe_int (fun _ _ => rfl)))) pa_nil))) (pa_cons (pe_op op_add pe_int (pe_callB (call_maxL rfl) rfl T.n_max PyProof.Rows.boot_max (pa_cons (pe_op op_cat (pe_comp (N := [Str.ofString "size"]) (js := [none]) (g := (gName 0)) (tt := tNoTest) (te := (tOp (rIxT K) (tVar 0) (tC (.int 1)))) rfl (cs_mk rfl (by decide +kernel) (by decide +kernel) rfl rfl rfl) (pi_list (pv 2)) (fun _ _ _ _ _ _ => (pg_name (i := 0) nd_8 rfl (Or.inl rfl))) (gk_name rfl) (fun _ _ _ _ _ _ => pts_nil) (fun _ _ _ _ _ _ => (pe_ix ix_tup (pv 0) pe_int (fun _ _ => rfl)))) (pe_lst (pa_cons pe_int pa_nil))) pa_nil))) pa_nil))))))), ?_⟩
    cases p with
    | call sn cn =>
      rw [At] at hA
      obtain ⟨p', h, st, ho⟩ := hout.unstep
      obtain ⟨s0, c0, hkc, _⟩ := id st
      obtain ⟨ka, hka, es, ees, _, hes⟩ := P2.get hks hkc
      obtain ⟨e, he, ee⟩ := hes sn o (Out.step (step_one st) ho)
      refine ⟨_, rfl, pa, _, 0, .str q, rfl, rfl, SqT.of hA, at0, rfl, _, rfl, ?_⟩
      refine ite2 (fun _ => ?_) (fun c => absurd (decide_eq_true rfl) c)
      exact ⟨_, rfl, _, rfl, pa, _, 2, .int cn, rfl, rfl, SqT.of hA, at2, kl, _, cn, .ref ka, rfl, rfl, SqL.of ekl, at_nonneg c0 (by rw [List.getElem?_map, hka]; rfl), _, rfl, pa, _, 1, .int sn, rfl, rfl, SqT.of hA, at1, ka, _, sn, .ref e, rfl, rfl, SqL.of ees, at_nonneg s0 (by rw [List.getElem?_map, he]; rfl), k e H (.refl _) ee⟩
    | knot m ts =>
      obtain ⟨os, rfl, hos⟩ := hout.unknot
      have hol := hos.length
      rw [Th.tall] at htl
      rw [Th.FitS] at hfit
      have hw : ts.length ≤ 3 := by
        have := (go.num _ hfit.1).2
        have h2 : ((ts.length : Nat) : Int) ≤ 3 := this
        (first | lia | omega)
      rw [At] at hA
      obtain ⟨hmq, tas, ea, hta⟩ := hA
      have htal : tas.length = ts.length := hta.length
      refine ⟨_, rfl, pa, _, 0, .str m, rfl, rfl, SqT.of ea, at0, rfl, _, rfl, ?_⟩
      refine ite2 (fun c => absurd (of_decide_eq_true c) (fun z => hmq (V.str.inj z))) (fun _ => ?_)
      refine ⟨_, rfl, 1, rfl, pa, _, rfl, SqT.of ea, ?_, fun p2 hp2 => ?_⟩
      · rintro ⟨z, _⟩
        rw [List.length_cons, show (1 : Int) = ((1 : Nat) : Int) by rfl, HT.sIx_nat] at z
        (first | lia | omega)
      dsimp only
      rw [cut_tail]
      have s1 : L2.Same H (upd H p2 (.tup (tas.map V.ref))) := same_new hp2 _
      have e1 : (upd H p2 (.tup (tas.map V.ref))) p2 = some (.tup (tas.map V.ref)) := upd_same
      generalize (upd H p2 (.tup (tas.map V.ref))) = H1 at s1 e1 ⊢
      refine ⟨p2, rfl, ⟨_, SqT.of e1⟩, comp_nw (F := PrAt) (xs := tas.map V.ref) os (fun H1 H2 z p kt h => kt _ _ h) (by rw [List.length_map]; (first | lia | omega)) (by rw [List.length_map]; (first | lia | omega)) (fun i Hx sx hi => ⟨_, _, SqT.of (sx _ _ e1), List.getElem?_eq_getElem hi⟩) (fun Hx sx => ⟨_, SqT.of (sx _ _ e1), Nat.le_refl _⟩) (fun i Hx x Hy sx hi hy => ⟨hy.1, hy.2 _ (SqT.of (sx _ _ e1))⟩) (fun i x z Hx R W' hx hzz sx hR => ?_) (fun D H2 as hD s2 eD hpD => ?_)⟩
      · obtain ⟨ua, rfl, hua⟩ := get_ref hx
        obtain ⟨u, hu, atu⟩ := hta.get hua
        have hum : u ∈ ts := List.mem_of_getElem? hu
        have htu := talls_le hum
        have s1x := s1.trans sx
        cases n with
        | zero =>
          have := u.tall_eq
          (first | lia | omega)
        | succ n =>
        refine ⟨_, rfl, _, rfl, ua, kl, ins, outs, rows, S, C, u, nm, ks, kas, z, rfl, atu.mono (Same.kt s1x), s1x _ _ ekl, P2.mp (fun _ _ e => e.same s1x) hks, hos.get i hu hzz, by (first | lia | omega), fitSs_mem hfit.2 u hum, go, fun r H3 s3 hr3 => ?_⟩
        exact hR H3 r s3 hr3
      have hal : os.length = as.length := Paired.length hpD
      have s02 := s1.trans s2
      refine ⟨_, rfl, D, rfl, ⟨_, SqL.of eD⟩, comp_sm_list os (fun o : Th => V.int (o.size : Nat)) (SqL.of eD) (by rw [List.length_map]; exact hal) (by rw [List.length_map]; (first | lia | omega)) (fun i x z Hx R W' hx hz sx hR => ?_) (fun D2 H3 hD2 s3 e3 => ?_)⟩
      · obtain ⟨e, rfl, he⟩ := get_ref hx
        obtain ⟨t, ht, h1⟩ := P2.get' hpD he
        rw [hz] at ht
        cases ht
        exact ⟨_, rfl, e, _, 0, .int (z.size : Nat), rfl, rfl, SqT.of (sx _ _ h1), at0, hR Hx (.refl _)⟩
      refine ⟨D2, os.map (fun o => ((o.size : Nat) : Int)), rfl, SqL.of (by rw [← ints_map]; exact e3), ⟨_, _, rfl, rfl, ?_⟩⟩
      rw [sizes_sum]
      have eD3 := s3 _ _ eD
      have hpD3 : Paired (PrAt H3) os as := P2.mp (fun _ _ e => s3 _ _ e) hpD
      refine ⟨_, rfl, D, rfl, ⟨_, SqL.of eD3⟩, comp_sm_list os (fun o : Th => V.int (o.tall : Nat)) (SqL.of eD3) (by rw [List.length_map]; exact hal) (by rw [List.length_map]; (first | lia | omega)) (fun i x z Hx R W' hx hz sx hR => ?_) (fun D4 H4 hD4 s4 e4 => ?_)⟩
      · obtain ⟨e, rfl, he⟩ := get_ref hx
        obtain ⟨t, ht, h1⟩ := P2.get' hpD3 he
        rw [hz] at ht
        cases ht
        exact ⟨_, rfl, e, _, 1, .int (z.tall : Nat), rfl, rfl, SqT.of (sx _ _ h1), at1, hR Hx (.refl _)⟩
      refine ⟨line_le (by show 1 ≤ 1000000; decide), fun zl hzl => ?_⟩
      have s5 := same_new hzl (.lst [.int 0])
      refine ⟨D4, zl, _, _, rfl, rfl, s5 _ _ e4, upd_same, line_le (by rw [List.length_map]; show os.length + 1 ≤ 1000000; (first | lia | omega)), fun cl hcl => ?_⟩
      have s6 : L2.Same H _ := s02.trans (s3.trans (s4.trans (s5.trans (same_new hcl (.lst (os.map (fun t : Th => V.int (t.tall : Nat)) ++ [.int 0]))))))
      have e6 : (upd (upd H4 zl (.lst [.int 0])) cl (.lst (os.map (fun t : Th => V.int (t.tall : Nat)) ++ [.int 0]))) cl = some (.lst (((os.map fun t : Th => ((t.tall : Nat) : Int)) ++ [0]).map V.int)) := by
        rw [upd_same, List.map_append, List.map_map]
        rfl
      generalize (upd (upd H4 zl (.lst [.int 0])) cl (.lst (os.map (fun t : Th => V.int (t.tall : Nat)) ++ [.int 0]))) = H6 at s6 e6 ⊢
      refine ⟨cl, (os.map fun t : Th => ((t.tall : Nat) : Int)) ++ [0], rfl, SqL.of e6, by simp, fun M hM hmax => ⟨_, _, rfl, rfl, ?_⟩⟩
      have hMe := talls_max0 hM hmax
      subst hMe
      refine ⟨line_le (by show 2 ≤ 1000000; decide), fun r hr' => ?_⟩
      refine k r _ (s6.trans (same_new hr' _)) ?_
      unfold PrAt
      rw [upd_same, Th.size, Th.tall]
      congr 4
      · simp
        (first | lia | omega)
      · simp
        (first | lia | omega)
end
def sp__law_sizes : Nat → Sp
  | 0 => fun _ _ _ _ => False
  | n + 1 => fun vs H Q _ => ∃ (b ta : Addr) (ins outs : List (Str × Int)) (head : Th) (rows : List (List Th)) (S : Int) (d : Nat) (t : Th), vs = [.ref b, .ref ta] ∧ Bk H ins outs head rows b ∧ GoodN ins ∧ GoodN outs ∧ BookOk ins outs S d head rows ∧ d ≤ 18 ∧ S ≤ 1000 ∧ At H t ta ∧ t.Fit ins ∧ t.tall ≤ n + 1 ∧ ∀ (r : Addr) (H' : Hp), L2.Same H H' → H r = none → SzAt H' ins rows t r → Q (.ref r) H'
section
variable {P : Program} {w : World} {K : PySem.W.Frag} {mg : Str → Option Value} {base : Heap} (T : TX K mg)
set_option maxHeartbeats 2000000 in
theorem ok__law_sizes : ∀ n : Nat, FnOk P w K mg base CX0 (21 + n) T.f__law_sizes T.d__law_sizes ["book", "tree"] (sp__law_sizes n)
  | 0 => ⟨fun _ _ _ _ h => h.elim, fun _ _ _ _ _ _ _ _ _ _ _ _ _ h => h.elim⟩
  | n + 1 => by
    have ih := ok__law_sizes n
    refine T.F__law_sizes.ok sc__law_sizes (fun vs H Q E h => ?_) (fun cdv A outer s H vs Q E hr h => ?_)
    · obtain ⟨b, ta, ins, outs, head, rows, S, d, t, rfl, _⟩ := h
      rfl
    obtain ⟨b, ta, ins, outs, head, rows, S, d, t, rfl, hb, gi, go, ok, hd, hS, hA, hfit, htl, k⟩ := h
    refine ⟨_, (pss_cons (ps_set (i := 2) sc__law_sizes.nd rfl (Or.inr rfl) (pe_comp (N := [Str.ofString "kind"]) (js := [none]) (g := (gName 0)) (tt := tNoTest) (te := (tOp (rIxT K) (tVar 0) (tC (.int 0)))) rfl (cs_mk rfl (by decide +kernel) (by decide +kernel) rfl rfl rfl) (pi_tup (pe_ix ix_tup (pv 0) pe_int (fun _ _ => rfl))) (fun _ _ _ _ _ _ => (pg_name (i := 0) nd_0 rfl (Or.inl rfl))) (gk_name rfl) (fun _ _ _ _ _ _ => pts_nil) (fun _ _ _ _ _ _ => (pe_ix ix_tup (pv 0) pe_int (fun _ _ => rfl)))))
      (pss_cons (ps_set (i := 3) sc__law_sizes.nd rfl (Or.inr rfl) (pe_comp (N := [Str.ofString "kid", Str.ofString "book"]) (js := [none, some 0]) (g := (gName 0)) (tt := tNoTest) (te := (tCall (sp__law_sizes _) [] E0 (tCons (tVar 1) (tCons (tVar 0) tNil)))) rfl (cs_mk rfl (by decide +kernel) (by decide +kernel) rfl rfl rfl) (pi_tup (pe_slice sl_tup (pv 1) (po_some pe_int) po_none)) (fun _ _ _ _ _ _ => (pg_name (i := 0) nd_9 rfl (Or.inl rfl))) (gk_name rfl) (fun _ _ _ _ _ _ => pts_nil) (fun _ _ _ _ _ _ => (pe_call (ih) (hr.mono (Nat.le_refl _)) rfl T.m__law_sizes T.F__law_sizes.kp T.b__law_sizes .nil pass0 (pa_cons (pv 1) (pa_cons (pv 0) pa_nil))))))
      (pss_one (ps_ret (pe_comp (N := [Str.ofString "row", Str.ofString "kids", Str.ofString "names", Str.ofString "tree"]) (js := [none, some 3, some 2, some 1]) (g := (gName 0)) (tt := tNoTest) (te := (tCall (sp__law_size _) [] E0 (tCons (tOp (rIxT K) (tVar 0) (tBM K "list" (rLIndex K) (tVar 2) (tCons (tOp (rIxT K) (tVar 3) (tC (.int 0))) tNil))) (tCons (tVar 1) tNil)))) rfl (cs_mk rfl (by decide +kernel) (by decide +kernel) rfl rfl rfl) (pi_tup (pe_ix ix_tup (pv 0) pe_int (fun _ _ => rfl))) (fun _ _ _ _ _ _ => (pg_name (i := 0) nd_10 rfl (Or.inl rfl))) (gk_name rfl) (fun _ _ _ _ _ _ => pts_nil) (fun _ _ _ _ _ _ => (pe_call (ok__law_size T 20) (hr.mono (Nat.le_trans (by decide : 20 ≤ 21) (Nat.le_add_right 21 n))) rfl T.m__law_size T.F__law_size.kp T.b__law_size .nil pass0 (pa_cons (pe_ix ix_tup (pv 0) (pe_bm PySem.F.plainAttrs_list PySem.F.slot_list_index PySem.F.type_list_index mt_lindex (pv 2) (pa_cons (pe_ix ix_tup (pv 3) pe_int (fun _ _ => rfl)) pa_nil)) (fun _ _ => rfl)) (pa_cons (pv 1) pa_nil))))))))), ?_⟩
    obtain ⟨ia, oa, hda, ra, ias, oas, ras, bk⟩ := id hb
    have hil : ins.length = ias.length := Paired.length bk.inK
    have hi8 := gi.le
    have hrl : rows.length = ras.length := Paired.length bk.rw
    have hrS := ok.len
    cases t with
    | call a b => rw [Th.Fit] at hfit; exact hfit.elim
    | knot m hs =>
    have hfit0 := hfit
    rw [Th.Fit] at hfit
    obtain ⟨j, hj⟩ := List.mem_iff_getElem?.mp hfit.1
    rw [At] at hA
    obtain ⟨hmq, has, ea, hha⟩ := hA
    have hhl : has.length = hs.length := hha.length
    have hw : hs.length ≤ 3 := by
      have := (gi.num _ hfit.1).2
      have h2 : ((hs.length : Nat) : Int) ≤ 3 := this
      (first | lia | omega)
    rw [Th.tall] at htl
    -- names
    refine ⟨_, rfl, b, _, 0, .ref ia, rfl, rfl, SqT.of bk.bk, at0, ia, rfl, ⟨_, SqT.of bk.inE⟩, comp_sm_tup ins (fun k => V.str k.1) (SqT.of bk.inE) (by rw [List.length_map]; exact hil) (by rw [List.length_map]; (first | lia | omega)) (fun i x z H2 R W' hx hz s2 hR => ?_) (fun D H1 hD s1 e1 => ?_)⟩
    · obtain ⟨ka, rfl, hka⟩ := get_ref hx
      obtain ⟨z', hz', ez⟩ := P2.get' bk.inK hka
      rw [hz] at hz'
      cases hz'
      exact ⟨_, rfl, ka, _, 0, .str z.1, rfl, rfl, SqT.of (s2 _ _ ez), at0, hR H2 (.refl _)⟩
    have en : ins.map (fun k => V.str k.1) = (ins.map (·.1)).map V.str := by rw [List.map_map]; rfl
    rw [en] at e1
    -- kids
    refine ⟨_, rfl, 1, rfl, ta, _, rfl, SqT.of (s1 _ _ ea), ?_, fun p2 hp2 => ?_⟩
    · rintro ⟨z, _⟩
      rw [List.length_cons, show (1 : Int) = ((1 : Nat) : Int) by rfl, HT.sIx_nat] at z
      (first | lia | omega)
    dsimp only
    rw [cut_tail]
    have s2 : L2.Same H1 (upd H1 p2 (.tup (has.map V.ref))) := same_new hp2 _
    have e2 : (upd H1 p2 (.tup (has.map V.ref))) p2 = some (.tup (has.map V.ref)) := upd_same
    generalize (upd H1 p2 (.tup (has.map V.ref))) = H2 at s2 e2 ⊢
    have s02 := s1.trans s2
    refine ⟨p2, rfl, ⟨_, SqT.of e2⟩, comp_nl (F := fun H h a => SzAt H ins rows h a) (xs := has.map V.ref) hs (fun H1 H2 z p kt hk h => h.keep kt hk) (by rw [List.length_map]; (first | lia | omega)) (by rw [List.length_map]; (first | lia | omega)) (fun i Hx sx hi => ⟨_, _, SqT.of (sx _ _ e2), List.getElem?_eq_getElem hi⟩) (fun Hx sx => ⟨_, SqT.of (sx _ _ e2), Nat.le_refl _⟩) (fun i Hx x Hy sx hi hy => ⟨hy.1, hy.2 _ (SqT.of (sx _ _ e2))⟩) (fun i x z Hx R W' hx hzz sx hR => ?_) (fun kd H3 kas hkd s3 ekd hkas => ?_)⟩
    · obtain ⟨ua, rfl, hua⟩ := get_ref hx
      obtain ⟨u, hu, atu⟩ := hha.get hua
      rw [hzz] at hu
      cases hu
      have hum : z ∈ hs := List.mem_of_getElem? hzz
      have htu := talls_le hum
      have s0x := s02.trans sx
      cases n with
      | zero =>
        have := z.tall_eq
        (first | lia | omega)
      | succ n =>
      refine ⟨_, rfl, _, rfl, b, ua, ins, outs, head, rows, S, d, z, rfl, hb.mono (Same.kt s0x), gi, go, ok, hd, hS, atu.mono (Same.kt s0x), fits_mem hfit.2 z hum, by (first | lia | omega), fun r H4 s4 nr hr4 => ?_⟩
      exact hR H4 r s4 nr hr4
    have s03 := s02.trans s3
    -- the outcomes
    obtain ⟨os, hol, hos⟩ : ∃ os : List Th, os.length = rows.length ∧ ∀ (i : Nat) (row : List Th) (o : Th), rows[i]? = some row → os[i]? = some o → ∃ p, row[j]? = some p ∧ Out ins rows p (.knot m hs) o ∧ p.FitS outs S (hs.length : Int) ∧ p.tall ≤ d + 1 := by
      refine list_ex rows fun row hrow => ?_
      have rok := ok.row row hrow
      have hjl := (List.getElem?_eq_some_iff.mp hj).1
      obtain ⟨p, hp⟩ : ∃ p, row[j]? = some p := ⟨_, List.getElem?_eq_getElem (by rw [rok.len]; exact hjl)⟩
      obtain ⟨h1, h2⟩ := rok.fit j p _ hp hj
      obtain ⟨o, g1, _⟩ := out_ex ok _ m hs (Nat.le_refl _) (fits_mem hfit.2) _ p (Nat.le_refl _) h1
      exact ⟨o, p, hp, g1, h1, h2⟩
    have bk3 := bk.mono (Same.kt s03)
    refine ⟨_, rfl, b, _, 3, .ref ra, rfl, rfl, SqT.of bk3.bk, atI_nat (j := 3) rfl, ra, rfl, ⟨_, SqT.of bk3.rl⟩, comp_nw (F := PrAt) (xs := ras.map V.ref) os (fun H1 H2 z p kt h => kt _ _ h) (by rw [List.length_map]; (first | lia | omega)) (by rw [List.length_map]; (first | lia | omega)) (fun i Hx sx hi => ⟨_, _, SqT.of (sx _ _ bk3.rl), List.getElem?_eq_getElem hi⟩) (fun Hx sx => ⟨_, SqT.of (sx _ _ bk3.rl), Nat.le_refl _⟩) (fun i Hx x Hy sx hi hy => ⟨hy.1, hy.2 _ (SqT.of (sx _ _ bk3.rl))⟩) (fun i x z Hx R W' hx hzz sx hR => ?_) (fun D5 H5 as hD5 s5 e5 hp5 => ?_)⟩
    · obtain ⟨rowA, rfl, hrowA⟩ := get_ref hx
      obtain ⟨row, hrow, tas, erow, htas⟩ := P2.get' bk3.rw hrowA
      obtain ⟨p, hp, hout, hpf, hpt⟩ := hos i row z hrow hzz
      have hl2 := htas.length
      have hkl2 := (List.getElem?_eq_some_iff.mp hp).1
      obtain ⟨pa1, hpa1⟩ : ∃ a, tas[j]? = some a := ⟨_, List.getElem?_eq_getElem (by (first | lia | omega))⟩
      obtain ⟨t2, ht2, hat2⟩ := htas.get hpa1
      rw [hp] at ht2
      cases ht2
      have s0x := s03.trans sx
      have e1x := sx _ _ (s3 _ _ (s2 _ _ e1))
      refine ⟨_, rfl, _, rfl, .inl ⟨rfl, _, SqL.of e1x⟩, _, rfl, ta, _, 0, .str m, rfl, rfl, SqT.of (s0x _ _ ea), at0, ?_⟩
      refine ⟨D, ins.map (·.1), m, j, rfl, rfl, SqL.of e1x, by rw [List.getElem?_map, hj]; rfl, fun i hi hz => ?_, by rw [List.length_map]; (first | lia | omega), ?_⟩
      · rw [List.getElem?_map] at hz
        obtain ⟨k', hk', e⟩ := Option.map_eq_some_iff.mp hz
        have := gi.nd i j k' _ hk' hj e
        (first | lia | omega)
      refine ⟨rowA, _, (j : Int), .ref pa1, rfl, rfl, SqT.of (sx _ _ erow), atI_nat (by rw [List.getElem?_map, hpa1]; rfl), ?_⟩
      refine ⟨_, rfl, pa1, kd, ins, outs, rows, S, (hs.length : Int), p, m, hs, kas, z, rfl, hat2.mono (Same.kt sx), sx _ _ ekd, P2.mp (fun _ _ e => e.same sx) hkas, hout, (by show p.tall ≤ 20; (first | lia | omega)), hpf, go, fun r H6 s6 hr6 => ?_⟩
      exact hR H6 r s6 hr6
    · have hal := Paired.length hp5
      refine k D5 H5 (s03.trans s5) (s03.free hD5) ⟨as, e5, by (first | lia | omega), fun st o ho => ?_⟩
      obtain ⟨p, h, stp, ho'⟩ := ho.unstep
      obtain ⟨s0, _, hh0, m', hs', c', j', row, rfl, hj', hrow, hp⟩ := stp
      simp at hh0
      obtain ⟨rfl, rfl⟩ := hh0
      have hjj := gi.nd j j' _ _ hj hj' rfl
      subst hjj
      have hlt := (List.getElem?_eq_some_iff.mp hrow).1
      obtain ⟨z, hz⟩ : ∃ z, os[st.toNat]? = some z := ⟨_, List.getElem?_eq_getElem (by (first | lia | omega))⟩
      obtain ⟨p', hp', hout', _⟩ := hos _ row z hrow hz
      rw [hp] at hp'
      cases hp'
      have := out_det gi ho' hout'
      subst this
      obtain ⟨e, he, hpe⟩ := P2.get hp5 hz
      exact ⟨e, he, hpe⟩
end
def sp__law_made : Nat → Sp
  | 0 => fun _ _ _ _ => False
  | n + 1 => fun vs H Q _ => ∃ (b pa tr : Addr) (ins outs : List (Str × Int)) (head : Th) (rows : List (List Th)) (p : Th) (nm : Str) (ks : List Th) (kas : List Addr) (o : Th), vs = [.ref b, .ref pa, .ref tr] ∧ Bk H ins outs head rows b ∧ GoodN ins ∧ At H p pa ∧ H tr = some (.tup (kas.map V.ref)) ∧ Ats H ks kas ∧ Out ins rows p (.knot nm ks) o ∧ o.tall + talls ks ≤ n + 1 ∧ o.size ≤ 2000 ∧ ∀ (r : Addr) (H' : Hp), L2.Same H H' → At H' o r → Q (.ref r) H'
section
variable {P : Program} {w : World} {K : PySem.W.Frag} {mg : Str → Option Value} {base : Heap} (T : TX K mg)
set_option maxHeartbeats 2000000 in
theorem ok__law_made : ∀ n : Nat, FnOk P w K mg base CX0 n T.f__law_made T.d__law_made ["book", "pattern", "trees"] (sp__law_made n)
  | 0 => ⟨fun _ _ _ _ h => h.elim, fun _ _ _ _ _ _ _ _ _ _ _ _ _ h => h.elim⟩
  | n + 1 => by
    have ih := ok__law_made n
    refine T.F__law_made.ok sc__law_made (fun vs H Q E h => ?_) (fun cdv A outer s H vs Q E hr h => ?_)
    · obtain ⟨b, pa, tr, ins, outs, head, rows, p, nm, ks, kas, o, rfl, _⟩ := h
      rfl
    obtain ⟨b, pa, tr, ins, outs, head, rows, p, nm, ks, kas, o, rfl, hb, gi, hA, etr, hks, hout, htl, hsz, k⟩ := h
    refine ⟨_, (pss_cons (ps_if (pt_cmpR op_eq (pe_ix ix_tup (pv 1) pe_int (fun _ _ => rfl)) pe_str (nomark _)) (pss_cons (ps_set (i := 3) sc__law_made.nd rfl (Or.inl rfl) (pe_ix ix_tup (pv 2) (pe_ix ix_tup (pv 1) pe_int (fun _ _ => rfl)) (fun _ _ => rfl)))
      (pss_cons (ps_setC (i := 4) (N := [Str.ofString "kind"]) (js := [none]) (g := (gName 0)) (tt := tNoTest) (te := (tOp (rIxT K) (tVar 0) (tC (.int 0)))) sc__law_made.nd rfl (Or.inl rfl) rfl (cs_mk rfl (by decide +kernel) (by decide +kernel) rfl rfl rfl) (pi_tup (pe_ix ix_tup (pv 0) pe_int (fun _ _ => rfl))) (fun _ _ _ _ _ _ => (pg_name (i := 0) nd_0 rfl (Or.inl rfl))) (gk_name rfl) (fun _ _ _ _ _ _ => pts_nil) (fun _ _ _ _ _ _ => (pe_ix ix_tup (pv 0) pe_int (fun _ _ => rfl))))
      (pss_one (ps_ret (pe_call (ih) (hr.mono (Nat.le_refl _)) rfl T.m__law_made T.F__law_made.kp T.b__law_made .nil pass0 (pa_cons (pv 0) (pa_cons (pe_ix ix_tup (pe_ix ix_tup (pe_ix ix_tup (pv 0) pe_int (fun _ _ => rfl)) (pe_ix ix_tup (pv 1) pe_int (fun _ _ => rfl)) (fun _ _ => rfl)) (pe_bm PySem.F.plainAttrs_list PySem.F.slot_list_index PySem.F.type_list_index mt_lindex (pv 4) (pa_cons (pe_ix ix_tup (pv 3) pe_int (fun _ _ => rfl)) pa_nil)) (fun _ _ => rfl)) (pa_cons (pe_slice sl_tup (pv 3) (po_some pe_int) po_none) pa_nil)))))))) pss_nil)
      (pss_one (ps_ret (pe_op op_catA (pe_tup (pa_cons (pe_ix ix_tup (pv 1) pe_int (fun _ _ => rfl)) pa_nil)) (pe_callTy call_tuple_of rfl T.n_tuple PyProof.Rows.boot_tuple (pa_cons (pe_comp (N := [Str.ofString "part", Str.ofString "book", Str.ofString "trees"]) (js := [none, some 0, some 2]) (g := (gName 0)) (tt := tNoTest) (te := (tCall (sp__law_made _) [] E0 (tCons (tVar 1) (tCons (tVar 0) (tCons (tVar 2) tNil))))) rfl (cs_mk rfl (by decide +kernel) (by decide +kernel) rfl rfl rfl) (pi_tup (pe_slice sl_tup (pv 1) (po_some pe_int) po_none)) (fun _ _ _ _ _ _ => (pg_name (i := 0) nd_11 rfl (Or.inl rfl))) (gk_name rfl) (fun _ _ _ _ _ _ => pts_nil) (fun _ _ _ _ _ _ => (pe_call (ih) (hr.mono (Nat.le_refl _)) rfl T.m__law_made T.F__law_made.kp T.b__law_made .nil pass0 (pa_cons (pv 1) (pa_cons (pv 0) (pa_cons (pv 2) pa_nil)))))) pa_nil)))))), ?_⟩
    have hot := o.tall_eq
    cases p with
    | call sn cn =>
      rw [At] at hA
      obtain ⟨p', h, st, ho⟩ := hout.unstep
      obtain ⟨s0, c0, hkc, m, hs, c', j, row, rfl, hj, hrow, hp⟩ := id st
      have hkm : Th.knot m hs ∈ ks := List.mem_of_getElem? hkc
      have htk := talls_le hkm
      rw [Th.tall] at htk
      obtain ⟨ha, hha, hat⟩ := hks.at hkc
      have hat' := hat
      rw [At] at hat'
      obtain ⟨hmq, bs, eha, hbs⟩ := hat'
      obtain ⟨ia, oa, hda, ra, ias, oas, ras, bk⟩ := id hb
      have hil : ins.length = ias.length := Paired.length bk.inK
      have hi8 := gi.le
      refine ⟨_, rfl, pa, _, 0, .str q, rfl, rfl, SqT.of hA, at0, rfl, _, rfl, ?_⟩
      refine ite2 (fun _ => ?_) (fun c => absurd (decide_eq_true rfl) c)
      refine ⟨_, rfl, _, rfl, pa, _, 2, .int cn, rfl, rfl, SqT.of hA, at2, tr, _, cn, .ref ha, rfl, rfl, SqT.of etr, at_nonneg c0 (by rw [List.getElem?_map, hha]; rfl), ?_⟩
      refine ⟨_, rfl, b, _, 0, .ref ia, rfl, rfl, SqT.of bk.bk, at0, ia, rfl, ⟨_, SqT.of bk.inE⟩, comp_sm_tup ins (fun k => V.str k.1) (SqT.of bk.inE) (by rw [List.length_map]; exact hil) (by rw [List.length_map]; (first | lia | omega)) (fun i x z H2 R W' hx hz s2 hR => ?_) (fun D H1 hD s1 e1 => ?_)⟩
      · obtain ⟨ka, rfl, hka⟩ := get_ref hx
        obtain ⟨z', hz', ez⟩ := P2.get' bk.inK hka
        rw [hz] at hz'
        cases hz'
        exact ⟨_, rfl, ka, _, 0, .str z.1, rfl, rfl, SqT.of (s2 _ _ ez), at0, hR H2 (.refl _)⟩
      have en : ins.map (fun k => V.str k.1) = (ins.map (·.1)).map V.str := by rw [List.map_map]; rfl
      rw [en] at e1
      have bk1 := bk.mono (Same.kt s1)
      obtain ⟨rowA, hrowA, tas, erow, htas⟩ := P2.get bk1.rw hrow
      obtain ⟨pa1, hpa1, hat1⟩ := htas.at hp
      refine ⟨_, rfl, _, rfl, b, _, 3, .ref ra, rfl, rfl, SqT.of bk1.bk, atI_nat (j := 3) rfl, _, rfl, pa, _, 1, .int sn, rfl, rfl, SqT.of (s1 _ _ hA), at1, ra, _, _, .ref rowA, rfl, rfl, SqT.of bk1.rl, at_nonneg s0 (by rw [List.getElem?_map, hrowA]; rfl), _, rfl, .inl ⟨rfl, _, SqL.of e1⟩, _, rfl, ha, _, 0, .str m, rfl, rfl, SqT.of (s1 _ _ eha), at0, ?_⟩
      refine ⟨D, ins.map (·.1), m, j, rfl, rfl, SqL.of e1, by rw [List.getElem?_map, hj]; rfl, fun i hi hz => ?_, by rw [List.length_map]; (first | lia | omega), ?_⟩
      · rw [List.getElem?_map] at hz
        obtain ⟨k', hk', e⟩ := Option.map_eq_some_iff.mp hz
        have := gi.nd i j k' _ hk' hj e
        (first | lia | omega)
      refine ⟨rowA, _, (j : Int), .ref pa1, rfl, rfl, SqT.of erow, atI_nat (by rw [List.getElem?_map, hpa1]; rfl), ?_⟩
      refine ⟨_, rfl, 1, rfl, ha, _, rfl, SqT.of (s1 _ _ eha), ?_, fun p2 hp2 => ?_⟩
      · rintro ⟨z, _⟩
        rw [List.length_cons, show (1 : Int) = ((1 : Nat) : Int) by rfl, HT.sIx_nat] at z
        (first | lia | omega)
      dsimp only
      rw [cut_tail]
      have s2 : L2.Same H1 (upd H1 p2 (.tup (bs.map V.ref))) := same_new hp2 _
      have s02 := s1.trans s2
      cases n with
      | zero => (first | lia | omega)
      | succ n =>
      refine ⟨b, pa1, p2, ins, outs, head, rows, p', m, hs, bs, o, rfl, hb.mono (Same.kt s02), gi, hat1.mono (Same.kt s2), upd_same, hbs.mono (Same.kt s02), ho, by (first | lia | omega), hsz, fun r H' s' => k r H' (s02.trans s')⟩
    | knot m ts =>
      obtain ⟨os, rfl, hos⟩ := hout.unknot
      have hol := hos.length
      have hlz := len_sizes os
      rw [Th.tall] at htl
      rw [Th.size] at hsz
      rw [At] at hA
      obtain ⟨hmq, tas, ea, hta⟩ := hA
      have htal : tas.length = ts.length := hta.length
      refine ⟨_, rfl, pa, _, 0, .str m, rfl, rfl, SqT.of ea, at0, rfl, _, rfl, ?_⟩
      refine ite2 (fun c => absurd (of_decide_eq_true c) (fun z => hmq (V.str.inj z))) (fun _ => ?_)
      refine ⟨_, rfl, pa, _, 0, .str m, rfl, rfl, SqT.of ea, at0, line_le (by show 1 ≤ 1000000; decide), fun p1 hp1 => ?_⟩
      dsimp only
      have s1 : L2.Same H (upd H p1 (.tup [.str m])) := same_new hp1 _
      have e1 : (upd H p1 (.tup [.str m])) p1 = some (.tup [.str m]) := upd_same
      generalize (upd H p1 (.tup [.str m])) = H1 at s1 e1 ⊢
      refine ⟨_, rfl, 1, rfl, pa, _, rfl, SqT.of (s1 _ _ ea), ?_, fun p2 hp2 => ?_⟩
      · rintro ⟨z, _⟩
        rw [List.length_cons, show (1 : Int) = ((1 : Nat) : Int) by rfl, HT.sIx_nat] at z
        (first | lia | omega)
      dsimp only
      rw [cut_tail]
      have s2 : L2.Same H1 (upd H1 p2 (.tup (tas.map V.ref))) := same_new hp2 _
      have e2 : (upd H1 p2 (.tup (tas.map V.ref))) p2 = some (.tup (tas.map V.ref)) := upd_same
      generalize (upd H1 p2 (.tup (tas.map V.ref))) = H2 at s2 e2 ⊢
      have s02 := s1.trans s2
      refine ⟨p2, rfl, ⟨_, SqT.of e2⟩, comp_nw (F := fun H o a => At H o a) (xs := tas.map V.ref) os (fun H1 H2 z p kt h => h.mono kt) (by rw [List.length_map]; (first | lia | omega)) (by rw [List.length_map]; (first | lia | omega)) (fun i Hx sx hi => ⟨_, _, SqT.of (sx _ _ e2), List.getElem?_eq_getElem hi⟩) (fun Hx sx => ⟨_, SqT.of (sx _ _ e2), Nat.le_refl _⟩) (fun i Hx x Hy sx hi hy => ⟨hy.1, hy.2 _ (SqT.of (sx _ _ e2))⟩) (fun i x z Hx R W' hx hzz sx hR => ?_) (fun D H3 as hD s3 eD hpD => ?_)⟩
      · obtain ⟨ua, rfl, hua⟩ := get_ref hx
        obtain ⟨u, hu, atu⟩ := hta.get hua
        have hzm : z ∈ os := List.mem_of_getElem? hzz
        have htz := talls_le hzm
        have hsz2 := sizes_mem hzm
        have hzt := z.tall_eq
        have s0x := s02.trans sx
        cases n with
        | zero => (first | lia | omega)
        | succ n =>
        refine ⟨_, rfl, _, rfl, _, rfl, b, ua, tr, ins, outs, head, rows, u, nm, ks, kas, z, rfl, hb.mono (Same.kt s0x), gi, atu.mono (Same.kt s0x), s0x _ _ etr, hks.mono (Same.kt s0x), hos.get i hu hzz, by (first | lia | omega), by (first | lia | omega), fun r H4 s4 hr4 => ?_⟩
        exact hR H4 r s4 hr4
      have hal : os.length = as.length := Paired.length hpD
      refine ⟨D, _, rfl, .inl ⟨SqL.of eD, fun tp htp => ?_⟩⟩
      have s4 : L2.Same H3 (upd H3 tp (.tup (as.map V.ref))) := same_new htp _
      have e4 : (upd H3 tp (.tup (as.map V.ref))) tp = some (.tup (as.map V.ref)) := upd_same
      generalize (upd H3 tp (.tup (as.map V.ref))) = H4 at s4 e4 ⊢
      refine catT (s4 _ _ (s3 _ _ (s2 _ _ e1))) e4 (by rw [List.length_map]; show 1 + as.length ≤ 1000000; (first | lia | omega)) fun p H5 s5 e5 => ?_
      refine k p H5 (s02.trans (s3.trans (s4.trans s5))) ?_
      rw [At]
      exact ⟨hmq, as, e5, ats_of (P2.mp (fun _ _ e => e.mono (Same.kt (s4.trans s5))) hpD)⟩
end
def sp__law_right : Sp := fun vs H Q _ => ∃ (b ta sz : Addr) (ins outs : List (Str × Int)) (head : Th) (rows : List (List Th)) (st : Int) (t o : Th), vs = [.ref b, .ref ta, .int st, .ref sz] ∧ Bk H ins outs head rows b ∧ GoodN ins ∧ GoodN outs ∧ At H t ta ∧ (st < 0 → Out ins rows head (.knot (Str.ofString "") [t]) o) ∧ (¬ st < 0 → Out ins rows (.call st 0) (.knot (Str.ofString "") [t]) o) ∧ o.Fit outs ∧ t.tall ≤ 79 ∧ PrAt H o sz ∧ ∀ H', L2.Same H H' → Q (.bl true) H'
section
variable {P : Program} {w : World} {K : PySem.W.Frag} {mg : Str → Option Value} {base : Heap} (T : TX K mg)
set_option maxHeartbeats 2000000 in
theorem ok__law_right : FnOk P w K mg base CX0 230 T.f__law_right T.d__law_right ["book", "tree", "state", "size"] sp__law_right := by
  refine T.F__law_right.ok sc__law_right (fun vs H Q E h => ?_) (fun cdv A outer s H vs Q E hr h => ?_)
  · obtain ⟨b, ta, sz, ins, outs, head, rows, st, t, o, rfl, _⟩ := h
    rfl
  obtain ⟨b, ta, sz, ins, outs, head, rows, st, t, o, rfl, hb, gi, go, ht, h1, h2, hfit, htl, esz, q⟩ := h
  refine ⟨_, (pss_cons (ps_if (PW.pt (pw_or (pt_cmpR op_gt (pe_ix ix_tup (pv 3) pe_int (fun _ _ => rfl)) pe_int (nomark _)) (pw_or1 (pt_cmpR op_gt (pe_ix ix_tup (pv 3) pe_int (fun _ _ => rfl)) pe_int (nomark _))))) (pss_one (ps_ret (pe_cmpR (op_eqLB (room_2 hr)) (pe_call (ok__law_refusal T) (hr.mono (by first | decide | (first | lia | omega))) rfl T.m__law_refusal T.F__law_refusal.kp T.b__law_refusal .nil pass0 (pa_cons (pv 0) (pa_cons (pv 1) (pa_cons (pv 2) pa_nil)))) (pe_lst (pa_cons pe_bl (pa_cons pe_bl (pa_cons pe_bl pa_nil)))) (nomark _)))) pss_nil)
      (pss_cons (ps_if (pt_cmpR op_notN (pe_call (ok__law_refusal T) (hr.mono (by first | decide | (first | lia | omega))) rfl T.m__law_refusal T.F__law_refusal.kp T.b__law_refusal .nil pass0 (pa_cons (pv 0) (pa_cons (pv 1) (pa_cons (pv 2) pa_nil)))) pe_non (nomark _)) (pss_one (ps_ret pe_bl)) pss_nil)
      (pss_cons (ps_if (pt_cmpR op_lt (pv 2) pe_int (nomark _)) (pss_one (ps_ret (pe_cmpR (op_eqT (B := 150) (room_150 hr)) (pe_call (ok_turned T) (hr.mono (by first | decide | (first | lia | omega))) rfl T.m_turned T.F_turned.kp T.b_turned .nil pass0 (pa_cons (pv 0) (pa_cons (pv 1) pa_nil))) (pe_call (ok__law_made T 229) (hr.mono (by first | decide | (first | lia | omega))) rfl T.m__law_made T.F__law_made.kp T.b__law_made .nil pass0 (pa_cons (pv 0) (pa_cons (pe_ix ix_tup (pv 0) pe_int (fun _ _ => rfl)) (pa_cons (pe_tup (pa_cons (pv 1) pa_nil)) pa_nil)))) (nomark _)))) pss_nil)
      (pss_one (ps_ret (pe_cmpR (op_eqT (B := 150) (room_150 hr)) (pe_call (ok_turned_by T) (hr.mono (by first | decide | (first | lia | omega))) rfl T.m_turned_by T.F_turned_by.kp T.b_turned_by .nil pass0 (pa_cons (pv 0) (pa_cons (pv 2) (pa_cons (pv 1) pa_nil)))) (pe_call (ok__law_made T 229) (hr.mono (by first | decide | (first | lia | omega))) rfl T.m__law_made T.F__law_made.kp T.b__law_made .nil pass0 (pa_cons (pv 0) (pa_cons (pe_tup (pa_cons pe_str (pa_cons (pv 2) (pa_cons pe_int pa_nil)))) (pa_cons (pe_tup (pa_cons (pv 1) pa_nil)) pa_nil)))) (nomark _))))))), ?_⟩
  refine if_intro (fun bb H' => H = H' ∧ (bb = true → ¬ (o.size ≤ 2000 ∧ o.tall ≤ 150)) ∧ (bb = false → (o.size ≤ 2000 ∧ o.tall ≤ 150))) (fun k2 hk2 => ?_) (fun H' hb2 => ?_) (fun H' hb2 => ?_)
  · refine ⟨_, rfl, sz, _, 0, _, rfl, rfl, SqT.of esz, at0, _, _, rfl, rfl, _, rfl, ?_⟩
    refine ite2 (fun c1 => hk2 _ _ ⟨rfl, fun _ z => ?_, fun z => by cases z⟩) (fun c1 => ?_)
    · have := of_decide_eq_true c1
      (first | lia | omega)
    · have c1' : ¬ (2000 : Int) < ((o.size : Nat) : Int) := fun z => c1 (decide_eq_true z)
      refine ⟨_, rfl, sz, _, 1, _, rfl, rfl, SqT.of esz, at1, _, _, rfl, rfl, _, rfl, hk2 _ _ ⟨rfl, fun z z2 => ?_, fun z => ?_⟩⟩
      · have := of_decide_eq_true z
        (first | lia | omega)
      · have := of_decide_eq_false z
        (first | lia | omega)
  · obtain ⟨rfl, hb2, _⟩ := hb2
    have hbig := hb2 rfl
    refine ⟨_, rfl, _, rfl, _, rfl, b, ta, ins, outs, head, rows, st, t, o, rfl, hb, gi, go, ht, h1, h2, hfit, fun hs => absurd hs hbig, fun _ l H2 s2 el => ?_⟩
    refine ⟨line_le (by show 3 ≤ 1000000; decide), fun l2 hl2 => ?_⟩
    have s3 := same_new hl2 (.lst [.bl true, .bl false, .bl true])
    exact ⟨l, l2, [true, false, true], [true, false, true], rfl, rfl, SqL.of (s3 _ _ el), SqL.of upd_same, q _ (s2.trans s3)⟩
  obtain ⟨rfl, _, hb2⟩ := hb2
  have hsm := hb2 rfl
  refine ⟨_, rfl, _, rfl, _, rfl, b, ta, ins, outs, head, rows, st, t, o, rfl, hb, gi, go, ht, h1, h2, hfit, fun _ H2 s2 => ?_, fun hn => absurd hsm hn⟩
  refine ⟨rfl, _, rfl, iteF ?_⟩
  have hbk2 := hb.mono (Same.kt s2)
  have ht2 := ht.mono (Same.kt s2)
  obtain ⟨n, os, rfl⟩ : ∃ n os, o = .knot n os := by
    cases o with
    | knot n os => exact ⟨n, os, rfl⟩
    | call a b => rw [Th.Fit] at hfit; exact hfit.elim
  have hdeep : deeps (.str n :: dvs os) ≤ 150 := by
    have h3 := hsm.2
    have h4 := dvs_deep os
    rw [Th.tall] at h3
    rw [deeps, Dv.deep]
    (first | lia | omega)
  obtain ⟨ia, oa, hda, ra, ias, oas, ras, bk⟩ := id hbk2
  have t1 : talls [t] = t.tall := by rw [talls, talls]; exact Nat.max_zero _
  refine ⟨_, rfl, _, _, rfl, rfl, _, rfl, ?_⟩
  refine ite2 (fun c => ?_) (fun c => ?_)
  · have hc := h1 (of_decide_eq_true c)
    refine ⟨_, rfl, _, rfl, b, ta, ins, outs, head, rows, t, _, rfl, hbk2, gi, go, ht2, hc, hfit, hsm, fun r1 H3 s3 hr1 => ?_⟩
    refine ⟨_, rfl, _, rfl, b, _, 2, .ref hda, rfl, rfl, SqT.of (s3 _ _ bk.bk), at2, _, rfl, line_le (by show 1 ≤ 1000000; decide), fun tp htp => ?_⟩
    have s4 := same_new htp (.tup [.ref ta])
    have s34 := s3.trans s4
    refine ⟨b, hda, tp, ins, outs, head, rows, head, Str.ofString "", [t], [ta], _, rfl, hbk2.mono (Same.kt s34), gi, bk.hd.mono (Same.kt s34), upd_same, .cons (ht2.mono (Same.kt s34)) .nil, hc, (by rw [t1]; have := hsm.2; show (Th.knot n os).tall + t.tall ≤ 229; (first | lia | omega)), hsm.1, fun r2 H5 s5 hr2 => ?_⟩
    have d1 := (hr1.mono (Same.kt (s4.trans s5))).dv
    have d2 := hr2.dv
    rw [Th.dv] at d1 d2
    refine ⟨_, _, d1, d2, hdeep, fun bb hbb => ?_⟩
    have e : bb = true := hbb.mpr rfl
    subst e
    exact q _ (s2.trans (s34.trans s5))
  · have hc := h2 (fun z => c (decide_eq_true z))
    refine ⟨_, rfl, _, rfl, _, rfl, b, ta, ins, outs, head, rows, st, t, _, rfl, hbk2, gi, go, ht2, hc, hfit, hsm, fun r1 H3 s3 hr1 => ?_⟩
    refine ⟨_, rfl, _, rfl, line_le (by show 3 ≤ 1000000; decide), fun ca hca => ?_⟩
    have s3' := same_new hca (.tup [.str BB.q, .int st, .int 0])
    refine ⟨_, rfl, line_le (by show 1 ≤ 1000000; decide), fun tp htp => ?_⟩
    have s4 := s3'.trans (same_new htp (.tup [.ref ta]))
    have s34 := s3.trans s4
    refine ⟨b, ca, tp, ins, outs, head, rows, .call st 0, Str.ofString "", [t], [ta], _, rfl, hbk2.mono (Same.kt s34), gi, ?_, upd_same, .cons (ht2.mono (Same.kt s34)) .nil, hc, (by rw [t1]; have := hsm.2; show (Th.knot n os).tall + t.tall ≤ 229; (first | lia | omega)), hsm.1, fun r2 H5 s5 hr2 => ?_⟩
    · rw [At]
      exact same_new htp _ _ _ upd_same
    have d1 := (hr1.mono (Same.kt (s4.trans s5))).dv
    have d2 := hr2.dv
    rw [Th.dv] at d1 d2
    refine ⟨_, _, d1, d2, hdeep, fun bb hbb => ?_⟩
    have e : bb = true := hbb.mpr rfl
    subst e
    exact q _ (s2.trans (s34.trans s5))
end
def sp_law (K : PySem.W.Frag) : Sp := fun vs H Q _ => ∃ (a : Addr) (ns : List Int), vs = [.ref a] ∧ SqL K H a (ns.map V.int) ∧ ns.length ≤ 63 ∧ ∀ H', Q (.bl true) H'
section
variable {P : Program} {w : World} {K : PySem.W.Frag} {mg : Str → Option Value} {base : Heap} (T : TX K mg)
set_option maxHeartbeats 4000000 in
theorem ok_law : FnOk P w K mg base CX0 231 T.f_law T.d_law ["script"] (sp_law K) := by
  refine T.F_law.ok sc_law (fun vs H Q E h => ?_) (fun cdv A outer s H vs Q E hr h => ?_)
  · obtain ⟨a, ns, rfl, _⟩ := h
    rfl
  obtain ⟨a, ns, rfl, hS, hns, k⟩ := h
  refine ⟨_, (pss_cons (ps_asg (pe_call (ok__law_setting T) (hr.mono (by first | decide | (first | lia | omega))) rfl T.m__law_setting T.F__law_setting.kp T.b__law_setting .nil pass0 (pa_cons (pv 0) (pa_cons pe_int (pa_cons pe_int pa_nil)))) (pg_tup rfl (pgs_cons (pg_name (i := 1) sc_law.nd rfl (Or.inl rfl)) (pgs_cons (pg_name (i := 2) sc_law.nd rfl (Or.inl rfl)) pgs_nil))))
      (pss_cons (ps_set (i := 3) sc_law.nd rfl (Or.inl rfl) (pe_call (ok__law_sizes T 80) (hr.mono (by first | decide | (first | lia | omega))) rfl T.m__law_sizes T.F__law_sizes.kp T.b__law_sizes .nil pass0 (pa_cons (pv 1) (pa_cons (pv 2) pa_nil))))
      (pss_cons (ps_if (pt_not (pt_truth (pe_call (ok__law_right T) (hr.mono (by first | decide | (first | lia | omega))) rfl T.m__law_right T.F__law_right.kp T.b__law_right .nil pass0 (pa_cons (pv 1) (pa_cons (pv 2) (pa_cons (pe_un un_neg pe_int) (pa_cons (pe_call (ok__law_size T 20) (hr.mono (by first | decide | (first | lia | omega))) rfl T.m__law_size T.F__law_size.kp T.b__law_size .nil pass0 (pa_cons (pe_ix ix_tup (pv 1) pe_int (fun _ _ => rfl)) (pa_cons (pe_lst (pa_cons (pv 3) pa_nil)) pa_nil))) pa_nil))))) (fun _ => rfl))) (pss_one (ps_ret pe_bl)) pss_nil)
      (pss_cons (ps_if (pt_cmpR op_eq (pe_callB call_len_seq rfl T.n_len PySem.boot_len (pa_cons (pv 3) pa_nil)) pe_int (nomark _)) (pss_one (ps_ret pe_bl)) pss_nil)
      (pss_cons (ps_set (i := 4) sc_law.nd rfl (Or.inl rfl) (pe_op op_mod (pe_op op_fdiv (pe_call (ok__law_cell T) (hr.mono (by first | decide | (first | lia | omega))) rfl T.m__law_cell T.F__law_cell.kp T.b__law_cell .nil pass0 (pa_cons (pv 0) (pa_cons pe_int pa_nil))) pe_int) (pe_callB call_len_seq rfl T.n_len PySem.boot_len (pa_cons (pv 3) pa_nil))))
      (pss_one (ps_ret (pe_call (ok__law_right T) (hr.mono (by first | decide | (first | lia | omega))) rfl T.m__law_right T.F__law_right.kp T.b__law_right .nil pass0 (pa_cons (pv 1) (pa_cons (pv 2) (pa_cons (pv 4) (pa_cons (pe_ix ix_list (pv 3) (pv 4) (fun _ _ => rfl)) pa_nil)))))))))))), ?_⟩
  refine ⟨_, rfl, a, ns, 4, 2, rfl, hS, hns, by decide, by decide, by decide, by decide, fun r b ta ins outs head rows S t H1 s1 er bk gi go bo hSl hA hF hT => ?_⟩
  refine ⟨r, _, rfl, SqT.of er, rfl, _, _, rfl, _, _, rfl, rfl, ?_⟩
  have hd : ((2 : Int).toNat + 9) = 11 := rfl
  rw [hd] at bo
  refine ⟨_, rfl, _, rfl, b, ta, ins, outs, head, rows, S, 11, t, rfl, bk, gi, go, bo, by decide, by (first | lia | omega), hA, hF, (by show t.tall ≤ 80; (first | lia | omega)), fun sz H2 s2 nsz hsz => ?_⟩
  have s12 := s1.trans s2
  have bk2 := bk.mono (Same.kt s2)
  have hA2 := hA.mono (Same.kt s2)
  obtain ⟨ia, oa, hda, ra, ias, oas, ras, bka⟩ := id bk2
  have hfit1 : ∀ h ∈ [t], h.Fit ins := fun h hh => by rw [List.mem_singleton.mp hh]; exact hF
  obtain ⟨o, ho, hoF⟩ := out_ex bo _ (Str.ofString "") [t] (Nat.le_refl _) hfit1 _ head (Nat.le_refl _) bo.hdf
  have hht := bo.hdt
  dsimp only [gName, tSeq]
  refine if_intro (fun bb H' => L2.Same H2 H' ∧ bb = false) (fun k2 hk2 => ?_) (fun H' hb2 => by cases hb2.2) (fun H' hb2 => ?_)
  · refine ⟨_, rfl, _, rfl, _, rfl, _, rfl, b, _, 2, .ref hda, rfl, rfl, SqT.of bka.bk, at2, _, rfl, line_le (by show 1 ≤ 1000000; decide), fun l1 hl1 => ?_⟩
    have s3 := same_new hl1 (.lst [.ref sz])
    refine ⟨hda, l1, ins, outs, rows, S, 1, head, Str.ofString "", [t], [sz], o, rfl, bka.hd.mono (Same.kt s3), upd_same, .cons (hsz.same s3) .nil, ho, (by show head.tall ≤ 20; (first | lia | omega)), bo.hdf, go, fun pr H4 s4 hpr => ?_⟩
    have s34 := s3.trans s4
    exact ⟨b, ta, pr, ins, outs, head, rows, _, t, o, rfl, bk2.mono (Same.kt s34), gi, go, hA2.mono (Same.kt s34), fun _ => ho, fun z => absurd (by decide) z, hoF, hT, hpr, fun H5 s5 => ⟨true, rfl, hk2 _ _ ⟨s34.trans s5, rfl⟩⟩⟩
  obtain ⟨s3, _⟩ := hb2
  have hsz3 := hsz.same s3
  obtain ⟨es, ees, hel, hes⟩ := id hsz3
  refine ⟨_, rfl, sz, _, rfl, .inl (SqL.of ees), rfl, _, rfl, ?_⟩
  refine ite2 (fun c => k _) (fun c => ?_)
  have hne : 0 < (((es.map V.ref).length : Nat) : Int) := by
    have : ¬ V.int (((es.map V.ref).length : Nat) : Int) = V.int 0 := fun z => c (decide_eq_true z)
    have h2 : ¬ (((es.map V.ref).length : Nat) : Int) = 0 := fun z => this (by rw [z])
    (first | lia | omega)
  have hS0 : (es.length : Int) = S := by
    have := bo.len
    (first | lia | omega)
  refine ⟨_, rfl, a, ns, 2, rfl, (s12.trans s3).seq hS, by decide, fun cell => ?_⟩
  have y0 := Int.emod_nonneg (cell / 91) (show (((es.map V.ref).length : Nat) : Int) ≠ 0 by (first | lia | omega))
  have y1 := Int.emod_lt_of_pos (cell / 91) hne
  refine ⟨_, _, rfl, rfl, ⟨by decide, by decide⟩, _, rfl, sz, _, rfl, .inl (SqL.of ees), _, _, rfl, rfl, hne, ?_⟩
  dsimp only
  generalize cell / 91 % (((es.map V.ref).length : Nat) : Int) = st at y0 y1 ⊢
  rw [List.length_map] at y1
  have hcf : (Th.call st 0).FitS outs S (([t] : List Th).length : Int) := by
    rw [Th.FitS]
    exact ⟨y0, by (first | lia | omega), Int.le_refl _, by show (0 : Int) < 1; decide⟩
  obtain ⟨o2, ho2, ho2F⟩ := out_ex bo _ (Str.ofString "") [t] (Nat.le_refl _) hfit1 _ (.call st 0) (Nat.le_refl _) hcf
  obtain ⟨p2, h2, st2, hop2⟩ := ho2.unstep
  have hth : h2 = t := by
    obtain ⟨_, _, hh, _⟩ := id st2
    simpa using hh.symm
  subst hth
  obtain ⟨e, he, hee⟩ := hes st o2 (Out.step (step_one st2) hop2)
  refine ⟨_, rfl, _, rfl, _, rfl, _, rfl, _, rfl, sz, _, _, .ref e, rfl, rfl, SqL.of ees, at_nonneg y0 (by rw [List.getElem?_map, he]; rfl), ?_⟩
  exact ⟨b, ta, e, ins, outs, head, rows, st, _, o2, rfl, bk2.mono (Same.kt s3), gi, go, hA2.mono (Same.kt s3), fun z => absurd y0 (by (first | lia | omega)), fun _ => ho2, ho2F, hT, hee, fun H5 s5 => k _⟩
end
set_option maxHeartbeats 8000000 in
theorem all_mk {l : PySem.W.OpenLaw} {w : World} {K : PySem.W.Frag} {h : Heap} {mg : Str → Option Value} {fa : Addr} (X : K.In h) (G : h.Ns mainGlobals mg) (hfa : mg "law" = some (.ref fa))
    {f0 : Addr} {od0 an0 : Option Addr} {sl0 : Array (Option Value)} {oc0 kV0 dc0 pm0 cd0 ct0 : Value} {f1 : Addr} {od1 an1 : Option Addr} {sl1 : Array (Option Value)} {oc1 kV1 dc1 pm1 cd1 ct1 : Value} {f2 : Addr} {od2 an2 : Option Addr} {sl2 : Array (Option Value)} {oc2 kV2 dc2 pm2 cd2 ct2 : Value} {f3 : Addr} {od3 an3 : Option Addr} {sl3 : Array (Option Value)} {oc3 kV3 dc3 pm3 cd3 ct3 : Value} {f4 : Addr} {od4 an4 : Option Addr} {sl4 : Array (Option Value)} {oc4 kV4 dc4 pm4 cd4 ct4 : Value} {f5 : Addr} {od5 an5 : Option Addr} {sl5 : Array (Option Value)} {oc5 kV5 dc5 pm5 cd5 ct5 : Value} {f6 : Addr} {od6 an6 : Option Addr} {sl6 : Array (Option Value)} {oc6 kV6 dc6 pm6 cd6 ct6 : Value} {f7 : Addr} {od7 an7 : Option Addr} {sl7 : Array (Option Value)} {oc7 kV7 dc7 pm7 cd7 ct7 : Value} {f8 : Addr} {od8 an8 : Option Addr} {sl8 : Array (Option Value)} {oc8 kV8 dc8 pm8 cd8 ct8 : Value} {f9 : Addr} {od9 an9 : Option Addr} {sl9 : Array (Option Value)} {oc9 kV9 dc9 pm9 cd9 ct9 : Value} {f10 : Addr} {od10 an10 : Option Addr} {sl10 : Array (Option Value)} {oc10 kV10 dc10 pm10 cd10 ct10 : Value} {f11 : Addr} {od11 an11 : Option Addr} {sl11 : Array (Option Value)} {oc11 kV11 dc11 pm11 cd11 ct11 : Value} {f12 : Addr} {od12 an12 : Option Addr} {sl12 : Array (Option Value)} {oc12 kV12 dc12 pm12 cd12 ct12 : Value} {f13 : Addr} {od13 an13 : Option Addr} {sl13 : Array (Option Value)} {oc13 kV13 dc13 pm13 cd13 ct13 : Value} {f14 : Addr} {od14 an14 : Option Addr} {sl14 : Array (Option Value)} {oc14 kV14 dc14 pm14 cd14 ct14 : Value} {f15 : Addr} {od15 an15 : Option Addr} {sl15 : Array (Option Value)} {oc15 kV15 dc15 pm15 cd15 ct15 : Value} {f16 : Addr} {od16 an16 : Option Addr} {sl16 : Array (Option Value)} {oc16 kV16 dc16 pm16 cd16 ct16 : Value} {f17 : Addr} {od17 an17 : Option Addr} {sl17 : Array (Option Value)} {oc17 kV17 dc17 pm17 cd17 ct17 : Value} {f18 : Addr} {od18 an18 : Option Addr} {sl18 : Array (Option Value)} {oc18 kV18 dc18 pm18 cd18 ct18 : Value} {f19 : Addr} {od19 an19 : Option Addr} {sl19 : Array (Option Value)} {oc19 kV19 dc19 pm19 cd19 ct19 : Value} {f20 : Addr} {od20 an20 : Option Addr} {sl20 : Array (Option Value)} {oc20 kV20 dc20 pm20 cd20 ct20 : Value} {f21 : Addr} {od21 an21 : Option Addr} {sl21 : Array (Option Value)} {oc21 kV21 dc21 pm21 cd21 ct21 : Value} {f22 : Addr} {od22 an22 : Option Addr} {sl22 : Array (Option Value)} {oc22 kV22 dc22 pm22 cd22 ct22 : Value} {f23 : Addr} {od23 an23 : Option Addr} {sl23 : Array (Option Value)} {oc23 kV23 dc23 pm23 cd23 ct23 : Value} {f24 : Addr} {od24 an24 : Option Addr} {sl24 : Array (Option Value)} {oc24 kV24 dc24 pm24 cd24 ct24 : Value} {f25 : Addr} {od25 an25 : Option Addr} {sl25 : Array (Option Value)} {oc25 kV25 dc25 pm25 cd25 ct25 : Value} {f26 : Addr} {od26 an26 : Option Addr} {sl26 : Array (Option Value)} {oc26 kV26 dc26 pm26 cd26 ct26 : Value} {f27 : Addr} {od27 an27 : Option Addr} {sl27 : Array (Option Value)} {oc27 kV27 dc27 pm27 cd27 ct27 : Value} {f28 : Addr} {od28 an28 : Option Addr} {sl28 : Array (Option Value)} {oc28 kV28 dc28 pm28 cd28 ct28 : Value} {f29 : Addr} {od29 an29 : Option Addr} {sl29 : Array (Option Value)} {oc29 kV29 dc29 pm29 cd29 ct29 : Value} {f30 : Addr} {od30 an30 : Option Addr} {sl30 : Array (Option Value)} {oc30 kV30 dc30 pm30 cd30 ct30 : Value} {f31 : Addr} {od31 an31 : Option Addr} {sl31 : Array (Option Value)} {oc31 kV31 dc31 pm31 cd31 ct31 : Value} {f32 : Addr} {od32 an32 : Option Addr} {sl32 : Array (Option Value)} {oc32 kV32 dc32 pm32 cd32 ct32 : Value} {tk0 : Tok} {tk1 : Tok} {tk2 : Tok} {ex_BookError : Addr} {ex_Great : Addr} {ex_Many : Addr}
    (a0 : PySem.W.nsIn K mainGlobals "built" = some (some (.ref f0))) (l0 : K.lookup f0 = some ⟨oc0, od0, .func (PySem.W.fnOf "built" "built" (defArgs s_built) (defBody s_built) (defScope s_built) .none kV0 dc0 pm0 an0 cd0 ct0), sl0⟩) (c0 : PySem.W.codeIn K cd0 "built" = true) (k0 : PySem.W.keepIn K (.ref f0) = true)
    (a1 : PySem.W.nsIn K mainGlobals "is_call" = some (some (.ref f1))) (l1 : K.lookup f1 = some ⟨oc1, od1, .func (PySem.W.fnOf "is_call" "is_call" (defArgs s_is_call) (defBody s_is_call) (defScope s_is_call) .none kV1 dc1 pm1 an1 cd1 ct1), sl1⟩) (c1 : PySem.W.codeIn K cd1 "is_call" = true) (k1 : PySem.W.keepIn K (.ref f1) = true)
    (a2 : PySem.W.nsIn K mainGlobals "called_by" = some (some (.ref f2))) (l2 : K.lookup f2 = some ⟨oc2, od2, .func (PySem.W.fnOf "called_by" "called_by" (defArgs s_called_by) (defBody s_called_by) (defScope s_called_by) .none kV2 dc2 pm2 an2 cd2 ct2), sl2⟩) (c2 : PySem.W.codeIn K cd2 "called_by" = true) (k2 : PySem.W.keepIn K (.ref f2) = true)
    (a3 : PySem.W.nsIn K mainGlobals "ins_of" = some (some (.ref f3))) (l3 : K.lookup f3 = some ⟨oc3, od3, .func (PySem.W.fnOf "ins_of" "ins_of" (defArgs s_ins_of) (defBody s_ins_of) (defScope s_ins_of) .none kV3 dc3 pm3 an3 cd3 ct3), sl3⟩) (c3 : PySem.W.codeIn K cd3 "ins_of" = true) (k3 : PySem.W.keepIn K (.ref f3) = true)
    (a4 : PySem.W.nsIn K mainGlobals "head_of" = some (some (.ref f4))) (l4 : K.lookup f4 = some ⟨oc4, od4, .func (PySem.W.fnOf "head_of" "head_of" (defArgs s_head_of) (defBody s_head_of) (defScope s_head_of) .none kV4 dc4 pm4 an4 cd4 ct4), sl4⟩) (c4 : PySem.W.codeIn K cd4 "head_of" = true) (k4 : PySem.W.keepIn K (.ref f4) = true)
    (a5 : PySem.W.nsIn K mainGlobals "rules_of" = some (some (.ref f5))) (l5 : K.lookup f5 = some ⟨oc5, od5, .func (PySem.W.fnOf "rules_of" "rules_of" (defArgs s_rules_of) (defBody s_rules_of) (defScope s_rules_of) .none kV5 dc5 pm5 an5 cd5 ct5), sl5⟩) (c5 : PySem.W.codeIn K cd5 "rules_of" = true) (k5 : PySem.W.keepIn K (.ref f5) = true)
    (a6 : PySem.W.nsIn K mainGlobals "pattern_of" = some (some (.ref f6))) (l6 : K.lookup f6 = some ⟨oc6, od6, .func (PySem.W.fnOf "pattern_of" "pattern_of" (defArgs s_pattern_of) (defBody s_pattern_of) (defScope s_pattern_of) .none kV6 dc6 pm6 an6 cd6 ct6), sl6⟩) (c6 : PySem.W.codeIn K cd6 "pattern_of" = true) (k6 : PySem.W.keepIn K (.ref f6) = true)
    (a7 : PySem.W.nsIn K mainGlobals "above" = some (some (.ref f7))) (l7 : K.lookup f7 = some ⟨oc7, od7, .func (PySem.W.fnOf "above" "above" (defArgs s_above) (defBody s_above) (defScope s_above) .none kV7 dc7 pm7 an7 cd7 ct7), sl7⟩) (c7 : PySem.W.codeIn K cd7 "above" = true) (k7 : PySem.W.keepIn K (.ref f7) = true)
    (a8 : PySem.W.nsIn K mainGlobals "call_of" = some (some (.ref f8))) (l8 : K.lookup f8 = some ⟨oc8, od8, .func (PySem.W.fnOf "call_of" "call_of" (defArgs s_call_of) (defBody s_call_of) (defScope s_call_of) .none kV8 dc8 pm8 an8 cd8 ct8), sl8⟩) (c8 : PySem.W.codeIn K cd8 "call_of" = true) (k8 : PySem.W.keepIn K (.ref f8) = true)
    (a9 : PySem.W.nsIn K mainGlobals "led_on" = some (some (.ref f9))) (l9 : K.lookup f9 = some ⟨oc9, od9, .func (PySem.W.fnOf "led_on" "led_on" (defArgs s_led_on) (defBody s_led_on) (defScope s_led_on) .none kV9 dc9 pm9 an9 cd9 ct9), sl9⟩) (c9 : PySem.W.codeIn K cd9 "led_on" = true) (k9 : PySem.W.keepIn K (.ref f9) = true)
    (a10 : PySem.W.nsIn K mainGlobals "resolved" = some (some (.ref f10))) (l10 : K.lookup f10 = some ⟨oc10, od10, .func (PySem.W.fnOf "resolved" "resolved" (defArgs s_resolved) (defBody s_resolved) (defScope s_resolved) .none kV10 dc10 pm10 an10 cd10 ct10), sl10⟩) (c10 : PySem.W.codeIn K cd10 "resolved" = true) (k10 : PySem.W.keepIn K (.ref f10) = true)
    (a11 : PySem.W.nsIn K mainGlobals "run" = some (some (.ref f11))) (l11 : K.lookup f11 = some ⟨oc11, od11, .func (PySem.W.fnOf "run" "run" (defArgs s_run) (defBody s_run) (defScope s_run) .none kV11 dc11 pm11 an11 cd11 ct11), sl11⟩) (c11 : PySem.W.codeIn K cd11 "run" = true) (k11 : PySem.W.keepIn K (.ref f11) = true)
    (a12 : PySem.W.nsIn K mainGlobals "turned" = some (some (.ref f12))) (l12 : K.lookup f12 = some ⟨oc12, od12, .func (PySem.W.fnOf "turned" "turned" (defArgs s_turned) (defBody s_turned) (defScope s_turned) .none kV12 dc12 pm12 an12 cd12 ct12), sl12⟩) (c12 : PySem.W.codeIn K cd12 "turned" = true) (k12 : PySem.W.keepIn K (.ref f12) = true)
    (a13 : PySem.W.nsIn K mainGlobals "turned_by" = some (some (.ref f13))) (l13 : K.lookup f13 = some ⟨oc13, od13, .func (PySem.W.fnOf "turned_by" "turned_by" (defArgs s_turned_by) (defBody s_turned_by) (defScope s_turned_by) .none kV13 dc13 pm13 an13 cd13 ct13), sl13⟩) (c13 : PySem.W.codeIn K cd13 "turned_by" = true) (k13 : PySem.W.keepIn K (.ref f13) = true)
    (a14 : PySem.W.nsIn K mainGlobals "_law_cell" = some (some (.ref f14))) (l14 : K.lookup f14 = some ⟨oc14, od14, .func (PySem.W.fnOf "_law_cell" "_law_cell" (defArgs s__law_cell) (defBody s__law_cell) (defScope s__law_cell) .none kV14 dc14 pm14 an14 cd14 ct14), sl14⟩) (c14 : PySem.W.codeIn K cd14 "_law_cell" = true) (k14 : PySem.W.keepIn K (.ref f14) = true)
    (a15 : PySem.W.nsIn K mainGlobals "_law_turn" = some (some (.ref f15))) (l15 : K.lookup f15 = some ⟨oc15, od15, .func (PySem.W.fnOf "_law_turn" "_law_turn" (defArgs s__law_turn) (defBody s__law_turn) (defScope s__law_turn) .none kV15 dc15 pm15 an15 cd15 ct15), sl15⟩) (c15 : PySem.W.codeIn K cd15 "_law_turn" = true) (k15 : PySem.W.keepIn K (.ref f15) = true)
    (a16 : PySem.W.nsIn K mainGlobals "_law_kinds" = some (some (.ref f16))) (l16 : K.lookup f16 = some ⟨oc16, od16, .func (PySem.W.fnOf "_law_kinds" "_law_kinds" (defArgs s__law_kinds) (defBody s__law_kinds) (defScope s__law_kinds) .none kV16 dc16 pm16 an16 cd16 ct16), sl16⟩) (c16 : PySem.W.codeIn K cd16 "_law_kinds" = true) (k16 : PySem.W.keepIn K (.ref f16) = true)
    (a17 : PySem.W.nsIn K mainGlobals "_law_leaf" = some (some (.ref f17))) (l17 : K.lookup f17 = some ⟨oc17, od17, .func (PySem.W.fnOf "_law_leaf" "_law_leaf" (defArgs s__law_leaf) (defBody s__law_leaf) (defScope s__law_leaf) .none kV17 dc17 pm17 an17 cd17 ct17), sl17⟩) (c17 : PySem.W.codeIn K cd17 "_law_leaf" = true) (k17 : PySem.W.keepIn K (.ref f17) = true)
    (a18 : PySem.W.nsIn K mainGlobals "_law_pattern" = some (some (.ref f18))) (l18 : K.lookup f18 = some ⟨oc18, od18, .func (PySem.W.fnOf "_law_pattern" "_law_pattern" (defArgs s__law_pattern) (defBody s__law_pattern) (defScope s__law_pattern) .none kV18 dc18 pm18 an18 cd18 ct18), sl18⟩) (c18 : PySem.W.codeIn K cd18 "_law_pattern" = true) (k18 : PySem.W.keepIn K (.ref f18) = true)
    (a19 : PySem.W.nsIn K mainGlobals "_law_digit" = some (some (.ref f19))) (l19 : K.lookup f19 = some ⟨oc19, od19, .func (PySem.W.fnOf "_law_digit" "_law_digit" (defArgs s__law_digit) (defBody s__law_digit) (defScope s__law_digit) .none kV19 dc19 pm19 an19 cd19 ct19), sl19⟩) (c19 : PySem.W.codeIn K cd19 "_law_digit" = true) (k19 : PySem.W.keepIn K (.ref f19) = true)
    (a20 : PySem.W.nsIn K mainGlobals "_law_by_digits" = some (some (.ref f20))) (l20 : K.lookup f20 = some ⟨oc20, od20, .func (PySem.W.fnOf "_law_by_digits" "_law_by_digits" (defArgs s__law_by_digits) (defBody s__law_by_digits) (defScope s__law_by_digits) .none kV20 dc20 pm20 an20 cd20 ct20), sl20⟩) (c20 : PySem.W.codeIn K cd20 "_law_by_digits" = true) (k20 : PySem.W.keepIn K (.ref f20) = true)
    (a21 : PySem.W.nsIn K mainGlobals "_law_book_by_digits" = some (some (.ref f21))) (l21 : K.lookup f21 = some ⟨oc21, od21, .func (PySem.W.fnOf "_law_book_by_digits" "_law_book_by_digits" (defArgs s__law_book_by_digits) (defBody s__law_book_by_digits) (defScope s__law_book_by_digits) .none kV21 dc21 pm21 an21 cd21 ct21), sl21⟩) (c21 : PySem.W.codeIn K cd21 "_law_book_by_digits" = true) (k21 : PySem.W.keepIn K (.ref f21) = true)
    (a22 : PySem.W.nsIn K mainGlobals "_law_book" = some (some (.ref f22))) (l22 : K.lookup f22 = some ⟨oc22, od22, .func (PySem.W.fnOf "_law_book" "_law_book" (defArgs s__law_book) (defBody s__law_book) (defScope s__law_book) .none kV22 dc22 pm22 an22 cd22 ct22), sl22⟩) (c22 : PySem.W.codeIn K cd22 "_law_book" = true) (k22 : PySem.W.keepIn K (.ref f22) = true)
    (a23 : PySem.W.nsIn K mainGlobals "_law_knot" = some (some (.ref f23))) (l23 : K.lookup f23 = some ⟨oc23, od23, .func (PySem.W.fnOf "_law_knot" "_law_knot" (defArgs s__law_knot) (defBody s__law_knot) (defScope s__law_knot) .none kV23 dc23 pm23 an23 cd23 ct23), sl23⟩) (c23 : PySem.W.codeIn K cd23 "_law_knot" = true) (k23 : PySem.W.keepIn K (.ref f23) = true)
    (a24 : PySem.W.nsIn K mainGlobals "_law_tree" = some (some (.ref f24))) (l24 : K.lookup f24 = some ⟨oc24, od24, .func (PySem.W.fnOf "_law_tree" "_law_tree" (defArgs s__law_tree) (defBody s__law_tree) (defScope s__law_tree) .none kV24 dc24 pm24 an24 cd24 ct24), sl24⟩) (c24 : PySem.W.codeIn K cd24 "_law_tree" = true) (k24 : PySem.W.keepIn K (.ref f24) = true)
    (a25 : PySem.W.nsIn K mainGlobals "_law_size" = some (some (.ref f25))) (l25 : K.lookup f25 = some ⟨oc25, od25, .func (PySem.W.fnOf "_law_size" "_law_size" (defArgs s__law_size) (defBody s__law_size) (defScope s__law_size) .none kV25 dc25 pm25 an25 cd25 ct25), sl25⟩) (c25 : PySem.W.codeIn K cd25 "_law_size" = true) (k25 : PySem.W.keepIn K (.ref f25) = true)
    (a26 : PySem.W.nsIn K mainGlobals "_law_sizes" = some (some (.ref f26))) (l26 : K.lookup f26 = some ⟨oc26, od26, .func (PySem.W.fnOf "_law_sizes" "_law_sizes" (defArgs s__law_sizes) (defBody s__law_sizes) (defScope s__law_sizes) .none kV26 dc26 pm26 an26 cd26 ct26), sl26⟩) (c26 : PySem.W.codeIn K cd26 "_law_sizes" = true) (k26 : PySem.W.keepIn K (.ref f26) = true)
    (a27 : PySem.W.nsIn K mainGlobals "_law_made" = some (some (.ref f27))) (l27 : K.lookup f27 = some ⟨oc27, od27, .func (PySem.W.fnOf "_law_made" "_law_made" (defArgs s__law_made) (defBody s__law_made) (defScope s__law_made) .none kV27 dc27 pm27 an27 cd27 ct27), sl27⟩) (c27 : PySem.W.codeIn K cd27 "_law_made" = true) (k27 : PySem.W.keepIn K (.ref f27) = true)
    (a28 : PySem.W.nsIn K mainGlobals "_law_wrapped" = some (some (.ref f28))) (l28 : K.lookup f28 = some ⟨oc28, od28, .func (PySem.W.fnOf "_law_wrapped" "_law_wrapped" (defArgs s__law_wrapped) (defBody s__law_wrapped) (defScope s__law_wrapped) .none kV28 dc28 pm28 an28 cd28 ct28), sl28⟩) (c28 : PySem.W.codeIn K cd28 "_law_wrapped" = true) (k28 : PySem.W.keepIn K (.ref f28) = true)
    (a29 : PySem.W.nsIn K mainGlobals "_law_setting" = some (some (.ref f29))) (l29 : K.lookup f29 = some ⟨oc29, od29, .func (PySem.W.fnOf "_law_setting" "_law_setting" (defArgs s__law_setting) (defBody s__law_setting) (defScope s__law_setting) .none kV29 dc29 pm29 an29 cd29 ct29), sl29⟩) (c29 : PySem.W.codeIn K cd29 "_law_setting" = true) (k29 : PySem.W.keepIn K (.ref f29) = true)
    (a30 : PySem.W.nsIn K mainGlobals "_law_refusal" = some (some (.ref f30))) (l30 : K.lookup f30 = some ⟨oc30, od30, .func (PySem.W.fnOf "_law_refusal" "_law_refusal" (defArgs s__law_refusal) (defBody s__law_refusal) (defScope s__law_refusal) .none kV30 dc30 pm30 an30 cd30 ct30), sl30⟩) (c30 : PySem.W.codeIn K cd30 "_law_refusal" = true) (k30 : PySem.W.keepIn K (.ref f30) = true)
    (a31 : PySem.W.nsIn K mainGlobals "_law_right" = some (some (.ref f31))) (l31 : K.lookup f31 = some ⟨oc31, od31, .func (PySem.W.fnOf "_law_right" "_law_right" (defArgs s__law_right) (defBody s__law_right) (defScope s__law_right) .none kV31 dc31 pm31 an31 cd31 ct31), sl31⟩) (c31 : PySem.W.codeIn K cd31 "_law_right" = true) (k31 : PySem.W.keepIn K (.ref f31) = true)
    (a32 : PySem.W.nsIn K mainGlobals "law" = some (some (.ref f32))) (l32 : K.lookup f32 = some ⟨oc32, od32, .func (PySem.W.fnOf "law" "law" (defArgs s_law) (defBody s_law) (defScope s_law) .none kV32 dc32 pm32 an32 cd32 ct32), sl32⟩) (c32 : PySem.W.codeIn K cd32 "law" = true) (k32 : PySem.W.keepIn K (.ref f32) = true)
    (z0 : PySem.W.nsIn K mainGlobals "ValueError" = some none)
    (z1 : PySem.W.nsIn K mainGlobals "int" = some none)
    (z2 : PySem.W.nsIn K mainGlobals "isinstance" = some none)
    (z3 : PySem.W.nsIn K mainGlobals "len" = some none)
    (z4 : PySem.W.nsIn K mainGlobals "max" = some none)
    (z5 : PySem.W.nsIn K mainGlobals "range" = some none)
    (z6 : PySem.W.nsIn K mainGlobals "reversed" = some none)
    (z7 : PySem.W.nsIn K mainGlobals "sum" = some none)
    (z8 : PySem.W.nsIn K mainGlobals "tuple" = some none)
    (y0 : PySem.W.nsIn K mainGlobals "CALL_SIGN" = some (some (.str (Str.ofString "?") tk0)))
    (y1 : PySem.W.nsIn K mainGlobals "MOST_KNOTS" = some (some (.int 2000 tk1)))
    (y2 : PySem.W.nsIn K mainGlobals "TALLEST" = some (some (.int 150 tk2)))
    (xn_BookError : PySem.W.nsIn K mainGlobals "BookError" = some (some (.ref ex_BookError)))
    (xn_Great : PySem.W.nsIn K mainGlobals "Great" = some (some (.ref ex_Great)))
    (xn_Many : PySem.W.nsIn K mainGlobals "Many" = some (some (.ref ex_Many)))
    (xe_Great : PySem.W.excIn K ex_Great [.type "ValueError", .type "Exception", .type "BaseException", .type "object"] "ValueError.__new__" = true)
    (xg_Great : PySem.W.findIn K (.ref ex_Great) "__getattribute__" = some (some (.builtin "BaseException.__getattribute__")))
    (xh_Great : PySem.W.findIn K (.ref ex_Great) "__getattr__" = some none)
    (xc_Great : PySem.W.findIn K (.ref ex_Great) "__class__" = some (some (.builtin "object.__class__")))
    (xo_Great : PySem.W.mroIn K ex_Great (.type "object") = some true)
    (xb_Great : PySem.W.mroIn K ex_Great (.type "BaseException") = some true)
    (hit_Great_BookError : PySem.W.exmOne K (.ref ex_Great) (.ref ex_BookError) = some true)
    (kit_Great_Great : PySem.W.kitOne K (.ref ex_Great) (.ref ex_Great) = some true)
    (kit_Great_Many : PySem.W.kitOne K (.ref ex_Great) (.ref ex_Many) = some false)
    (kit_Great_ValueError : PySem.W.kitOne K (.ref ex_Great) (.type "ValueError") = some true) :
    ∃ fd : FuncData, (∀ (s : Shared) (v : Value), BindsTo s fd ⟨[v], []⟩ [("script", v)]) ∧ ∀ base : Heap, K.In base → base.Ns mainGlobals mg → FnOk l.prog w K mg base CX0 231 fa fd ["script"] (sp_law K) := by
  have e0 := hfa.symm.trans (PySem.W.mg_of X G a32)
  have e : f32 = fa := (Value.ref.inj (Option.some.inj e0)).symm
  subst e
  have F0 := fun_mk (st := s_built) l0 c0 k0
  have b0 := F0.binds (ps := ["tops"]) fun _ _ _ _ _ _ us hl => by obtain ⟨y0, rfl⟩ := us1 hl; rfl
  have F1 := fun_mk (st := s_is_call) l1 c1 k1
  have b1 := F1.binds (ps := ["thing"]) fun _ _ _ _ _ _ us hl => by obtain ⟨y0, rfl⟩ := us1 hl; rfl
  have F2 := fun_mk (st := s_called_by) l2 c2 k2
  have b2 := F2.binds (ps := ["call"]) fun _ _ _ _ _ _ us hl => by obtain ⟨y0, rfl⟩ := us1 hl; rfl
  have F3 := fun_mk (st := s_ins_of) l3 c3 k3
  have b3 := F3.binds (ps := ["book"]) fun _ _ _ _ _ _ us hl => by obtain ⟨y0, rfl⟩ := us1 hl; rfl
  have F4 := fun_mk (st := s_head_of) l4 c4 k4
  have b4 := F4.binds (ps := ["book"]) fun _ _ _ _ _ _ us hl => by obtain ⟨y0, rfl⟩ := us1 hl; rfl
  have F5 := fun_mk (st := s_rules_of) l5 c5 k5
  have b5 := F5.binds (ps := ["book"]) fun _ _ _ _ _ _ us hl => by obtain ⟨y0, rfl⟩ := us1 hl; rfl
  have F6 := fun_mk (st := s_pattern_of) l6 c6 k6
  have b6 := F6.binds (ps := ["book", "state", "name"]) fun _ _ _ _ _ _ us hl => by obtain ⟨y0, y1, y2, rfl⟩ := us3 hl; rfl
  have F7 := fun_mk (st := s_above) l7 c7 k7
  have b7 := F7.binds (ps := ["tree"]) fun _ _ _ _ _ _ us hl => by obtain ⟨y0, rfl⟩ := us1 hl; rfl
  have F8 := fun_mk (st := s_call_of) l8 c8 k8
  have b8 := F8.binds (ps := ["state"]) fun _ _ _ _ _ _ us hl => by obtain ⟨y0, rfl⟩ := us1 hl; rfl
  have F9 := fun_mk (st := s_led_on) l9 c9 k9
  have b9 := F9.binds (ps := ["book", "call", "knot"]) fun _ _ _ _ _ _ us hl => by obtain ⟨y0, y1, y2, rfl⟩ := us3 hl; rfl
  have F10 := fun_mk (st := s_resolved) l10 c10 k10
  have b10 := F10.binds (ps := ["book", "part", "knot"]) fun _ _ _ _ _ _ us hl => by obtain ⟨y0, y1, y2, rfl⟩ := us3 hl; rfl
  have F11 := fun_mk (st := s_run) l11 c11 k11
  have b11 := F11.binds (ps := ["book", "head", "tree"]) fun _ _ _ _ _ _ us hl => by obtain ⟨y0, y1, y2, rfl⟩ := us3 hl; rfl
  have F12 := fun_mk (st := s_turned) l12 c12 k12
  have b12 := F12.binds (ps := ["book", "tree"]) fun _ _ _ _ _ _ us hl => by obtain ⟨y0, y1, rfl⟩ := us2 hl; rfl
  have F13 := fun_mk (st := s_turned_by) l13 c13 k13
  have b13 := F13.binds (ps := ["book", "state", "tree"]) fun _ _ _ _ _ _ us hl => by obtain ⟨y0, y1, y2, rfl⟩ := us3 hl; rfl
  have F14 := fun_mk (st := s__law_cell) l14 c14 k14
  have b14 := F14.binds (ps := ["script", "k"]) fun _ _ _ _ _ _ us hl => by obtain ⟨y0, y1, rfl⟩ := us2 hl; rfl
  have F15 := fun_mk (st := s__law_turn) l15 c15 k15
  have b15 := F15.binds (ps := ["cell", "k"]) fun _ _ _ _ _ _ us hl => by obtain ⟨y0, y1, rfl⟩ := us2 hl; rfl
  have F16 := fun_mk (st := s__law_kinds) l16 c16 k16
  have b16 := F16.binds (ps := ["cell", "letters"]) fun _ _ _ _ _ _ us hl => by obtain ⟨y0, y1, rfl⟩ := us2 hl; rfl
  have F17 := fun_mk (st := s__law_leaf) l17 c17 k17
  have b17 := F17.binds (ps := ["kinds", "cell"]) fun _ _ _ _ _ _ us hl => by obtain ⟨y0, y1, rfl⟩ := us2 hl; rfl
  have F18 := fun_mk (st := s__law_pattern) l18 c18 k18
  have b18 := F18.binds (ps := ["cell", "outs", "states", "kids", "deep"]) fun _ _ _ _ _ _ us hl => by obtain ⟨y0, y1, y2, y3, y4, rfl⟩ := us5 hl; rfl
  have F19 := fun_mk (st := s__law_digit) l19 c19 k19
  have b19 := F19.binds (ps := ["left", "many"]) fun _ _ _ _ _ _ us hl => by obtain ⟨y0, y1, rfl⟩ := us2 hl; rfl
  have F20 := fun_mk (st := s__law_by_digits) l20 c20 k20
  have b20 := F20.binds (ps := ["left", "outs", "states", "kids", "deep"]) fun _ _ _ _ _ _ us hl => by obtain ⟨y0, y1, y2, y3, y4, rfl⟩ := us5 hl; rfl
  have F21 := fun_mk (st := s__law_book_by_digits) l21 c21 k21
  have b21 := F21.binds (ps := ["cell", "ins", "outs", "states", "deep"]) fun _ _ _ _ _ _ us hl => by obtain ⟨y0, y1, y2, y3, y4, rfl⟩ := us5 hl; rfl
  have F22 := fun_mk (st := s__law_book) l22 c22 k22
  have b22 := F22.binds (ps := ["cell", "ins", "outs", "states", "deep"]) fun _ _ _ _ _ _ us hl => by obtain ⟨y0, y1, y2, y3, y4, rfl⟩ := us5 hl; rfl
  have F23 := fun_mk (st := s__law_knot) l23 c23 k23
  have b23 := F23.binds (ps := ["kind", "kids"]) fun _ _ _ _ _ _ us hl => by obtain ⟨y0, y1, rfl⟩ := us2 hl; rfl
  have F24 := fun_mk (st := s__law_tree) l24 c24 k24
  have b24 := F24.binds (ps := ["cells", "ins"]) fun _ _ _ _ _ _ us hl => by obtain ⟨y0, y1, rfl⟩ := us2 hl; rfl
  have F25 := fun_mk (st := s__law_size) l25 c25 k25
  have b25 := F25.binds (ps := ["pattern", "kids"]) fun _ _ _ _ _ _ us hl => by obtain ⟨y0, y1, rfl⟩ := us2 hl; rfl
  have F26 := fun_mk (st := s__law_sizes) l26 c26 k26
  have b26 := F26.binds (ps := ["book", "tree"]) fun _ _ _ _ _ _ us hl => by obtain ⟨y0, y1, rfl⟩ := us2 hl; rfl
  have F27 := fun_mk (st := s__law_made) l27 c27 k27
  have b27 := F27.binds (ps := ["book", "pattern", "trees"]) fun _ _ _ _ _ _ us hl => by obtain ⟨y0, y1, y2, rfl⟩ := us3 hl; rfl
  have F28 := fun_mk (st := s__law_wrapped) l28 c28 k28
  have b28 := F28.binds (ps := ["pattern", "kind", "leaf", "many"]) fun _ _ _ _ _ _ us hl => by obtain ⟨y0, y1, y2, y3, rfl⟩ := us4 hl; rfl
  have F29 := fun_mk (st := s__law_setting) l29 c29 k29
  have b29 := F29.binds (ps := ["script", "most", "deep"]) fun _ _ _ _ _ _ us hl => by obtain ⟨y0, y1, y2, rfl⟩ := us3 hl; rfl
  have F30 := fun_mk (st := s__law_refusal) l30 c30 k30
  have b30 := F30.binds (ps := ["book", "tree", "state"]) fun _ _ _ _ _ _ us hl => by obtain ⟨y0, y1, y2, rfl⟩ := us3 hl; rfl
  have F31 := fun_mk (st := s__law_right) l31 c31 k31
  have b31 := F31.binds (ps := ["book", "tree", "state", "size"]) fun _ _ _ _ _ _ us hl => by obtain ⟨y0, y1, y2, y3, rfl⟩ := us4 hl; rfl
  have F32 := fun_mk (st := s_law) l32 c32 k32
  have b32 := F32.binds (ps := ["script"]) fun _ _ _ _ _ _ us hl => by obtain ⟨y0, rfl⟩ := us1 hl; rfl
  let T : TX K mg := ⟨⟨tk0, PySem.W.mg_of X G y0⟩, ⟨tk1, PySem.W.mg_of X G y1⟩, ⟨tk2, PySem.W.mg_of X G y2⟩, ex_BookError, PySem.W.mg_of X G xn_BookError, ex_Great, PySem.W.mg_of X G xn_Great, ex_Many, PySem.W.mg_of X G xn_Many, xe_Great, xg_Great, xh_Great, xc_Great, xo_Great, xb_Great, hit_Great_BookError, kit_Great_Great, kit_Great_Many, kit_Great_ValueError, f0, _, F0, b0, PySem.W.mg_of X G a0, f1, _, F1, b1, PySem.W.mg_of X G a1, f2, _, F2, b2, PySem.W.mg_of X G a2, f3, _, F3, b3, PySem.W.mg_of X G a3, f4, _, F4, b4, PySem.W.mg_of X G a4, f5, _, F5, b5, PySem.W.mg_of X G a5, f6, _, F6, b6, PySem.W.mg_of X G a6, f7, _, F7, b7, PySem.W.mg_of X G a7, f8, _, F8, b8, PySem.W.mg_of X G a8, f9, _, F9, b9, PySem.W.mg_of X G a9, f10, _, F10, b10, PySem.W.mg_of X G a10, f11, _, F11, b11, PySem.W.mg_of X G a11, f12, _, F12, b12, PySem.W.mg_of X G a12, f13, _, F13, b13, PySem.W.mg_of X G a13, f14, _, F14, b14, PySem.W.mg_of X G a14, f15, _, F15, b15, PySem.W.mg_of X G a15, f16, _, F16, b16, PySem.W.mg_of X G a16, f17, _, F17, b17, PySem.W.mg_of X G a17, f18, _, F18, b18, PySem.W.mg_of X G a18, f19, _, F19, b19, PySem.W.mg_of X G a19, f20, _, F20, b20, PySem.W.mg_of X G a20, f21, _, F21, b21, PySem.W.mg_of X G a21, f22, _, F22, b22, PySem.W.mg_of X G a22, f23, _, F23, b23, PySem.W.mg_of X G a23, f24, _, F24, b24, PySem.W.mg_of X G a24, f25, _, F25, b25, PySem.W.mg_of X G a25, f26, _, F26, b26, PySem.W.mg_of X G a26, f27, _, F27, b27, PySem.W.mg_of X G a27, f28, _, F28, b28, PySem.W.mg_of X G a28, f29, _, F29, b29, PySem.W.mg_of X G a29, f30, _, F30, b30, PySem.W.mg_of X G a30, f31, _, F31, b31, PySem.W.mg_of X G a31, f32, _, F32, b32, PySem.W.mg_of X G a32, PySem.W.mg_none_of X G z0, PySem.W.mg_none_of X G z1, PySem.W.mg_none_of X G z2, PySem.W.mg_none_of X G z3, PySem.W.mg_none_of X G z4, PySem.W.mg_none_of X G z5, PySem.W.mg_none_of X G z6, PySem.W.mg_none_of X G z7, PySem.W.mg_none_of X G z8⟩
  refine ⟨PySem.W.fnOf "law" "law" (defArgs s_law) (defBody s_law) (defScope s_law) .none kV32 dc32 pm32 an32 cd32 ct32, fun s v => .of_eq rfl, fun base _ _ => ?_⟩
  exact ok_law T
theorem walk {l : PySem.W.OpenLaw} {q : Program} {loose : List Str} {XP : (Str → Option Value) → Heap → Prop} {YP : World → Heap → Prop} {d : DefRec} {K : Params → PySem.W.Frag} (hn : l.most = some 63) (hdf : d.params.defaults = [])
    (hY : ∀ (w : World) (h : Heap), YP w h → (K w.params).In h)
    (F : ∀ (w : World) (mg : Str → Option Value) (fa : Addr) (h : Heap), (K w.params).In h → h.Ns mainGlobals mg → mg d.name = some (.ref fa) →
      ∃ fd : FuncData, (∀ (s : Shared) (u : Value), BindsTo s fd ⟨[u], []⟩ [("script", u)]) ∧ ∀ base : Heap, (K w.params).In base → base.Ns mainGlobals mg → FnOk l.prog w (K w.params) mg base CX0 231 fa fd ["script"] (sp_law (K w.params))) :
    PySem.W.WalkO q loose XP YP l.row.toRowW d [] (fun f vs => PySem.call f vs) :=
  L2.walk_of (n := 63) (k := 231) (x := "script") (CX := fun _ => CX0) (sp := fun w => sp_law (K w.params)) hn (by decide) hdf ⟨rfl, by decide, by decide⟩ hY F (fun _ _ a ns hl _ hS => ⟨a, ns, rfl, hS, hl, fun _ => rfl⟩) fun _ _ _ _ _ z => z
end LAW
open PySem PySem.W PyProof.Rows
set_option maxRecDepth 100000 in
set_option maxHeartbeats 0 in
theorem PySem.Challenge.cw_boughbook_k22_trees_turned_holds : PySem.Challenge.rw_boughbook_k22_trees_turned.Holds := by
  w_on; o_law; k_head; (case hw => w_witness2)
  k_fill
  refine LAW.walk (l := PySem.Challenge.rw_boughbook_k22_trees_turned) rfl rfl (fun w h Y => PySem.W.kIn_of Y) ?F
  case F =>
    intro w mg fa h KX G hmg
    refine' LAW.all_mk KX G hmg ?a0 ?l0 ?c0 ?k0 ?a1 ?l1 ?c1 ?k1 ?a2 ?l2 ?c2 ?k2 ?a3 ?l3 ?c3 ?k3 ?a4 ?l4 ?c4 ?k4 ?a5 ?l5 ?c5 ?k5 ?a6 ?l6 ?c6 ?k6 ?a7 ?l7 ?c7 ?k7 ?a8 ?l8 ?c8 ?k8 ?a9 ?l9 ?c9 ?k9 ?a10 ?l10 ?c10 ?k10 ?a11 ?l11 ?c11 ?k11 ?a12 ?l12 ?c12 ?k12 ?a13 ?l13 ?c13 ?k13 ?a14 ?l14 ?c14 ?k14 ?a15 ?l15 ?c15 ?k15 ?a16 ?l16 ?c16 ?k16 ?a17 ?l17 ?c17 ?k17 ?a18 ?l18 ?c18 ?k18 ?a19 ?l19 ?c19 ?k19 ?a20 ?l20 ?c20 ?k20 ?a21 ?l21 ?c21 ?k21 ?a22 ?l22 ?c22 ?k22 ?a23 ?l23 ?c23 ?k23 ?a24 ?l24 ?c24 ?k24 ?a25 ?l25 ?c25 ?k25 ?a26 ?l26 ?c26 ?k26 ?a27 ?l27 ?c27 ?k27 ?a28 ?l28 ?c28 ?k28 ?a29 ?l29 ?c29 ?k29 ?a30 ?l30 ?c30 ?k30 ?a31 ?l31 ?c31 ?k31 ?a32 ?l32 ?c32 ?k32 ?z0 ?z1 ?z2 ?z3 ?z4 ?z5 ?z6 ?z7 ?z8 ?y0 ?y1 ?y2 ?xn_BookError ?xn_Great ?xn_Many ?xe_Great ?xg_Great ?xh_Great ?xc_Great ?xo_Great ?xb_Great ?hit_Great_BookError ?kit_Great_Great ?kit_Great_Many ?kit_Great_ValueError
    (case a0 => k_is)
    (case l0 => k_is)
    (case c0 => k_is)
    (case k0 => k_is)
    (case a1 => k_is)
    (case l1 => k_is)
    (case c1 => k_is)
    (case k1 => k_is)
    (case a2 => k_is)
    (case l2 => k_is)
    (case c2 => k_is)
    (case k2 => k_is)
    (case a3 => k_is)
    (case l3 => k_is)
    (case c3 => k_is)
    (case k3 => k_is)
    (case a4 => k_is)
    (case l4 => k_is)
    (case c4 => k_is)
    (case k4 => k_is)
    (case a5 => k_is)
    (case l5 => k_is)
    (case c5 => k_is)
    (case k5 => k_is)
    (case a6 => k_is)
    (case l6 => k_is)
    (case c6 => k_is)
    (case k6 => k_is)
    (case a7 => k_is)
    (case l7 => k_is)
    (case c7 => k_is)
    (case k7 => k_is)
    (case a8 => k_is)
    (case l8 => k_is)
    (case c8 => k_is)
    (case k8 => k_is)
    (case a9 => k_is)
    (case l9 => k_is)
    (case c9 => k_is)
    (case k9 => k_is)
    (case a10 => k_is)
    (case l10 => k_is)
    (case c10 => k_is)
    (case k10 => k_is)
    (case a11 => k_is)
    (case l11 => k_is)
    (case c11 => k_is)
    (case k11 => k_is)
    (case a12 => k_is)
    (case l12 => k_is)
    (case c12 => k_is)
    (case k12 => k_is)
    (case a13 => k_is)
    (case l13 => k_is)
    (case c13 => k_is)
    (case k13 => k_is)
    (case a14 => k_is)
    (case l14 => k_is)
    (case c14 => k_is)
    (case k14 => k_is)
    (case a15 => k_is)
    (case l15 => k_is)
    (case c15 => k_is)
    (case k15 => k_is)
    (case a16 => k_is)
    (case l16 => k_is)
    (case c16 => k_is)
    (case k16 => k_is)
    (case a17 => k_is)
    (case l17 => k_is)
    (case c17 => k_is)
    (case k17 => k_is)
    (case a18 => k_is)
    (case l18 => k_is)
    (case c18 => k_is)
    (case k18 => k_is)
    (case a19 => k_is)
    (case l19 => k_is)
    (case c19 => k_is)
    (case k19 => k_is)
    (case a20 => k_is)
    (case l20 => k_is)
    (case c20 => k_is)
    (case k20 => k_is)
    (case a21 => k_is)
    (case l21 => k_is)
    (case c21 => k_is)
    (case k21 => k_is)
    (case a22 => k_is)
    (case l22 => k_is)
    (case c22 => k_is)
    (case k22 => k_is)
    (case a23 => k_is)
    (case l23 => k_is)
    (case c23 => k_is)
    (case k23 => k_is)
    (case a24 => k_is)
    (case l24 => k_is)
    (case c24 => k_is)
    (case k24 => k_is)
    (case a25 => k_is)
    (case l25 => k_is)
    (case c25 => k_is)
    (case k25 => k_is)
    (case a26 => k_is)
    (case l26 => k_is)
    (case c26 => k_is)
    (case k26 => k_is)
    (case a27 => k_is)
    (case l27 => k_is)
    (case c27 => k_is)
    (case k27 => k_is)
    (case a28 => k_is)
    (case l28 => k_is)
    (case c28 => k_is)
    (case k28 => k_is)
    (case a29 => k_is)
    (case l29 => k_is)
    (case c29 => k_is)
    (case k29 => k_is)
    (case a30 => k_is)
    (case l30 => k_is)
    (case c30 => k_is)
    (case k30 => k_is)
    (case a31 => k_is)
    (case l31 => k_is)
    (case c31 => k_is)
    (case k31 => k_is)
    (case a32 => k_is)
    (case l32 => k_is)
    (case c32 => k_is)
    (case k32 => k_is)
    (case z0 => k_is)
    (case z1 => k_is)
    (case z2 => k_is)
    (case z3 => k_is)
    (case z4 => k_is)
    (case z5 => k_is)
    (case z6 => k_is)
    (case z7 => k_is)
    (case z8 => k_is)
    (case y0 => k_is)
    (case y1 => k_is)
    (case y2 => k_is)
    (case xn_BookError => k_is)
    (case xn_Great => k_is)
    (case xn_Many => k_is)
    (case xe_Great => k_exc)
    (case xg_Great => k_is)
    (case xh_Great => k_is)
    (case xc_Great => k_is)
    (case xo_Great => k_is)
    (case xb_Great => k_is)
    (case hit_Great_BookError => kts_exm)
    (case kit_Great_Great => kit_is)
    (case kit_Great_Many => kit_is)
    (case kit_Great_ValueError => kit_is)

